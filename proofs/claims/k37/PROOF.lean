import PyProof.Rows.All
import Wide.All
import OpenK.AllK
import Wide.FinOn
import Lean
import PyProof.EqAt
import PyProof.EqKinds
import PyProof.TupleCall
import PyProof.AttrMissHeap
import KE.KEqDict
import KE.KItemsList
import PyProof.WalksMore
import PyProof.TupleOfStr
import PySem.Challenge.RW_mergetree_k37_what_is_a_tree
set_option Elab.async false
set_option linter.all false
set_option maxRecDepth 100000
namespace L2
open PySem PySem.Spec PyProof.Rows
abbrev Key := Sum Int Str
def keyIs : Key → Value → Bool
  | .inl k, v => Value.isInt k v
  | .inr x, v => Value.isStrOf x v
def keyH (w : World) : Key → Int
  | .inl k => hashInt k
  | .inr x => hashStr w x
theorem keyIs_shape : ∀ {k : Key} {v : Value}, keyIs k v = true → (∃ i t, k = Sum.inl i ∧ v = Value.int i t) ∨ (∃ x t, k = Sum.inr x ∧ v = Value.str x t)
  | .inl i, v, h => by
    obtain ⟨t, e⟩ := Value.isInt_shape (k := i) (v := v) h
    exact .inl ⟨i, t, rfl, e⟩
  | .inr x, v, h => by
    obtain ⟨t, e⟩ := Value.isStrOf_shape (x := x) (v := v) h
    exact .inr ⟨x, t, rfl, e⟩
theorem key_ll (a b : Int) : decide ((Sum.inl a : Key) = Sum.inl b) = (a == b) := by
  by_cases e : a = b
  · subst e; simp
  · have h : ¬ (Sum.inl a : Key) = Sum.inl b := fun q => e (Sum.inl.inj q)
    rw [decide_eq_false h]
    exact (beq_eq_false_iff_ne.mpr e).symm
theorem key_rr (a b : Str) : decide ((Sum.inr a : Key) = Sum.inr b) = decide (a = b) := by
  by_cases e : a = b
  · subst e; simp
  · have h : ¬ (Sum.inr a : Key) = Sum.inr b := fun q => e (Sum.inr.inj q)
    rw [decide_eq_false h, decide_eq_false e]
theorem key_lr (a : Int) (b : Str) : decide ((Sum.inl a : Key) = Sum.inr b) = false := decide_eq_false (fun q => nomatch q)
theorem key_rl (a : Str) (b : Int) : decide ((Sum.inr a : Key) = Sum.inl b) = false := decide_eq_false (fun q => nomatch q)
def mixKind (prog : Program) (w : World) : PySem.KeyKind prog w Key where
  is := keyIs
  hash := keyH w
  inj := fun v a b ha hb => by
    rcases keyIs_shape ha with ⟨i, t, rfl, rfl⟩ | ⟨x, t, rfl, rfl⟩
    · rcases keyIs_shape hb with ⟨j, u, rfl, e⟩ | ⟨y, u, rfl, e⟩
      · injection e with e1 _; rw [e1]
      · exact nomatch e
    · rcases keyIs_shape hb with ⟨j, u, rfl, e⟩ | ⟨y, u, rfl, e⟩
      · exact nomatch e
      · injection e with e1 _; rw [e1]
  byValue := fun k v h => by
    rcases keyIs_shape h with ⟨i, t, rfl, rfl⟩ | ⟨x, t, rfl, rfl⟩ <;> rfl
  pyHash := fun hv h => by
    rcases keyIs_shape hv with ⟨i, t, rfl, rfl⟩ | ⟨x, t, rfl, rfl⟩
    · exact wpAny_pyHash_int h
    · exact wpAny_pyHash_str h
  eqBool := fun hu hv h => by
    rcases keyIs_shape hu with ⟨i, t, rfl, rfl⟩ | ⟨x, t, rfl, rfl⟩
    · rcases keyIs_shape hv with ⟨j, u, rfl, rfl⟩ | ⟨y, u, rfl, rfl⟩
      · rw [key_ll] at h; exact wpAny_eqBool_int h
      · rw [key_lr] at h; exact SeqAt.EqAt.int_str i t y u _ _ _ _ h
    · rcases keyIs_shape hv with ⟨j, u, rfl, rfl⟩ | ⟨y, u, rfl, rfl⟩
      · rw [key_rl] at h; exact SeqAt.EqAt.str_int x t j u _ _ _ _ h
      · rw [key_rr] at h; exact wpAny_eqBool_str h
  «strs» := fun k x t v h => by
    rcases keyIs_shape h with ⟨i, u, rfl, e⟩ | ⟨y, u, rfl, e⟩
    · exact nomatch e
    · injection e with e1 _
      subst e1
      cases v <;> rfl
theorem mixKind_is (prog : Program) (w : World) (k : Key) (v : Value) : (mixKind prog w).is k v = keyIs k v := rfl
end L2
namespace L2
open PySem PySem.Spec PyProof.Rows
inductive V where
  | non | bl (b : Bool) | int (i : Int) | str (x : Str) | byt (b : Array UInt8) | flt (b : UInt64) | ref (a : Addr) | ty (n : String)
  deriving DecidableEq
def RelV : V → Value → Prop
  | .non, u => u = Value.none
  | .bl b, u => u = Value.bool b
  | .int i, u => ∃ t, u = Value.int i t
  | .str x, u => ∃ t, u = Value.str x t
  | .byt b, u => ∃ t, u = Value.bytes b t
  | .flt b, u => ∃ t, u = Value.float b t
  | .ref a, u => u = Value.ref a
  | .ty n, u => u = Value.type n
abbrev Vals : List V → List Value → Prop := Paired RelV
theorem Vals.length {xs : List V} {us : List Value} (r : Vals xs us) : xs.length = us.length := Paired.length r
theorem Vals.get : ∀ {xs : List V} {us : List Value} {i : Nat} {x : V}, Vals xs us → xs[i]? = some x → ∃ u, us[i]? = some u ∧ RelV x u
  | _, _, _, _, .nil, e => by simp at e
  | _, _, 0, _, .cons r _, e => by simp at e; subst e; exact ⟨_, rfl, r⟩
  | _, _, i + 1, x, .cons _ t, e => by
    obtain ⟨u, h1, h2⟩ := Vals.get (i := i) (x := x) t (by simpa using e)
    exact ⟨u, by simpa using h1, h2⟩
theorem Vals.set {x : V} {u : Value} (r : RelV x u) : ∀ {xs : List V} {us : List Value} (i : Nat), Vals xs us → Vals (xs.set i x) (us.set i u)
  | _, _, _, .nil => .nil
  | _, _, 0, .cons _ t => .cons r t
  | _, _, i + 1, .cons q t => .cons q (Vals.set r i t)
theorem Vals.append : ∀ {xs ys : List V} {us ws : List Value}, Vals xs us → Vals ys ws → Vals (xs ++ ys) (us ++ ws)
  | _, _, _, _, .nil, s => s
  | _, _, _, _, .cons r t, s => .cons r (Vals.append t s)
theorem Vals.take : ∀ {xs : List V} {us : List Value} (n : Nat), Vals xs us → Vals (xs.take n) (us.take n)
  | _, _, 0, _ => .nil
  | _, _, _ + 1, .nil => .nil
  | _, _, n + 1, .cons r t => .cons r (Vals.take n t)
theorem Vals.drop : ∀ {xs : List V} {us : List Value} (n : Nat), Vals xs us → Vals (xs.drop n) (us.drop n)
  | _, _, 0, r => r
  | _, _, _ + 1, .nil => .nil
  | _, _, n + 1, .cons _ t => Vals.drop n t
def RelO : Option V → Option Value → Prop
  | some v, some u => RelV v u
  | none, none => True
  | _, _ => False
def KV {κ : Type} : List (κ × V) → List (κ × Value) → Prop := Paired fun (p : κ × V) (q : κ × Value) => p.1 = q.1 ∧ RelV p.2 q.2
def kV : Key → V
  | .inl i => .int i
  | .inr x => .str x
inductive HO where
  /-- a list -/
  | lst (xs : List V)
  /-- a tuple (never changes) -/
  | tup (xs : List V)
  /-- a dict whose keys are ints and texts; one whose keys are tuples of ints and texts (the empty one is both) -/
  | dK (kvs : List (Key × V)) | dT (kvs : List (List Key × V))
  /-- a set of ints: its members, its size -/
  | set (S : Int → Bool) (n : Nat)
  /-- an instance of the class at C, its dict at dx, its attributes -/
  | ins (C dx : Addr) (fs : List (Str × V))
  /-- the dict of the instance at x -/
  | own (x : Addr)
  /-- the dict of an exception -/
  | xd (fs : List (Str × V))
  /-- a bound method, f of x -/
  | met (f x : Addr)
  /-- a range object lo, lo + 1, .. below hi -/
  | rng (lo hi : Int)
  /-- a thing that is known to the object (the script; a dict while a loop walks it): read, never written while it is so -/
  | frz (o : Obj) (u : HO)
  /-- a code object's table -/
  | tbl (ps : Array Value)
  /-- any other thing, by what is true of its one object (a def of one's own: SetO a S n := HO.ext fun h => ..) -/
  | ext (φ : Heap → Prop)
abbrev Hp := Addr → Option HO
def upd (H : Hp) (a : Addr) (o : HO) : Hp := fun b => if b = a then some o else H b
theorem upd_same {H : Hp} {a : Addr} {o : HO} : upd H a o a = some o := by unfold upd; rw [if_pos rfl]
theorem upd_ne {H : Hp} {a b : Addr} {o : HO} (h : b ≠ a) : upd H a o b = H b := by unfold upd; rw [if_neg h]
theorem ne_of_none {H : Hp} {a b : Addr} {o : HO} (h : H a = some o) (h' : H b = none) : a ≠ b := by
  intro e; subst e; rw [h] at h'; cases h'
section
variable (P : Program) (w : World)
def ObjOk (H : Hp) (h : Heap) (a : Addr) : HO → Prop
  | .lst xs => xs.length ≤ sizeLine ∧ ∃ (its : List Value) (n : Nat), Vals xs its ∧ h.get? a = some { cls := .type "list", data := .seq its.toArray n }
  | .tup xs => xs.length ≤ sizeLine ∧ ∃ its : List Value, Vals xs its ∧ IsTup h a its.toArray
  | .dK kvs => kvs.length ≤ sizeLine ∧ (a == sysModules) = false ∧ ∃ vs, KV kvs vs ∧ h.DictOf (mixKind P w) a vs
  | .dT kvs => kvs.length ≤ sizeLine ∧ (a == sysModules) = false ∧ ∃ xs : List (List Key × Addr × Value),
      Paired (fun (p : List Key × V) (q : List Key × Addr × Value) => p.1 = q.1 ∧ H q.2.1 = some (.tup (p.1.map kV)) ∧ RelV p.2 q.2.2) kvs xs ∧
      ∃ o es ep, h.get? a = some o ∧ o.ExactDict ∧ o.data = .dict es ep ∧ es.toList = xs.map (entryOfKey (tupleKind (mixKind P w))) ∧ (xs.map (·.1)).Nodup
  | .set S n => h.SetOf (intKind P w) a S n
  | .ins C dx fs => H dx = some (.own a) ∧ fs.length ≤ 1000 ∧ dx ≠ a ∧ h.get? a = some (PySem.W.instObj C dx) ∧
      ∃ mA, h.Ns1 dx mA ∧ (∀ f, RelO (fs.lookup f) (mA f)) ∧ PySem.Within mA (fs.map (·.1))
  | .own _ => ∃ o, h.get? a = some o
  | .xd fs => ∃ mA, h.Ns1 a mA ∧ ∀ f, RelO (fs.lookup f) (mA f)
  | .rng lo hi => ∃ t u v, h.get? a = some { cls := .type "range", data := .fields #[.int lo t, .int hi u, .int 1 v] }
  | .frz o u => h.get? a = some o ∧ ObjOk H h a u
  | .tbl ps => h.get? a = some { cls := .none, data := .fields ps }
  | .met f x => h.get? a = some (PySem.W.methodObj (.ref f) (.ref x))
  | .ext φ => φ h ∧ (∃ o, h.get? a = some o) ∧ ∀ h1 h2 : Heap, φ h1 → (∀ o, h1.get? a = some o → h2.get? a = some o) → φ h2
def HOk (H : Hp) (h : Heap) : Prop := ∀ a o, H a = some o → ObjOk P w H h a o
end
section
variable {P : Program} {w : World} {H H' : Hp} {h h' : Heap} {a : Addr} {o : HO}
theorem ObjOk.lt (x : ObjOk P w H h a o) : a < h.objs.size := by
  cases o with
  | lst xs => obtain ⟨_, _, _, _, e⟩ := x; exact Heap.lt_size e
  | tup xs => obtain ⟨_, _, _, p⟩ := x; exact p.lt
  | dK kvs => obtain ⟨_, _, _, _, o, _, _, e, _⟩ := x; exact Heap.lt_size e
  | dT kvs => obtain ⟨_, _, _, _, o, _, _, e, _⟩ := x; exact Heap.lt_size e
  | set S n => obtain ⟨o, _, _, _, e, _⟩ := x; exact Heap.lt_size e
  | ins C dx fs => obtain ⟨_, _, _, e, _⟩ := x; exact Heap.lt_size e
  | own y => obtain ⟨_, e⟩ := x; exact Heap.lt_size e
  | xd fs => obtain ⟨_, ⟨_, _, _, e, _⟩, _⟩ := x; exact Heap.lt_size e
  | rng lo hi => obtain ⟨_, _, _, e⟩ := x; exact Heap.lt_size e
  | frz ob u => obtain ⟨e, _⟩ := x; exact Heap.lt_size e
  | tbl ps => exact Heap.lt_size (show h.get? a = some _ from x)
  | met f y => exact Heap.lt_size (show h.get? a = some _ from x)
  | ext φ => obtain ⟨_, ⟨_, e⟩, _⟩ := x; exact Heap.lt_size e
theorem Paired.mapP {α β : Type} {F G : α → β → Prop} : ∀ {l₁ : List α} {l₂ : List β}, Paired F l₁ l₂ → (∀ a b, F a b → G a b) → Paired G l₁ l₂
  | _, _, .nil, _ => .nil
  | _, _, .cons r t, f => .cons (f _ _ r) (Paired.mapP t f)
theorem ObjOk.stay (x : ObjOk P w H h a o) (k : ∀ b u, (b = a ∨ H b = some (.own a)) → h.get? b = some u → h'.get? b = some u)
    (ho : ∀ b, H b = some (.own a) → H' b = some (.own a)) (ht : ∀ b xs, H b = some (.tup xs) → H' b = some (.tup xs)) : ObjOk P w H' h' a o := by
  induction o with
  | lst xs => obtain ⟨z, its, n, r, e⟩ := x; exact ⟨z, its, n, r, k _ _ (.inl rfl) e⟩
  | tup xs => obtain ⟨z, its, r, ob, e, c⟩ := x; exact ⟨z, its, r, ob, k _ _ (.inl rfl) e, c⟩
  | dK kvs => obtain ⟨z, y, vs, r, ob, es, ep, e, c⟩ := x; exact ⟨z, y, vs, r, ob, es, ep, k _ _ (.inl rfl) e, c⟩
  | dT kvs =>
    obtain ⟨z, y, xs, r, ob, es, ep, e, c⟩ := x
    exact ⟨z, y, xs, Paired.mapP r fun p q z => ⟨z.1, ht _ _ z.2.1, z.2.2⟩, ob, es, ep, k _ _ (.inl rfl) e, c⟩
  | set S n => obtain ⟨ob, es, ep, t, e, c⟩ := x; exact ⟨ob, es, ep, t, k _ _ (.inl rfl) e, c⟩
  | ins C dx fs =>
    obtain ⟨d, z, ne, e, mA, ⟨od, es, ep, e2, c⟩, r⟩ := x
    exact ⟨ho _ d, z, ne, k _ _ (.inl rfl) e, mA, ⟨od, es, ep, k _ _ (.inr d) e2, c⟩, r⟩
  | own y => obtain ⟨ob, e⟩ := x; exact ⟨ob, k _ _ (.inl rfl) e⟩
  | xd fs => obtain ⟨mA, ⟨od, es, ep, e, c⟩, r⟩ := x; exact ⟨mA, ⟨od, es, ep, k _ _ (.inl rfl) e, c⟩, r⟩
  | rng lo hi => obtain ⟨t, u, v, e⟩ := x; exact ⟨t, u, v, k _ _ (.inl rfl) e⟩
  | frz ob u ih => obtain ⟨e, q⟩ := x; exact ⟨k _ _ (.inl rfl) e, ih q⟩
  | tbl ps =>
    have e : h.get? a = some { cls := .none, data := .fields ps } := x
    show h'.get? a = some { cls := .none, data := .fields ps }
    exact k a _ (.inl rfl) e
  | met f y =>
    have e : h.get? a = some (PySem.W.methodObj (.ref f) (.ref y)) := x
    show h'.get? a = some (PySem.W.methodObj (.ref f) (.ref y))
    exact k a _ (.inl rfl) e
  | ext φ => obtain ⟨p, ⟨o, e⟩, st⟩ := x; exact ⟨st _ _ p fun o q => k _ _ (.inl rfl) q, ⟨o, k _ _ (.inl rfl) e⟩, st⟩
theorem HOk.lt (x : HOk P w H h) (e : H a = some o) : a < h.objs.size := (x a o e).lt
theorem HOk.fresh (x : HOk P w H h) (e : h.objs.size ≤ a) : H a = none := by
  cases q : H a with
  | none => rfl
  | some u => exact absurd (Nat.lt_of_lt_of_le (x.lt q) e) (Nat.lt_irrefl _)
theorem HOk.kept (x : HOk P w H h) (k : ∀ b u, h.get? b = some u → h'.get? b = some u) : HOk P w H h' := fun a o e =>
  (x a o e).stay (fun b u _ q => k b u q) (fun _ q => q) fun _ _ q => q
theorem HOk.laid (x : HOk P w H h) (k : ∀ b u, h.get? b = some u → h'.get? b = some u) (hp : h.objs.size ≤ a) (new : ObjOk P w (upd H a o) h' a o) : HOk P w (upd H a o) h' := fun b u e => by
  have hn := x.fresh hp
  by_cases hb : b = a
  · subst hb; rw [upd_same] at e; cases e; exact new
  · rw [upd_ne hb] at e
    exact (x b u e).stay (fun c v _ q => k c v q) (fun c q => by rw [upd_ne (ne_of_none q hn)]; exact q) fun c xs q => by rw [upd_ne (ne_of_none q hn)]; exact q
end
def Rd (H : Hp) (a : Addr) (u : HO) : Prop := H a = some u ∨ ∃ o, H a = some (.frz o u)
theorem Rd.ok {P : Program} {w : World} {H : Hp} {h : Heap} {a : Addr} {u : HO} (r : Rd H a u) (x : HOk P w H h) : ObjOk P w H h a u := by
  rcases r with r | ⟨o, r⟩
  · exact x a u r
  · obtain ⟨_, q⟩ := x a _ r
    exact q
def Mut : Option HO → Prop
  | some (.lst _) => True
  | some (.dK _) => True
  | some (.dT _) => True
  | some (.set _ _) => True
  | some (.ins _ _ _) => True
  | some (.ext _) => True
  | _ => False
section
variable {P : Program} {w : World} {H : Hp} {h h' : Heap} {x e : Addr} {o' : HO}
theorem HOk.write (ok : HOk P w H h) (mu : Mut (H x)) (he : e = x ∨ H e = some (.own x)) (k : ∀ b u, b ≠ e → h.get? b = some u → h'.get? b = some u) (heo : ∃ u, h'.get? e = some u)
    (new : ObjOk P w (upd H x o') h' x o') : HOk P w (upd H x o') h' := fun b u q => by
  have nown : ∀ c y, H c = some (.own y) → c ≠ x := fun c y r z => by subst z; rw [r] at mu; exact mu
  have ntup : ∀ c xs, H c = some (.tup xs) → c ≠ x := fun c xs r z => by subst z; rw [r] at mu; exact mu
  by_cases hb : b = x
  · subst hb; rw [upd_same] at q; cases q; exact new
  · rw [upd_ne hb] at q
    by_cases hbe : b = e
    · have q' : H b = some (.own x) := by
        rcases he with z | z
        · exact absurd (hbe.trans z) hb
        · rw [hbe]; exact z
      rw [q] at q'; cases q'
      obtain ⟨v, hv⟩ := heo
      exact ⟨v, by rw [hbe]; exact hv⟩
    · refine (ok b u q).stay (fun c v hc r => k c v ?_ r) (fun c r => by rw [upd_ne (nown c b r)]; exact r) fun c xs r => by rw [upd_ne (ntup c xs r)]; exact r
      rcases hc with rfl | hc
      · exact hbe
      · rintro rfl
        rcases he with z | z
        · exact nown c b hc z
        · rw [hc] at z; cases z; exact hb rfl
end
structure Un (fs ex : List Addr) (H H' : Hp) (h h' : Heap) : Prop where
  keep : ∀ b o, h.get? b = some o → H b = none → b ∉ fs → b ∉ ex → h'.get? b = some o
  slot : ∀ b o, h.get? b = some o → H b = none → b ∈ fs → b ∉ ex → ∃ sl, h'.get? b = some { o with slots := sl }
  free : ∀ b o, h.get? b = some o → H b = none → b ∉ ex → H' b = none
  there : ∀ b o, h.get? b = some o → b ∉ ex → ∃ o', h'.get? b = some o'
  tups : ∀ b xs, H b = some (.tup xs) → H' b = some (.tup xs)
  frzs : ∀ b o u, H b = some (.frz o u) → H' b = some (.frz o u)
  tbls : ∀ b ps, H b = some (.tbl ps) → ∃ more, H' b = some (.tbl (ps ++ more))
section
variable {fs fs' ex ex' : List Addr} {H H1 H2 : Hp} {h h1 h2 h' : Heap} {a x e : Addr} {o : HO}
theorem Un.any (u : Un fs ex H H1 h h1) {b : Addr} {ob : Obj} (q : h.get? b = some ob) (n : H b = none) (hx : b ∉ ex) : ∃ sl, h1.get? b = some { ob with slots := sl } := by
  by_cases hb : b ∈ fs
  · exact u.slot b ob q n hb hx
  · exact ⟨ob.slots, u.keep b ob q n hb hx⟩
theorem Un.kept (k : ∀ b u, h.get? b = some u → h'.get? b = some u) : Un fs ex H H h h' :=
  ⟨fun b ob q _ _ _ => k b ob q, fun b ob q _ _ _ => ⟨ob.slots, k b ob q⟩, fun _ _ _ n _ => n, fun b ob q _ => ⟨ob, k b ob q⟩, fun _ _ q => q, fun _ _ _ q => q, fun _ ps q => ⟨#[], by rw [q]; simp⟩⟩
theorem Un.refl : Un fs ex H H h h := Un.kept fun _ _ q => q
theorem Un.laid (k : ∀ b u, h.get? b = some u → h'.get? b = some u) (hp : h.objs.size ≤ a) (hn : H a = none) : Un fs ex H (upd H a o) h h' where
  keep := fun b u q _ _ _ => k b u q
  slot := fun b u q _ _ _ => ⟨u.slots, k b u q⟩
  free := fun b u q n _ => by rw [upd_ne (Nat.ne_of_lt (Nat.lt_of_lt_of_le (Heap.lt_size q) hp))]; exact n
  there := fun b u q _ => ⟨u, k b u q⟩
  tups := fun b xs q => by rw [upd_ne (ne_of_none q hn)]; exact q
  frzs := fun b u xs q => by rw [upd_ne (ne_of_none q hn)]; exact q
  tbls := fun b ps q => ⟨#[], by rw [upd_ne (ne_of_none q hn), q]; simp⟩
theorem Un.write (mu : Mut (H x)) (he : e = x ∨ H e = some (.own x)) (k : ∀ b u, b ≠ e → h.get? b = some u → h'.get? b = some u) (heo : ∃ u, h'.get? e = some u) : Un fs ex H (upd H x o) h h' := by
  have hx : ∀ b, H b = none → b ≠ x := fun b n z => by subst z; rw [n] at mu; exact mu
  have hb : ∀ b, H b = none → b ≠ e := fun b n z => by
    subst z
    rcases he with r | r
    · exact hx b n r
    · rw [n] at r; cases r
  have hm : ∀ b u, H b = some u → ¬ Mut (some u) → b ≠ x := fun b u q nm z => by subst z; rw [q] at mu; exact nm mu
  refine ⟨fun b u q n _ _ => k b u (hb b n) q, fun b u q n _ _ => ⟨u.slots, k b u (hb b n) q⟩, fun b u q n _ => by rw [upd_ne (hx b n)]; exact n, fun b u q _ => ?_,
    fun b xs q => by rw [upd_ne (hm b _ q fun z => z)]; exact q, fun b u xs q => by rw [upd_ne (hm b _ q fun z => z)]; exact q, fun b ps q => ⟨#[], by rw [upd_ne (hm b _ q fun z => z), q]; simp⟩⟩
  by_cases hbe : b = e
  · subst hbe; exact heo
  · exact ⟨u, k b u hbe q⟩
end
def trk (h : Heap) (H : Hp) : List Addr := (List.range h.objs.size).filter fun a => (H a).isSome
def hidT (h : Heap) (H : Hp) : Heap := PySem.W.hideAll h (trk h H)
theorem hidT_size (h : Heap) (H : Hp) : (hidT h H).objs.size = h.objs.size := PySem.W.hideAll_size _ _
theorem hidT_get {h : Heap} {H : Hp} {b : Addr} {o : Obj} (e : h.get? b = some o) (n : H b = none) : (hidT h H).get? b = some o :=
  PySem.W.hideAll_get _ e fun hm => by
    have q : (H b).isSome = true := (List.mem_filter.mp hm).2
    rw [n] at q; simp at q
theorem of_hidT {h : Heap} {H : Hp} {b : Addr} {o : Obj} (e : (hidT h H).get? b = some o) : h.get? b = some o ∧ H b = none := by
  have e' : h.get? b = some o := PySem.W.of_hideAll (trk h H) e
  refine ⟨e', ?_⟩
  cases q : H b with
  | none => rfl
  | some x =>
    have hm : b ∈ trk h H := List.mem_filter.mpr ⟨List.mem_range.mpr (Heap.lt_size e'), by simp [q]⟩
    have z : (hidT h H).get? b = none := PySem.W.hideAll_none (trk h H) hm
    rw [z] at e; cases e
def allNews (g h : Heap) (L : Addr) : List (Addr × Obj) := (List.range h.objs.size).filterMap fun a => if a = L ∨ (g.get? a).isSome = true then none else (h.get? a).map fun o => (a, o)
def rest (g h : Heap) (L d : Addr) : List (Addr × Obj) := (allNews g h L).filter fun p => decide (p.1 ≠ d)
end L2
namespace L2
open PySem PySem.Spec PyProof.Rows
structure Mod (K : PySem.W.Frag) (mg : Str → Option Value) (base : Heap) : Prop where
  kin : K.In base
  glob : base.Ns mainGlobals mg
  blt : ∃ mb, base.Ns builtinsNs mb ∧ ∀ x : Str, x ≠ "__name__" → mb x = bootBuiltins x
  nolimit : base.NoLimit
structure Cx where
  prog : Program
  w : World
  K : PySem.W.Frag
  mg : Str → Option Value
  base : Heap
  A : Around
  N : List Str
  s₀ : Shared
  H₀ : Hp
  env : Env
  outer : List Env
  stack : List Env
  ex : List Addr
  fn : Str → Bool
  calm : Bool
  pn : List (Addr × Obj)
  xe : Value → Shared → Prop
def frs (l : List Env) : List Addr := l.filterMap (·.frame)
abbrev Cx.fs (X : Cx) : List Addr := frs X.outer
def Vis (sc : Scope) (x : Str) : Prop := sc.names.lookup x = some .local ∨ sc.names.lookup x = some .cell ∨ sc.names.lookup x = some .free
def Loc (sc : Scope) (x : Str) : Prop := sc.names.lookup x = some .local ∨ sc.names.lookup x = some .cell
def Look (env : Env) (h : Heap) (m : Str → Option Value) (x : Str) (u : Value) : Prop :=
  (env.kindOf x = some .local ∧ m x = some u) ∨ ((env.kindOf x = some .cell ∨ env.kindOf x = some .free) ∧ ∃ c, env.cells.lookup x = some c ∧ h.IsCell c (some u))
structure Cx.Ok (X : Cx) : Prop where
  mod : Mod X.K X.mg X.base
  kind : X.env.scope.kind = .function
  glob : X.env.globals = mainGlobals
  blt : X.env.builtins = builtinsNs
  above : X.s₀.heap.objs.size ≤ X.env.locals
  inj : ∀ x y c, X.env.cells.lookup x = some c → X.env.cells.lookup y = some c → x = y
  has : ∀ x, (X.env.kindOf x = some .cell ∨ X.env.kindOf x = some .free) → ∃ c, X.env.cells.lookup x = some c
  cab : ∀ x c, X.fn x = true → X.env.cells.lookup x = some c → X.s₀.heap.objs.size ≤ c
  hd : X.calm = true → X.A.handled = none
  frames : X.A.frames = some X.stack
  stk : X.stack = X.outer ∨ (X.stack = X.env :: X.outer ∧ X.env.frame = some X.env.locals)
  exf : ∀ b ∈ X.ex, b ≠ X.env.locals ∧ ∀ x c, X.env.cells.lookup x = some c → c ≠ b
  bs : ∀ b o, X.base.get? b = some o → X.s₀.heap.get? b = some o ∧ X.H₀ b = none
  bsz : X.base.objs.size ≤ X.s₀.heap.objs.size
  noex : ∀ b o, X.base.get? b = some o → b ∉ X.ex
  exfs : ∀ b ∈ X.ex, b ∉ X.fs
  funs : X.s₀.heap.FunFrames X.base X.outer
  frf : ∀ b ∈ X.fs, X.H₀ b = none
structure Inv (X : Cx) (pins : List (Addr × Obj)) (σ : List (Option V)) (H : Hp) (s : Shared) : Prop where
  ok : X.Ok
  os : s.os = X.s₀.os
  bare : AllBare s.gens
  base : Un X.fs X.ex X.H₀ H X.s₀.heap s.heap
  loc : ∃ m, s.heap.Ns X.env.locals m ∧ ∀ (i : Nat) (x : Str) (v : V), X.N[i]? = some x → σ[i]? = some (some v) → Vis X.env.scope x → ∃ u, RelV v u ∧ Look X.env s.heap m x u
  cell : ∀ x c, X.env.cells.lookup x = some c → ∃ v, s.heap.IsCell c v
  free : H X.env.locals = none
  freeC : ∀ x c, X.env.cells.lookup x = some c → H c = none
  pin : ∀ p ∈ X.pn ++ pins, s.heap.get? p.1 = some p.2 ∧ H p.1 = none ∧ p.1 ≠ X.env.locals ∧ p.1 ∉ X.fs ∧ ∀ v, p.2.data ≠ .cell v
  hok : HOk X.prog X.w H s.heap
  len : σ.length = X.N.length
section
variable {X : Cx} {pins : List (Addr × Obj)} {σ : List (Option V)} {H H' : Hp} {s : Shared} {h' : Heap}
theorem Cx.Ok.nofr (ok : X.Ok) {b : Addr} {o : Obj} (e : X.base.get? b = some o) : b ∉ X.fs := fun hb => by
  have := (ok.funs.mem hb).1
  rw [e] at this; cases this
theorem Inv.bs (I : Inv X pins σ H s) : ∀ b o, X.base.get? b = some o → s.heap.get? b = some o ∧ H b = none := fun b o e =>
  ⟨I.base.keep b o (I.ok.bs b o e).1 (I.ok.bs b o e).2 (I.ok.nofr e) (I.ok.noex b o e), I.base.free b o (I.ok.bs b o e).1 (I.ok.bs b o e).2 (I.ok.noex b o e)⟩
theorem Inv.bk (I : Inv X pins σ H s) : ∀ b o, X.base.get? b = some o → s.heap.get? b = some o := fun b o e => (I.bs b o e).1
theorem Inv.mod (I : Inv X pins σ H s) : Mod X.K X.mg X.base := I.ok.mod
theorem Inv.kIn (I : Inv X pins σ H s) : X.K.In s.heap := I.ok.mod.kin.keeps I.bk
theorem Inv.lt (I : Inv X pins σ H s) : X.env.locals < s.heap.objs.size := let ⟨_, hn, _⟩ := I.loc; hn.lt
theorem Inv.sz (I : Inv X pins σ H s) : X.s₀.heap.objs.size ≤ s.heap.objs.size := Nat.le_trans I.ok.above (Nat.le_of_lt I.lt)
theorem Inv.nofs (I : Inv X pins σ H s) {a : Addr} (h : s.heap.objs.size ≤ a) : a ∉ X.fs := fun hb => by
  obtain ⟨_, o, ho, _⟩ := I.ok.funs.mem hb
  exact absurd (Nat.lt_of_lt_of_le (Heap.lt_size ho) (Nat.le_trans I.sz h)) (Nat.lt_irrefl _)
theorem Inv.cne (I : Inv X pins σ H s) : ∀ x c, X.env.cells.lookup x = some c → c ≠ X.env.locals := fun x c e z => by
  obtain ⟨v, o, ho, hd⟩ := I.cell x c e
  obtain ⟨m, ⟨o', es, ep, ho', hd', _⟩, _⟩ := I.loc
  rw [z, ho'] at ho; cases ho; rw [hd'] at hd; cases hd
theorem Inv.funs (I : Inv X pins σ H s) : s.heap.FunFrames X.base X.outer := by
  have all : ∀ (l : List Env), (∀ b ∈ frs l, b ∈ X.fs) → X.s₀.heap.FunFrames X.base l → s.heap.FunFrames X.base l := by
    intro l
    induction l with
    | nil => intro _ _; trivial
    | cons env r ih =>
      intro hs hl
      obtain ⟨hk, ⟨L, o, hf, hn, ho, hd⟩, hr⟩ := hl
      have hL : L ∈ X.fs := hs L (by unfold frs; rw [List.filterMap_cons, hf]; exact List.mem_cons_self)
      obtain ⟨sl, e⟩ := I.base.slot L o ho (I.ok.frf L hL) hL fun z => I.ok.exfs L z hL
      exact ⟨hk, ⟨L, _, hf, hn, e, hd⟩, ih (fun b hb => hs b (by unfold frs; rw [List.filterMap_cons, hf]; exact List.mem_cons_of_mem _ hb)) hr⟩
  exact all X.outer (fun _ hb => hb) I.ok.funs
theorem Inv.stack (I : Inv X pins σ H s) : s.heap.FunFrames X.base X.stack := by
  rcases I.ok.stk with e | ⟨e, hf⟩
  · rw [e]; exact I.funs
  · rw [e]
    obtain ⟨m, hn, _⟩ := I.loc
    refine .cons (by rw [I.ok.kind]; decide) hf hn ?_ I.funs
    exact Heap.get?_none_of_le (Nat.le_trans I.ok.bsz I.ok.above)
theorem Inv.stkSub (I : Inv X pins σ H s) : ∀ b ∈ frs X.stack, b ∈ X.env.locals :: X.fs := fun b hb => by
  rcases I.ok.stk with e | ⟨e, hf⟩
  · rw [e] at hb; exact List.mem_cons_of_mem _ hb
  · rw [e] at hb
    unfold frs at hb
    rw [List.filterMap_cons, hf] at hb
    exact hb
theorem Inv.stkFree (I : Inv X pins σ H s) : ∀ b ∈ frs X.stack, H b = none := fun b hb => by
  rcases List.mem_cons.mp (I.stkSub b hb) with e | hb
  · rw [e]; exact I.free
  · obtain ⟨_, o, ho, _⟩ := I.ok.funs.mem hb
    exact I.base.free b o ho (I.ok.frf b hb) fun z => I.ok.exfs b z hb
theorem Inv.step {g' : Array GenState} {t' : Nat} {d' : Drawn} {ch : List Addr} (I : Inv X pins σ H s)
    (hch : ∀ b ∈ ch, (b ∈ X.ex ∨ X.s₀.heap.objs.size ≤ b) ∧ b ≠ X.env.locals ∧ (∀ x c, X.env.cells.lookup x = some c → c ≠ b) ∧ ∀ p ∈ X.pn ++ pins, p.1 ≠ b)
    (keep : ∀ b o, b ≠ X.env.locals → b ∉ X.fs → b ∉ ch → s.heap.get? b = some o → H b = none → h'.get? b = some o)
    (slot : ∀ b o, b ≠ X.env.locals → b ∈ X.fs → b ∉ ch → s.heap.get? b = some o → H b = none → ∃ sl, h'.get? b = some { o with slots := sl }) (free : ∀ b o, b ∉ ch → s.heap.get? b = some o → H b = none → H' b = none)
    (there : ∀ b o, b ∉ ch → s.heap.get? b = some o → ∃ o', h'.get? b = some o')
    (tups : ∀ b xs, H b = some (.tup xs) → H' b = some (.tup xs)) (frzs : ∀ b o u, H b = some (.frz o u) → H' b = some (.frz o u)) (tbls : ∀ b ps, H b = some (.tbl ps) → ∃ more, H' b = some (.tbl (ps ++ more)))
    (ns : ∀ m, s.heap.Ns X.env.locals m → h'.Ns X.env.locals m) (hok : HOk X.prog X.w H' h') (hg : AllBare g') :
    Inv X pins σ H' { s with heap := h', gens := g', drawn := d', toks := t' } := by
  have neL : ∀ b o, X.s₀.heap.get? b = some o → b ≠ X.env.locals := fun b o e => Nat.ne_of_lt (Nat.lt_of_lt_of_le (Heap.lt_size e) I.ok.above)
  have neC : ∀ b o, X.s₀.heap.get? b = some o → b ∉ X.ex → b ∉ ch := fun b o e hx hb => by
    rcases (hch b hb).1 with z | z
    · exact hx z
    · exact absurd (Nat.lt_of_lt_of_le (Heap.lt_size e) z) (Nat.lt_irrefl _)
  have cellK : ∀ x c, X.env.cells.lookup x = some c → ∀ v, s.heap.IsCell c v → h'.IsCell c v := fun x c e v ⟨o, ho, hd⟩ => by
    have nch : c ∉ ch := fun z => (hch c z).2.2.1 x c e rfl
    by_cases hc : c ∈ X.fs
    · obtain ⟨sl, q⟩ := slot c o (I.cne x c e) hc nch ho (I.freeC x c e)
      exact ⟨_, q, hd⟩
    · exact ⟨o, keep c o (I.cne x c e) hc nch ho (I.freeC x c e), hd⟩
  refine ⟨I.ok, I.os, hg, ⟨fun b o e n hb hx => ?_, fun b o e n hb hx => ?_, fun b o e n hx => ?_, fun b o e hx => ?_, fun b xs e => tups b xs (I.base.tups b xs e), fun b o xs e => frzs b o xs (I.base.frzs b o xs e), fun b ps e => ?_⟩, ?_, fun x c e => ?_, ?_, fun x c e => ?_, fun p hp => ?_, hok, I.len⟩
  · exact keep b o (neL b o e) hb (neC b o e hx) (I.base.keep b o e n hb hx) (I.base.free b o e n hx)
  · obtain ⟨sl, e1⟩ := I.base.slot b o e n hb hx
    obtain ⟨sl', e2⟩ := slot b _ (neL b o e) hb (neC b o e hx) e1 (I.base.free b o e n hx)
    exact ⟨sl', e2⟩
  · obtain ⟨o', e1⟩ := I.base.there b o e hx
    exact free b o' (neC b o e hx) e1 (I.base.free b o e n hx)
  · obtain ⟨o', e1⟩ := I.base.there b o e hx
    exact there b o' (neC b o e hx) e1
  · obtain ⟨m1, e1⟩ := I.base.tbls b ps e
    obtain ⟨m2, e2⟩ := tbls b _ e1
    exact ⟨m1 ++ m2, by rw [e2, Array.append_assoc]⟩
  · obtain ⟨m, hn, hl⟩ := I.loc
    refine ⟨m, ns m hn, fun i x v e1 e2 e3 => ?_⟩
    obtain ⟨u, r, l⟩ := hl i x v e1 e2 e3
    refine ⟨u, r, ?_⟩
    rcases l with l | ⟨k, c, e, z⟩
    · exact .inl l
    · exact .inr ⟨k, c, e, cellK x c e _ z⟩
  · obtain ⟨v, z⟩ := I.cell x c e
    exact ⟨v, cellK x c e v z⟩
  · obtain ⟨m, ⟨o, _, _, ho, _⟩, _⟩ := I.loc
    exact free _ o (fun z => (hch _ z).2.1 rfl) ho I.free
  · obtain ⟨v, o, ho, hd⟩ := I.cell x c e
    exact free c o (fun z => (hch c z).2.2.1 x c e rfl) ho (I.freeC x c e)
  · obtain ⟨e, n, ne, nf, d⟩ := I.pin p hp
    have nch : p.1 ∉ ch := fun z => (hch p.1 z).2.2.2 p hp rfl
    exact ⟨keep p.1 p.2 ne nf nch e n, free p.1 p.2 nch e n, ne, nf, d⟩
theorem Inv.un {t' : Nat} (I : Inv X pins σ H s) (u : Un X.fs [] H H' s.heap h') (hok : HOk X.prog X.w H' h') : Inv X pins σ H' { s with heap := h', toks := t' } := by
  obtain ⟨m, ⟨o, es, ep, ho, r⟩, _⟩ := id I.loc
  obtain ⟨sl, hL⟩ := u.any ho I.free (by simp)
  exact I.step (g' := s.gens) (d' := s.drawn) (ch := []) (fun _ z => nomatch z) (fun b o _ hb _ e n => u.keep b o e n hb (by simp)) (fun b o _ hb _ e n => u.slot b o e n hb (by simp)) (fun b o _ e n => u.free b o e n (by simp)) (fun b o _ e => u.there b o e (by simp)) u.tups u.frzs u.tbls (fun m' hm => by
    obtain ⟨o', es', ep', ho', r'⟩ := hm
    rw [ho] at ho'; cases ho'
    exact ⟨_, es', ep', hL, r'⟩) hok I.bare
theorem Inv.call {g' : Array GenState} {t' : Nat} {d' : Drawn} {ch : List Addr} (I : Inv X pins σ H s) (u : Un (frs X.stack) ch H H' s.heap h') (hok : HOk X.prog X.w H' h') (hg : AllBare g')
    (hch : ∀ b ∈ ch, (b ∈ X.ex ∨ X.s₀.heap.objs.size ≤ b) ∧ b ≠ X.env.locals ∧ (∀ x c, X.env.cells.lookup x = some c → c ≠ b) ∧ ∀ p ∈ X.pn ++ pins, p.1 ≠ b) :
    Inv X pins σ H' { s with heap := h', gens := g', drawn := d', toks := t' } := by
  obtain ⟨m, ⟨o, es, ep, ho, r⟩, _⟩ := id I.loc
  obtain ⟨sl, hL⟩ := u.any ho I.free fun z => (hch _ z).2.1 rfl
  exact I.step (ch := ch) hch (fun b o hL hb hc e n => u.keep b o e n (fun z => (List.mem_cons.mp (I.stkSub b z)).elim hL hb) hc) (fun b o _ _ hc e n => u.any e n hc) (fun b o hc e n => u.free b o e n hc) (fun b o hc e => u.there b o e hc) u.tups u.frzs u.tbls (fun m' hm => by
    obtain ⟨o', es', ep', ho', r'⟩ := hm
    rw [ho] at ho'; cases ho'
    exact ⟨_, es', ep', hL, r'⟩) hok hg
theorem Inv.turned {t' : Nat} {it : Addr} (I : Inv X pins σ H s) (k : ∀ b o, b ≠ it → s.heap.get? b = some o → h'.get? b = some o) (hn : H it = none) (hL : it ≠ X.env.locals)
    (h1 : it ∈ X.ex ∨ X.s₀.heap.objs.size ≤ it) (h2 : ∀ x c, X.env.cells.lookup x = some c → c ≠ it) (h3 : ∀ p ∈ X.pn ++ pins, p.1 ≠ it) : Inv X pins σ H { s with heap := h', toks := t' } := by
  have nit : ∀ b u, H b = some u → b ≠ it := fun b u e z => by rw [z, hn] at e; cases e
  refine I.step (g' := s.gens) (d' := s.drawn) (ch := [it]) (fun b hb => ?_) (fun b o _ _ hc e _ => k b o (fun z => hc (by simp [z])) e) (fun b o _ _ hc e _ => ⟨o.slots, k b o (fun z => hc (by simp [z])) e⟩) (fun _ _ _ _ n => n)
    (fun b o hc e => ⟨o, k b o (fun z => hc (by simp [z])) e⟩) (fun _ _ e => e) (fun _ _ _ e => e) (fun b ps e => ⟨#[], by rw [e]; simp⟩) (fun m hm => ?_) (fun b u e => ?_) I.bare
  · have e : b = it := by simpa using hb
    subst e
    exact ⟨h1, hL, h2, h3⟩
  · obtain ⟨o, es, ep, ho, r⟩ := hm
    exact ⟨o, es, ep, k _ o (Ne.symm hL) ho, r⟩
  · refine (I.hok b u e).stay (fun c v hc q => k c v ?_ q) (fun _ q => q) fun _ _ q => q
    rcases hc with z | z
    · rw [z]; exact nit b u e
    · exact nit c _ z
theorem Inv.tok (I : Inv X pins σ H s) (t : Nat) : Inv X pins σ H { s with toks := t } := I.un (h' := s.heap) (t' := t) Un.refl I.hok
theorem Inv.kept {t' : Nat} (I : Inv X pins σ H s) (k : ∀ b u, s.heap.get? b = some u → h'.get? b = some u) : Inv X pins σ H { s with heap := h', toks := t' } := I.un (Un.kept k) (I.hok.kept k)
theorem Inv.laid {a : Addr} {o : HO} {t' : Nat} (I : Inv X pins σ H s) (k : ∀ b u, s.heap.get? b = some u → h'.get? b = some u) (hp : s.heap.objs.size ≤ a) (new : ObjOk X.prog X.w (upd H a o) h' a o) :
    Inv X pins σ (upd H a o) { s with heap := h', toks := t' } := I.un (Un.laid k hp (I.hok.fresh hp)) (I.hok.laid k hp new)
theorem Inv.write {x e : Addr} {o : HO} {t' : Nat} (I : Inv X pins σ H s) (mu : Mut (H x)) (he : e = x ∨ H e = some (.own x)) (k : ∀ b u, b ≠ e → s.heap.get? b = some u → h'.get? b = some u) (heo : ∃ u, h'.get? e = some u)
    (new : ObjOk X.prog X.w (upd H x o) h' x o) : Inv X pins σ (upd H x o) { s with heap := h', toks := t' } := I.un (Un.write mu he k heo) (I.hok.write mu he k heo new)
theorem Inv.pins_of {pins' : List (Addr × Obj)} (I : Inv X pins σ H s) (h : ∀ p ∈ pins', s.heap.get? p.1 = some p.2 ∧ H p.1 = none ∧ p.1 ≠ X.env.locals ∧ p.1 ∉ X.fs ∧ ∀ v, p.2.data ≠ .cell v) : Inv X pins' σ H s :=
  ⟨I.ok, I.os, I.bare, I.base, I.loc, I.cell, I.free, I.freeC, fun p hp => (List.mem_append.mp hp).elim (fun z => I.pin p (List.mem_append_left _ z)) (h p), I.hok, I.len⟩
theorem nodup_ix {N : List Str} (hN : N.Nodup) {i j : Nat} {x : Str} (a : N[i]? = some x) (b : N[j]? = some x) : i = j := by
  obtain ⟨h1, e1⟩ := List.getElem?_eq_some_iff.mp a
  obtain ⟨h2, e2⟩ := List.getElem?_eq_some_iff.mp b
  exact (List.getElem_inj hN).mp (e1.trans e2.symm)
theorem store_ok2 {M : Model} {A : Around} {E : Value → Shared → Prop} {i : Nat} {x : Str} {v : V} {u : Value} {Q : Unit → Shared → Prop} (I : Inv X pins σ H s) (hN : X.N.Nodup) (hi : X.N[i]? = some x) (hx : Loc X.env.scope x) (r : RelV v u)
    (h : ∀ s', Inv X pins (σ.set i (some v)) H s' → (∃ a, Heap.SameBut a s.heap s'.heap ∧ (a = X.env.locals ∨ X.env.cells.lookup x = some a)) → Q () s') (hf : X.fn x = true ∨ X.env.scope.names.lookup x = some .local := by first | exact .inl rfl | exact .inr rfl | assumption) : wpAny M A (storeName X.env x u) Q E s := by
  obtain ⟨m, hn, hl⟩ := id I.loc
  have hcls : (X.env.scope.kind == .class || (X.env.scope.kind == .module && X.env.locals != X.env.globals)) = false := by rw [I.ok.kind]; rfl
  have hiσ : i < σ.length := by rw [I.len]; exact (List.getElem?_eq_some_iff.mp hi).1
  have cne := I.cne
  have tracked : ∀ {a : Addr} {h' : Heap}, (∃ o, s.heap.get? a = some o ∧ H a = none) → Heap.SameBut a s.heap h' → HOk X.prog X.w H h' := fun {a h'} ha hs b ob e => by
    obtain ⟨_, _, hfree⟩ := ha
    refine (I.hok b ob e).stay (fun c w' hc q => (hs.2 c ?_).trans q) (fun _ q => q) fun _ _ q => q
    rintro rfl
    rcases hc with rfl | hc
    · rw [hfree] at e; cases e
    · rw [hfree] at hc; cases hc
  rcases hx with hk | hk
  · refine wpAny_storeName_local hk hn (fun h' hn' hs => ?_) hcls
    obtain ⟨oL, _, _, hoL, _⟩ := id hn
    refine h _ ⟨I.ok, I.os, I.bare, ⟨fun b o e n hb hx => ?_, fun b o e n hb hx => ?_, I.base.free, fun b o e hx => ?_, I.base.tups, I.base.frzs, I.base.tbls⟩, ⟨_, hn', fun j y v' e1 e2 e3 => ?_⟩, fun y c e => ?_, I.free, I.freeC, fun p hp => ?_, tracked ⟨oL, hoL, I.free⟩ hs, by simpa using I.len⟩ ⟨_, hs, .inl rfl⟩
    · exact (hs.2 b (Nat.ne_of_lt (Nat.lt_of_lt_of_le (Heap.lt_size e) I.ok.above))).trans (I.base.keep b o e n hb hx)
    · obtain ⟨sl, e1⟩ := I.base.slot b o e n hb hx
      exact ⟨sl, (hs.2 b (Nat.ne_of_lt (Nat.lt_of_lt_of_le (Heap.lt_size e) I.ok.above))).trans e1⟩
    · obtain ⟨o', e1⟩ := I.base.there b o e hx
      exact ⟨o', (hs.2 b (Nat.ne_of_lt (Nat.lt_of_lt_of_le (Heap.lt_size e) I.ok.above))).trans e1⟩
    · by_cases hj : j = i
      · subst hj
        rw [hi] at e1; cases e1
        rw [List.getElem?_set_self hiσ] at e2
        cases e2
        exact ⟨u, r, .inl ⟨hk, by simp⟩⟩
      · rw [List.getElem?_set_ne (Ne.symm hj)] at e2
        obtain ⟨u', r', q⟩ := hl j y v' e1 e2 e3
        refine ⟨u', r', ?_⟩
        rcases q with ⟨k, e⟩ | ⟨k, c, e, z⟩
        · refine .inl ⟨k, ?_⟩
          have : y ≠ x := fun e => hj (nodup_ix hN e1 (e ▸ hi))
          simp [this, e]
        · exact .inr ⟨k, c, e, z.sameBut hs (cne y c e)⟩
    · obtain ⟨w', z⟩ := I.cell y c e
      exact ⟨w', z.sameBut hs (cne y c e)⟩
    · obtain ⟨e, n, ne, nf, d⟩ := I.pin p hp
      exact ⟨(hs.2 p.1 ne).trans e, n, ne, nf, d⟩
  · have hfn : X.fn x = true := by
      rcases hf with z | z
      · exact z
      · rw [z] at hk; cases hk
    obtain ⟨c, hc⟩ := I.ok.has x (.inl hk)
    obtain ⟨w', z⟩ := I.cell x c hc
    refine wpAny_storeName_cell I.ok.kind hk hc z (fun h' hc' hs => ?_)
    obtain ⟨oc, hoc, hocd⟩ := id z
    refine h { s with heap := h' } ⟨I.ok, I.os, I.bare, ⟨fun b o e n hb hx => ?_, fun b o e n hb hx => ?_, I.base.free, fun b o e hx => ?_, I.base.tups, I.base.frzs, I.base.tbls⟩, ⟨m, hn.sameBut hs (Ne.symm (cne x c hc)), fun j y v' e1 e2 e3 => ?_⟩, fun y c' e => ?_, I.free, I.freeC, fun p hp => ?_, tracked ⟨oc, hoc, I.freeC x c hc⟩ hs, by simpa using I.len⟩ ⟨c, hs, .inr hc⟩
    · exact (hs.2 b (Nat.ne_of_lt (Nat.lt_of_lt_of_le (Heap.lt_size e) (I.ok.cab x c hfn hc)))).trans (I.base.keep b o e n hb hx)
    · obtain ⟨sl, e1⟩ := I.base.slot b o e n hb hx
      exact ⟨sl, (hs.2 b (Nat.ne_of_lt (Nat.lt_of_lt_of_le (Heap.lt_size e) (I.ok.cab x c hfn hc)))).trans e1⟩
    · obtain ⟨o', e1⟩ := I.base.there b o e hx
      exact ⟨o', (hs.2 b (Nat.ne_of_lt (Nat.lt_of_lt_of_le (Heap.lt_size e) (I.ok.cab x c hfn hc)))).trans e1⟩
    · by_cases hj : j = i
      · subst hj
        rw [hi] at e1; cases e1
        rw [List.getElem?_set_self hiσ] at e2
        cases e2
        exact ⟨u, r, .inr ⟨.inl hk, c, hc, hc'⟩⟩
      · rw [List.getElem?_set_ne (Ne.symm hj)] at e2
        obtain ⟨u', r', q⟩ := hl j y v' e1 e2 e3
        refine ⟨u', r', ?_⟩
        rcases q with q | ⟨k, c', e, z'⟩
        · exact .inl q
        · refine .inr ⟨k, c', e, z'.sameBut hs ?_⟩
          rintro rfl
          exact hj (nodup_ix hN e1 (I.ok.inj _ _ _ e hc ▸ hi))
    · by_cases hcc : c' = c
      · subst hcc; exact ⟨_, hc'⟩
      · obtain ⟨w2, z2⟩ := I.cell y c' e
        exact ⟨w2, z2.sameBut hs hcc⟩
    · obtain ⟨e, n, ne, nf, d⟩ := I.pin p hp
      refine ⟨(hs.2 p.1 ?_).trans e, n, ne, nf, d⟩
      intro q
      rw [q, hoc] at e
      have q' : oc = p.2 := Option.some.inj e
      exact d w' (by rw [← q']; exact hocd)
theorem store_ok {M : Model} {A : Around} {E : Value → Shared → Prop} {i : Nat} {x : Str} {v : V} {u : Value} {Q : Unit → Shared → Prop} (I : Inv X pins σ H s) (hN : X.N.Nodup) (hi : X.N[i]? = some x) (hx : Loc X.env.scope x) (r : RelV v u)
    (h : ∀ s', Inv X pins (σ.set i (some v)) H s' → Q () s') (hf : X.fn x = true ∨ X.env.scope.names.lookup x = some .local := by first | exact .inl rfl | exact .inr rfl | assumption) : wpAny M A (storeName X.env x u) Q E s :=
  store_ok2 I hN hi hx r (fun s' I' _ => h s' I') hf
end
abbrev XK := Value → Option Addr → Hp → Prop
abbrev St := List (Option V)
abbrev VK := V → Hp → Prop
abbrev TE := St → Hp → VK → Prop
abbrev TT := St → Hp → (Bool → Hp → Prop) → Prop
abbrev TA := St → Hp → (List V → Hp → Prop) → Prop
structure Ends where
  nx : St → Hp → Prop
  rt : VK
  bk : St → Hp → Prop := fun _ _ => False
  ct : St → Hp → Prop := fun _ _ => False
abbrev TS := Ends → St → Hp → Prop
def EP (X : Cx) (pins : List (Addr × Obj)) (σ : St) (Q : VK) (u : Value) (s' : Shared) : Prop := ∃ v H', Inv X pins σ H' s' ∧ RelV v u ∧ Q v H'
def TP (X : Cx) (pins : List (Addr × Obj)) (σ : St) (Q : Bool → Hp → Prop) (b : Bool) (s' : Shared) : Prop := ∃ H', Inv X pins σ H' s' ∧ Q b H'
def AP (X : Cx) (pins : List (Addr × Obj)) (σ : St) (Q : List V → Hp → Prop) (us : List Value) (s' : Shared) : Prop := ∃ vs H', Inv X pins σ H' s' ∧ Vals vs us ∧ Q vs H'
def SP (X : Cx) (pins : List (Addr × Obj)) (D : Ends) (f : Flow) (s' : Shared) : Prop :=
  match f with
  | .next => ∃ σ' H', Inv X pins σ' H' s' ∧ D.nx σ' H'
  | .brk => ∃ σ' H', Inv X pins σ' H' s' ∧ D.bk σ' H'
  | .cont => ∃ σ' H', Inv X pins σ' H' s' ∧ D.ct σ' H'
  | .ret u => ∃ v σ' H', Inv X pins σ' H' s' ∧ RelV v u ∧ D.rt v H'
def PE (X : Cx) (e : Expr) (t : TE) : Prop :=
  ∀ (pins : List (Addr × Obj)) (s : Shared) (σ : St) (H : Hp) (Q : VK), Inv X pins σ H s → t σ H Q → wpAny (model X.prog X.w) X.A (eval e X.env) (EP X pins σ Q) X.xe s
def PT (X : Cx) (e : Expr) (t : TT) : Prop :=
  ∀ (pins : List (Addr × Obj)) (s : Shared) (σ : St) (H : Hp) (Q : Bool → Hp → Prop), Inv X pins σ H s → t σ H Q → wpAny (model X.prog X.w) X.A (isTrue e X.env (eval e X.env)) (TP X pins σ Q) X.xe s
def PW (X : Cx) (e : Expr) (t : TT) : Prop :=
  ∀ (whole : Sem Value) (pins : List (Addr × Obj)) (s : Shared) (σ : St) (H : Hp) (Q : Bool → Hp → Prop), Inv X pins σ H s → t σ H Q → wpAny (model X.prog X.w) X.A (isTrue e X.env whole) (TP X pins σ Q) X.xe s
theorem PW.pt {X : Cx} {e : Expr} {t : TT} (h : PW X e t) : PT X e t := h _
def PA (X : Cx) (es : List Expr) (t : TA) : Prop :=
  ∀ (pos : Pos) (pins : List (Addr × Obj)) (s : Shared) (σ : St) (H : Hp) (Q : List V → Hp → Prop), Inv X pins σ H s → t σ H Q → wpAny (model X.prog X.w) X.A (spliced (backTo pos (starEach es X.env))) (AP X pins σ Q) X.xe s
def PS (X : Cx) (st : Stmt) (t : TS) : Prop :=
  ∀ (pins : List (Addr × Obj)) (s : Shared) (σ : St) (H : Hp) (D : Ends), Inv X pins σ H s → t D σ H → wpAny (model X.prog X.w) X.A (exec st X.env) (SP X pins D) X.xe s
def PSs (X : Cx) (st : List Stmt) (t : TS) : Prop :=
  ∀ (pins : List (Addr × Obj)) (s : Shared) (σ : St) (H : Hp) (D : Ends), Inv X pins σ H s → t D σ H → wpAny (model X.prog X.w) X.A (execs st X.env) (SP X pins D) X.xe s
theorem thn {α : Type} {t : Sem α} {Q Q' : α → Shared → Prop} {M : Model} {A : Around} {E : Value → Shared → Prop} {s : Shared} (h : wpAny M A t Q E s) (hQ : ∀ a s, Q a s → Q' a s) : wpAny M A t Q' E s := wpAny_mono h hQ fun _ _ x => x
end L2
namespace L2
open PySem PySem.Spec PyProof.Rows
section
variable {X : Cx}
def tVar (i : Nat) : TE := fun σ H Q => ∃ v, σ[i]? = some (some v) ∧ Q v H
def tC (v : V) : TE := fun _ H Q => Q v H
theorem pe_var {i : Nat} {x : Str} {pos : Pos} (hN : X.N[i]? = some x) (hv : Vis X.env.scope x) (hd : (x == ("__debug__" : Str)) = false := by decide) (hcd : (x == ("__classdict__" : Str)) = false := by decide) : PE X (.Name x pos) (tVar i) := by
  intro pins s σ H Q I h
  obtain ⟨v, e, h⟩ := h
  obtain ⟨m, hn, hl⟩ := I.loc
  obtain ⟨u, r, l⟩ := hl i x v hN e hv
  have fin : EP X pins σ Q u s := ⟨v, H, I, r, h⟩
  rcases l with ⟨hk, hm⟩ | ⟨hk, c, hc, hcell⟩
  · exact wpAny_Name (wpAny_loadName_local I.ok.kind hk hn hm fin) hd
  · rcases hk with hk | hk
    · exact wpAny_Name (wpAny_loadName_cell I.ok.kind hk hc hcell fin) hd
    · exact wpAny_Name (wpAny_loadName_free I.ok.kind hk hc hcell fin hcd) hd
theorem pe_int {i j pos} : PE X (.Constant (.int i) j pos) (tC (.int i)) := fun _ _ _ H _ I h => wpAny_Constant_int ⟨.int i, H, I.tok _, ⟨_, rfl⟩, h⟩
theorem pe_bl {b j pos} : PE X (.Constant (.bool b) j pos) (tC (.bl b)) := fun _ _ _ H _ I h => Constant_bool ⟨.bl b, H, I, rfl, h⟩
theorem pe_non {j pos} : PE X (.Constant .none j pos) (tC .non) := fun _ _ _ H _ I h => Constant_none ⟨.non, H, I, rfl, h⟩
theorem pe_str {x j pos} : PE X (.Constant (.str x) j pos) (tC (.str x)) := fun _ _ _ H _ I h => Calls.Constant_str ⟨.str x, H, I.tok _, ⟨_, rfl⟩, h⟩
def Gl (X : Cx) (x : Str) : Prop := X.env.kindOf x = some .globalImplicit
theorem ld_glob {E : Value → Shared → Prop} {pins : List (Addr × Obj)} {s : Shared} {σ : St} {H : Hp} {x : Str} {u : Value} {pos : Pos} {Q : Value → Shared → Prop} (I : Inv X pins σ H s) (hg : Gl X x) (hm : X.mg x = some u) (h : Q u s)
    (hd : (x == ("__debug__" : Str)) = false := by decide) : wpAny (model X.prog X.w) X.A (eval (.Name x pos) X.env) Q E s :=
  Calls.Name_function_global I.ok.kind hg (Calls.loadGlobal_global (by rw [I.ok.glob]; exact I.mod.glob.keeps I.bk) hm h) hd
theorem ld_blt {E : Value → Shared → Prop} {pins : List (Addr × Obj)} {s : Shared} {σ : St} {H : Hp} {x : Str} {u : Value} {pos : Pos} {Q : Value → Shared → Prop} (I : Inv X pins σ H s) (hg : Gl X x) (hm : X.mg x = none) (hv : bootBuiltins x = some u) (h : Q u s)
    (hn : x ≠ "__name__" := by decide) (hd : (x == ("__debug__" : Str)) = false := by decide) : wpAny (model X.prog X.w) X.A (eval (.Name x pos) X.env) Q E s := by
  obtain ⟨mb, h1, h2⟩ := I.mod.blt
  exact Calls.Name_function_global I.ok.kind hg (Calls.loadGlobal_builtin (by rw [I.ok.glob]; exact I.mod.glob.keeps I.bk) hm (by rw [I.ok.blt]; exact h1.keeps I.bk) ((h2 x hn).trans hv) h) hd
theorem pe_bltn {x : Str} {v : V} {u : Value} {pos : Pos} (hg : Gl X x) (hm : X.mg x = none) (hv : bootBuiltins x = some u) (r : RelV v u) (hn : x ≠ "__name__" := by decide) (hd : (x == ("__debug__" : Str)) = false := by decide) : PE X (.Name x pos) (tC v) :=
  fun _ _ _ H _ I h => ld_blt I hg hm hv ⟨v, H, I, r, h⟩ hn hd
def t2I (ta tb : TE) (k : Int → Int → Hp → Prop) : St → Hp → Prop := fun σ H => ta σ H fun x H1 => tb σ H1 fun y H2 => ∃ i j, x = .int i ∧ y = .int j ∧ k i j H2
def tAdd (ta tb : TE) : TE := fun σ H Q => t2I ta tb (fun i j H2 => Q (.int (i + j)) H2) σ H
def tSub (ta tb : TE) : TE := fun σ H Q => t2I ta tb (fun i j H2 => Q (.int (i - j)) H2) σ H
def tMul (ta tb : TE) : TE := fun σ H Q => t2I ta tb (fun i j H2 => (-(2 ^ 64) < i ∧ i < 2 ^ 64) ∧ Q (.int (i * j)) H2) σ H
variable {a b : Expr} {ta tb : TE} {pos : Pos}
def PC (X : Cx) (op : CmpOp) (a b : Expr) (t : TE) : Prop :=
  ∀ (pins : List (Addr × Obj)) (s : Shared) (σ : St) (H : Hp) (Q : VK), Inv X pins σ H s → t σ H Q →
    wpAny (model X.prog X.w) X.A (eval a X.env) (fun v s₁ => wpAny (model X.prog X.w) X.A (eval b X.env) (fun u s₂ => wpAny (model X.prog X.w) X.A (compareOp op v u) (EP X pins σ Q) X.xe s₂) X.xe s₁) X.xe s
def tCmp (p : Int → Int → Bool) (ta tb : TE) : TE := fun σ H Q => t2I ta tb (fun i j H2 => Q (.bl (p i j)) H2) σ H
abbrev tLt : TE → TE → TE := tCmp fun i j => decide (i < j)
abbrev tLe : TE → TE → TE := tCmp fun i j => decide (i ≤ j)
abbrev tGt : TE → TE → TE := tCmp fun i j => decide (j < i)
abbrev tGe : TE → TE → TE := tCmp fun i j => decide (j ≤ i)
abbrev tEqI : TE → TE → TE := tCmp fun i j => decide (i = j)
abbrev tNeI : TE → TE → TE := tCmp fun i j => !decide (i = j)
def tIsN (ta : TE) : TE := fun σ H Q => ta σ H fun x H1 => Q (.bl (decide (x = .non))) H1
def tNotN (ta : TE) : TE := fun σ H Q => ta σ H fun x H1 => Q (.bl (!decide (x = .non))) H1
def tB (t : TE) : TT := fun σ H Q => t σ H fun x H1 => ∃ c, x = .bl c ∧ Q c H1
theorem pt_val {e : Expr} {t : TE} (h : PE X e t) (he : ∀ whole, isTrue e X.env whole = (do let v ← whole; standAt e.pos; holding [v] (truthy v)) := by intro _; rfl) : PT X e (tB t) := by
  intro pins s σ H Q I hw
  refine isTrue_plain (thn (h pins s σ H _ I hw) fun v s1 ⟨x, H1, I1, r1, q1⟩ => ?_) (he _)
  obtain ⟨d, rfl, q⟩ := q1
  cases r1
  exact wpAny_truthy_bool ⟨H1, I1, q⟩
variable {tA tB' : TT} {rest : List Expr}
def tAnd (t u : TT) : TT := fun σ H Q => t σ H fun c H1 => if c = true then u σ H1 Q else Q false H1
def tOr (t u : TT) : TT := fun σ H Q => t σ H fun c H1 => if c = true then Q true H1 else u σ H1 Q
def tNot (t : TT) : TT := fun σ H Q => t σ H fun c H1 => Q (!c) H1
theorem pw_and1 (ha : PT X a tA) : PW X (.BoolOp .And [a] pos) tA := by
  intro wh pins s σ H Q I h
  refine isTrue_and (thn (ha pins s σ H Q I h) fun c s1 e => ?_)
  cases c with
  | true => exact isTrue_and_nil e
  | false => exact e
theorem pw_or1 (ha : PT X a tA) : PW X (.BoolOp .Or [a] pos) tA := by
  intro wh pins s σ H Q I h
  refine isTrue_or (thn (ha pins s σ H Q I h) fun c s1 e => ?_)
  cases c with
  | false => exact isTrue_or_nil e
  | true => exact e
theorem pw_and (ha : PT X a tA) (hb : PW X (.BoolOp .And (b :: rest) pos) tB') : PW X (.BoolOp .And (a :: b :: rest) pos) (tAnd tA tB') := by
  intro wh pins s σ H Q I h
  refine isTrue_and (thn (ha pins s σ H _ I h) fun c s1 ⟨H1, I1, q1⟩ => ?_)
  cases c with
  | true => exact hb wh pins s1 σ H1 Q I1 q1
  | false => exact ⟨H1, I1, q1⟩
theorem pw_or (ha : PT X a tA) (hb : PW X (.BoolOp .Or (b :: rest) pos) tB') : PW X (.BoolOp .Or (a :: b :: rest) pos) (tOr tA tB') := by
  intro wh pins s σ H Q I h
  refine isTrue_or (thn (ha pins s σ H _ I h) fun c s1 ⟨H1, I1, q1⟩ => ?_)
  cases c with
  | true => exact ⟨H1, I1, q1⟩
  | false => exact hb wh pins s1 σ H1 Q I1 q1
theorem pt_not (ha : PT X a tA) : PT X (.UnaryOp .Not a pos) (tNot tA) := by
  intro pins s σ H Q I h
  exact isTrue_not (ha pins s σ H (fun c H1 => Q (!c) H1) I h)
def tAndV (ta tb : TE) : TE := fun σ H Q => ta σ H fun x H1 => ∃ c, x = .bl c ∧ if c = true then tb σ H1 Q else Q (.bl false) H1
def tOrV (ta tb : TE) : TE := fun σ H Q => ta σ H fun x H1 => ∃ c, x = .bl c ∧ if c = true then Q (.bl true) H1 else tb σ H1 Q
def tNotV (ta : TE) : TE := fun σ H Q => ta σ H fun x H1 => ∃ c, x = .bl c ∧ Q (.bl (!c)) H1
theorem pe_one {op} {t : TE} (h : PE X a t) : PE X (.BoolOp op [a] pos) t := fun pins s σ H Q I hw => BoolOp_one (h pins s σ H Q I hw)
theorem pe_and (ha : PE X a ta) (hb : PE X (.BoolOp .And (b :: rest) pos) tb) : PE X (.BoolOp .And (a :: b :: rest) pos) (tAndV ta tb) := by
  intro pins s σ H Q I h
  refine BoolOp_and (thn (ha pins s σ H _ I h) fun v s1 ⟨x, H1, I1, r1, q1⟩ => ?_)
  obtain ⟨c, rfl, q1⟩ := q1
  cases r1
  refine wpAny_truthy_bool ?_
  cases c with
  | true => exact hb pins s1 σ H1 Q I1 q1
  | false => exact ⟨.bl false, H1, I1, rfl, q1⟩
theorem pe_not (ha : PE X a ta) : PE X (.UnaryOp .Not a pos) (tNotV ta) := by
  intro pins s σ H Q I h
  refine UnaryOp_ (thn (ha pins s σ H _ I h) fun v s1 ⟨x, H1, I1, r1, q1⟩ => ?_)
  obtain ⟨c, rfl, q1⟩ := q1
  cases r1
  exact not_of (wpAny_truthy_bool ⟨.bl (!c), H1, I1, rfl, q1⟩)
def tIf (t : TT) (ta tb : TE) : TE := fun σ H Q => t σ H fun c H1 => if c = true then ta σ H1 Q else tb σ H1 Q
theorem pe_ifExp {c : Expr} (hc : PT X c tA) (ha : PE X a ta) (hb : PE X b tb) : PE X (.IfExp c a b pos) (tIf tA ta tb) := by
  intro pins s σ H Q I h
  refine wpAny_IfExp (thn (hc pins s σ H _ I h) fun d s1 ⟨H1, I1, q1⟩ => ?_)
  cases d with
  | true => exact ha pins s1 σ H1 Q I1 q1
  | false => exact hb pins s1 σ H1 Q I1 q1
end
end L2
namespace L2
open PySem PySem.Spec PyProof.Rows
def SqL (K : PySem.W.Frag) (H : Hp) (a : Addr) (xs : List V) : Prop :=
  Rd H a (.lst xs) ∨
    ∃ (o : Obj) (its : Array Value) (n : Nat), K.lookup a = some o ∧ o.cls = .type "list" ∧ o.dict = none ∧ o.data = .seq its n ∧ its.size ≤ sizeLine ∧ Vals xs its.toList
def SqT (K : PySem.W.Frag) (H : Hp) (a : Addr) (xs : List V) : Prop :=
  Rd H a (.tup xs) ∨
    ∃ (o : Obj) (its : Array Value) (n : Nat), K.lookup a = some o ∧ o.cls = .type "tuple" ∧ o.data = .seq its n ∧ its.size ≤ sizeLine ∧ Vals xs its.toList
def absV : Value → Option V
  | .none => some .non
  | .bool b => some (.bl b)
  | .int i _ => some (.int i)
  | .str x _ => some (.str x)
  | .bytes b _ => some (.byt b)
  | .float b _ => some (.flt b)
  | .ref a => some (.ref a)
  | .type n => some (.ty n)
  | _ => none
theorem RelV.abs {x : V} {u : Value} (r : RelV x u) : absV u = some x := by
  cases x with
  | non => cases r; rfl
  | bl _ => cases r; rfl
  | int _ => obtain ⟨t, rfl⟩ := r; rfl
  | str _ => obtain ⟨t, rfl⟩ := r; rfl
  | byt _ => obtain ⟨t, rfl⟩ := r; rfl
  | flt _ => obtain ⟨t, rfl⟩ := r; rfl
  | ref _ => cases r; rfl
  | ty _ => cases r; rfl
theorem RelV.inj {x y : V} {u : Value} (r : RelV x u) (q : RelV y u) : x = y := Option.some.inj (r.abs.symm.trans q.abs)
theorem Vals.inj : ∀ {xs ys : List V} {us : List Value}, Vals xs us → Vals ys us → xs = ys
  | _, _, _, .nil, .nil => rfl
  | _, _, _, .cons r t, .cons r' t' => by rw [r.inj r', Vals.inj t t']
section
variable {X : Cx} {pins : List (Addr × Obj)} {σ : St} {H : Hp} {s : Shared} {a : Addr} {xs ys : List V}
theorem SqL.of {K : PySem.W.Frag} (h : H a = some (.lst xs)) : SqL K H a xs := .inl (.inl h)
theorem SqT.of {K : PySem.W.Frag} (h : H a = some (.tup xs)) : SqT K H a xs := .inl (.inl h)
theorem Inv.list (I : Inv X pins σ H s) (h : SqL X.K H a xs) : ∃ its : List Value, Vals xs its ∧ PlainL s.heap a its.toArray ∧ xs.length ≤ sizeLine := by
  rcases h with h | ⟨o, its, n, hk, hc, hd, hs, hz, r⟩
  · obtain ⟨z, its, n, r, e⟩ := h.ok I.hok
    exact ⟨its, r, ⟨_, n, e, rfl, rfl, rfl⟩, z⟩
  · refine ⟨its.toList, r, ⟨o, n, I.kIn a o hk, hc, hd, by simpa using hs⟩, ?_⟩
    have e := r.length
    simp only [Array.length_toList] at e
    omega
theorem Inv.tuple (I : Inv X pins σ H s) (h : SqT X.K H a xs) : ∃ its : List Value, Vals xs its ∧ IsTup s.heap a its.toArray ∧ xs.length ≤ sizeLine := by
  rcases h with h | ⟨o, its, n, hk, hc, hs, hz, r⟩
  · obtain ⟨z, its, r, p⟩ := h.ok I.hok
    exact ⟨its, r, p, z⟩
  · refine ⟨its.toList, r, ⟨o, I.kIn a o hk, hc, n, by simpa using hs⟩, ?_⟩
    have e := r.length
    simp only [Array.length_toList] at e
    omega
theorem Inv.list_inj (I : Inv X pins σ H s) (h : SqL X.K H a xs) (h' : SqL X.K H a ys) : xs = ys := by
  obtain ⟨its, r, ⟨o, n, e, _, _, d⟩, _⟩ := I.list h
  obtain ⟨its', r', ⟨o', n', e', _, _, d'⟩, _⟩ := I.list h'
  rw [e] at e'; cases e'
  rw [d] at d'
  injection d' with d1 _
  have : its = its' := by simpa using congrArg Array.toList d1
  subst this
  exact r.inj r'
theorem Inv.tuple_inj (I : Inv X pins σ H s) (h : SqT X.K H a xs) (h' : SqT X.K H a ys) : xs = ys := by
  obtain ⟨its, r, ⟨o, e, _, n, d⟩, _⟩ := I.tuple h
  obtain ⟨its', r', ⟨o', e', _, n', d'⟩, _⟩ := I.tuple h'
  rw [e] at e'; cases e'
  rw [d] at d'
  injection d' with d1 _
  have : its = its' := by simpa using congrArg Array.toList d1
  subst this
  exact r.inj r'
end
abbrev Cx.wish (X : Cx) (E : Value → Shared → Prop) : Cx := { X with xe := E }
abbrev Cx.nox (X : Cx) : Cx := X.wish fun _ _ => False
theorem Cx.Ok.wish {X : Cx} (ok : X.Ok) (E : Value → Shared → Prop) : (X.wish E).Ok :=
  ⟨ok.mod, ok.kind, ok.glob, ok.blt, ok.above, ok.inj, ok.has, ok.cab, ok.hd, ok.frames, ok.stk, ok.exf, ok.bs, ok.bsz, ok.noex, ok.exfs, ok.funs, ok.frf⟩
theorem Cx.Ok.unwish {X : Cx} {E : Value → Shared → Prop} (ok : (X.wish E).Ok) : X.Ok :=
  ⟨ok.mod, ok.kind, ok.glob, ok.blt, ok.above, ok.inj, ok.has, ok.cab, ok.hd, ok.frames, ok.stk, ok.exf, ok.bs, ok.bsz, ok.noex, ok.exfs, ok.funs, ok.frf⟩
section
variable {X : Cx} {pins : List (Addr × Obj)} {σ : St} {H : Hp} {s : Shared} {E : Value → Shared → Prop}
theorem Inv.wish (I : Inv X pins σ H s) (E : Value → Shared → Prop) : Inv (X.wish E) pins σ H s := ⟨I.ok.wish E, I.os, I.bare, I.base, I.loc, I.cell, I.free, I.freeC, I.pin, I.hok, I.len⟩
theorem Inv.unwish (I : Inv (X.wish E) pins σ H s) : Inv X pins σ H s := ⟨I.ok.unwish, I.os, I.bare, I.base, I.loc, I.cell, I.free, I.freeC, I.pin, I.hok, I.len⟩
theorem SP.unwish {D : Ends} {f : Flow} {s' : Shared} (h : SP (X.wish E) pins D f s') : SP X pins D f s' := by
  cases f with
  | next => obtain ⟨σ', H', I, q⟩ := h; exact ⟨σ', H', I.unwish, q⟩
  | brk => obtain ⟨σ', H', I, q⟩ := h; exact ⟨σ', H', I.unwish, q⟩
  | cont => obtain ⟨σ', H', I, q⟩ := h; exact ⟨σ', H', I.unwish, q⟩
  | ret u => obtain ⟨v, σ', H', I, r, q⟩ := h; exact ⟨v, σ', H', I.unwish, r, q⟩
theorem PSs.nox {st : List Stmt} {t : TS} (h : PSs X.nox st t) : PSs X st t := fun pins s σ H D I hw =>
  wpAny_mono (h pins s σ H D (I.wish _) hw) (fun _ _ q => q.unwish) fun _ _ z => False.elim z
end
section
variable {X : Cx} {st : Stmt} {rest : List Stmt} {t u : TS} {e : Expr} {te : TE} {pos : Pos}
def tNext : TS := fun D σ H => D.nx σ H
def tSeq (t u : TS) : TS := fun D σ H => t { D with nx := u D } σ H
theorem pss_nil : PSs X [] tNext := fun _ _ σ H _ I h => wpAny_execs_nil ⟨σ, H, I, h⟩
theorem pss_cons (h1 : PS X st t) (h2 : PSs X rest u) : PSs X (st :: rest) (tSeq t u) := by
  intro pins s σ H D I h
  refine wpAny_execs_cons (thn (h1 pins s σ H { D with nx := u D } I h) fun f s1 q => ?_)
  cases f with
  | next =>
    obtain ⟨σ', H', I', q⟩ := q
    exact h2 pins s1 σ' H' D I' q
  | ret v => exact q
  | brk => exact q
  | cont => exact q
theorem pss_one (h1 : PS X st t) : PSs X [st] t := by
  intro pins s σ H D I h
  refine wpAny_execs_cons (thn (h1 pins s σ H D I h) fun f s1 q => ?_)
  cases f with
  | next => exact wpAny_execs_nil q
  | ret v => exact q
  | brk => exact q
  | cont => exact q
def tBreak : TS := fun D σ H => D.bk σ H
def tCont : TS := fun D σ H => D.ct σ H
theorem Inv.quiet {pins : List (Addr × Obj)} {σ : St} {H : Hp} {s : Shared} (I : Inv X pins σ H s) : interactive X.env = false := by simp [interactive, I.ok.kind]
def tDrop (te : TE) : TS := fun D σ H => te σ H fun _ H1 => D.nx σ H1
theorem ps_expr (he : PE X e te) (hs : swapsWith e none pos.line X.env = pure false := by rfl) : PS X (.Expr e pos) (tDrop te) := by
  intro pins s σ H D I h
  exact wpAny_Expr_any (thn (he pins s σ H _ I h) fun v s1 ⟨x, H1, I1, r1, q1⟩ => ⟨σ, H1, I1, q1⟩) I.quiet hs
def tRet (te : TE) : TS := fun D σ H => te σ H D.rt
theorem ps_ret (he : PE X e te) : PS X (.Return (some e) pos) (tRet te) := by
  intro pins s σ H D I h
  exact wpAny_Return_some (thn (he pins s σ H _ I h) fun v s1 ⟨x, H1, I1, r1, q1⟩ => ⟨x, σ, H1, I1, r1, q1⟩)
def tRetN : TS := fun D _ H => D.rt .non H
def tIfS (c : TT) (t u : TS) : TS := fun D σ H => c σ H fun b H1 => if b = true then t D σ H1 else u D σ H1
theorem ps_if {c : Expr} {a b : List Stmt} {tc : TT} (hc : PT X c tc) (ha : PSs X a t) (hb : PSs X b u) : PS X (.If c a b pos) (tIfS tc t u) := by
  intro pins s σ H D I h
  refine wpAny_If (thn (hc pins s σ H _ I h) fun d s1 ⟨H1, I1, q1⟩ => ?_)
  cases d with
  | true => exact ha pins s1 σ H1 D I1 q1
  | false => exact hb pins s1 σ H1 D I1 q1
def tNever : TS := fun _ _ _ => False
end
abbrev TG := V → St → Hp → (St → Hp → Prop) → Prop
abbrev TGs := List V → St → Hp → (St → Hp → Prop) → Prop
def PG (X : Cx) (target : Expr) (t : TG) : Prop :=
  ∀ (pins : List (Addr × Obj)) (s : Shared) (σ : St) (H : Hp) (v : V) (u : Value) (Q : St → Hp → Prop), Inv X pins σ H s → RelV v u → t v σ H Q →
    wpAny (model X.prog X.w) X.A (assign target X.env u) (fun _ s' => ∃ σ' H', Inv X pins σ' H' s' ∧ Q σ' H') X.xe s
def PGs (X : Cx) (ts : List Expr) (t : TGs) : Prop :=
  ∀ (pins : List (Addr × Obj)) (s : Shared) (σ : St) (H : Hp) (vs : List V) (us : List Value) (Q : St → Hp → Prop), Inv X pins σ H s → Vals vs us → t vs σ H Q →
    wpAny (model X.prog X.w) X.A (assignInOrder ((assignEach ts X.env).map (·.2)) us) (fun _ s' => ∃ σ' H', Inv X pins σ' H' s' ∧ Q σ' H') X.xe s
abbrev TSet := V → V → V → Hp → (Hp → Prop) → Prop
def PSet (X : Cx) (t : TSet) : Prop :=
  ∀ (pins : List (Addr × Obj)) (s : Shared) (σ : St) (H : Hp) (o i v : V) (ov iv u : Value) (Q : Hp → Prop), Inv X pins σ H s → RelV o ov → RelV i iv → RelV v u → t o i v H Q →
    wpAny (model X.prog X.w) X.A (setItem ov iv u) (fun _ s' => ∃ H', Inv X pins σ H' s' ∧ Q H') X.xe s
abbrev TIp := V → V → Hp → VK → Prop
def PIp (X : Cx) (op : Operator) (t : TIp) : Prop :=
  ∀ (pins : List (Addr × Obj)) (s : Shared) (σ : St) (H : Hp) (x y : V) (v u : Value) (Q : VK), Inv X pins σ H s → RelV x v → RelV y u → t x y H Q →
    wpAny (model X.prog X.w) X.A (inplaceOp op v u) (EP X pins σ Q) X.xe s
section
variable {X : Cx} {pos : Pos}
def gName (i : Nat) : TG := fun v σ H Q => Q (σ.set i (some v)) H
theorem pg_name {i : Nat} {x : Str} (hN : X.N.Nodup) (hi : X.N[i]? = some x) (hx : Loc X.env.scope x) (hf : X.fn x = true ∨ X.env.scope.names.lookup x = some .local := by first | exact .inl rfl | exact .inr rfl | assumption) : PG X (.Name x pos) (gName i) := by
  intro pins s σ H v u Q I r h
  exact wpAny_assign_Name (store_ok I hN hi hx r (fun s' I' => ⟨_, H, I', h⟩) hf)
def gNil : TGs := fun vs σ H Q => vs = [] ∧ Q σ H
def gCons (t : TG) (u : TGs) : TGs := fun vs σ H Q => ∃ v r, vs = v :: r ∧ t v σ H fun σ' H' => u r σ' H' Q
def gTup (K : PySem.W.Frag) (n : Nat) (t : TGs) : TG := fun v σ H Q => ∃ a xs, v = .ref a ∧ SqT K H a xs ∧ xs.length = n ∧ t xs σ H Q
def gSub (to ti : TE) (t : TSet) : TG := fun v σ H Q => to σ H fun o H1 => ti σ H1 fun i H2 => t o i v H2 fun H3 => Q σ H3
theorem pg_sub {o i : Expr} {to ti : TE} {t : TSet} (ho : PE X o to) (hi : PE X i ti) (hs : PSet X t)
    (ha : ∀ v, assign (.Subscript o i pos) X.env v = (do
      let ov ← holding [v] (eval o X.env)
      let iv ← holding [v, ov] (eval i X.env)
      standAt pos
      holding [v, ov, iv] (setItem ov iv v)
      release [v, ov, iv] []) := by intro _; rfl) : PG X (.Subscript o i pos) (gSub to ti t) := by
  intro pins s σ H v u Q I r h
  rw [ha]
  refine wpAny_bind (wpAny_holding (thn (ho pins s σ H _ I h) fun ov s1 ⟨x, H1, I1, r1, q1⟩ => ?_))
  refine wpAny_bind (wpAny_holding (thn (hi pins s1 σ H1 _ I1 q1) fun iv s2 ⟨y, H2, I2, r2, q2⟩ => ?_))
  refine wpAny_bind (wpAny_standAt (wpAny_bind (wpAny_holding (thn (hs pins s2 σ H2 x y v ov iv u _ I2 r1 r2 r q2) fun _ s3 ⟨H3, I3, q3⟩ => ?_))))
  exact wpAny_release ⟨σ, H3, I3, q3⟩
def tAsg (te : TE) (g : TG) : TS := fun D σ H => te σ H fun x H1 => g x σ H1 D.nx
theorem ps_asg {tg e : Expr} {te : TE} {g : TG} (he : PE X e te) (hg : PG X tg g) (hs : swapsWithSole [tg] e pos.line X.env = pure false := by rfl) (hw : swappedStores [tg] e X.env = pure none := by rfl)
    (h1 : (assignEach [tg] X.env).map (·.2) = [assign tg X.env] := by rfl) : PS X (.Assign [tg] e pos) (tAsg te g) := by
  intro pins s σ H D I h
  refine wpAny_Assign_stores (thn (he pins s σ H _ I h) fun v s1 ⟨x, H1, I1, r1, q1⟩ => ?_) hs hw
  rw [h1]
  exact thn (hg pins s1 σ H1 x v _ I1 r1 q1) fun _ s2 q => q
theorem ps_set {i : Nat} {x : Str} {e : Expr} {te : TE} {pos' : Pos} (hN : X.N.Nodup) (hi : X.N[i]? = some x) (hx : Loc X.env.scope x) (he : PE X e te) (hs : swapsWith e (some (.Name x pos')) pos.line X.env = pure false := by rfl) (hf : X.fn x = true ∨ X.env.scope.names.lookup x = some .local := by first | exact .inl rfl | exact .inr rfl | assumption) :
    PS X (.Assign [.Name x pos'] e pos) (tAsg te (gName i)) := by
  intro pins s σ H D I h
  refine wpAny_Assign_Name (thn (he pins s σ H _ I h) fun v s1 ⟨y, H1, I1, r1, q1⟩ => ?_) hs
  exact store_ok I1 hN hi hx r1 (fun s2 I2 => ⟨_, H1, I2, q1⟩) hf
def tPar (i j : Nat) (ta : TA) : TS := fun D σ H => ta σ H fun vs H1 => ∃ v w, vs = [v, w] ∧ D.nx ((σ.set i (some v)).set j (some w)) H1
theorem ps_par {i j : Nat} {x y : Str} {a b : Expr} {ta : TA} {px py pt : Pos} {kt k2 pt2} (hc : X.calm = true) (hN : X.N.Nodup) (hi : X.N[i]? = some x) (hj : X.N[j]? = some y) (hij : i ≠ j)
    (hx : X.env.scope.names.lookup x = some .local) (hy : X.env.scope.names.lookup y = some .local) (ha : PA X [a, b] ta)
    (hw : swappedStores [.Tuple [.Name x px, .Name y py] kt pt] (.Tuple [a, b] k2 pt2) X.env = pure (some [x, y]))
    (hs : swapsWithSole [.Tuple [.Name x px, .Name y py] kt pt] (.Tuple [a, b] k2 pt2) pos.line X.env = pure false := by rfl) :
    PS X (.Assign [.Tuple [.Name x px, .Name y py] kt pt] (.Tuple [a, b] k2 pt2) pos) (tPar i j ta) := by
  intro pins s σ H D I h
  rw [exec_Assign_arm]
  refine wpAny_bind (wpAny_standAt ?_)
  rw [hs]
  refine wpAny_bind (wpAny_pure ?_)
  rw [if_neg (by decide)]
  refine wpAny_bind (Tuple_ (thn (ha _ pins s σ H _ I h) fun us s1 ⟨vs, H1, I1, r1, q1⟩ => ?_))
  obtain ⟨v, w, e1, q1⟩ := q1
  subst e1
  obtain ⟨u1, u2, rfl, rv, rw'⟩ : ∃ u1 u2, us = [u1, u2] ∧ RelV v u1 ∧ RelV w u2 := by
    cases r1 with
    | cons p q =>
      cases q with
      | cons p' q' =>
        cases q'
        exact ⟨_, _, rfl, p, p'⟩
  refine wpAny_newObj_type ?_ (by show 2 ≤ sizeLine; decide)
  have I2 : Inv X pins σ H1 { s1 with heap := s1.heap.push { cls := .type "tuple", data := .seq [u1, u2].toArray } } := I1.kept (t' := s1.toks) fun b o e => Heap.get?_push_of_some _ e
  rw [hw]
  refine wpAny_bind (wpAny_pure ?_)
  show wpAny (model X.prog X.w) X.A (do rule "assign.swapped-stores"; let items ← unpackItems (.ref s1.heap.objs.size) 2 none; assignInOrder [fun v => bindName X.env y v, fun v => bindName X.env x v] items.reverse; pure Flow.next) _ _ _
  refine wpAny_bind (wpAny_rule (wpAny_bind (unpackItems_tuple (items := #[u1, u2]) (I.ok.hd hc) (IsTup.new s1.heap _) fun h' hx' => ?_)))
  have I3 := I2.kept (h' := h') (t' := s1.toks) fun b o e => hx' b o (Nat.ne_of_lt (Heap.lt_size e)) e
  show wpAny _ _ (assignInOrder [fun v => bindName X.env y v, fun v => bindName X.env x v] [u2, u1] >>= fun _ => pure Flow.next) _ _ _
  refine wpAny_bind (assignInOrder_cons (wpAny_bindName (store_ok I3 hN hj (.inl hy) rw' (fun s2 I4 => ?_) (.inr hy))))
  refine assignInOrder_cons (wpAny_bindName (store_ok I4 hN hi (.inl hx) rv (fun s3 I5 => assignInOrder_nil (wpAny_pure ?_)) (.inr hx)))
  rw [List.set_comm _ _ (Ne.symm hij)] at I5
  exact ⟨_, H1, I5, q1⟩
def tAug (i : Nat) (te : TE) (ti : TIp) : TS := fun D σ H => ∃ x, σ[i]? = some (some x) ∧ te σ H fun y H1 => ti x y H1 fun z H2 => D.nx (σ.set i (some z)) H2
def tAugS (to ti te : TE) (tget : V → V → Hp → VK → Prop) (tip : TIp) (tset : TSet) : TS := fun D σ H => to σ H fun o H1 => ti σ H1 fun i H2 => tget o i H2 fun x H3 => te σ H3 fun y H4 => tip x y H4 fun z H5 => tset o i z H5 fun H6 => D.nx σ H6
def PGet (X : Cx) (t : V → V → Hp → VK → Prop) : Prop :=
  ∀ (pins : List (Addr × Obj)) (s : Shared) (σ : St) (H : Hp) (o i : V) (ov iv : Value) (Q : VK), Inv X pins σ H s → RelV o ov → RelV i iv → t o i H Q →
    wpAny (model X.prog X.w) X.A (getItem ov iv) (EP X pins σ Q) X.xe s
def ipI (f : Int → Int → Int) : TIp := fun x y H Q => ∃ i j, x = .int i ∧ y = .int j ∧ Q (.int (f i j)) H
end
section
variable {X : Cx} {pos : Pos}
def tWhile (c : TT) (tb : TS) : TS := fun D σ H => ∃ W : Nat → St → Hp → Prop, (∃ m, W m σ H) ∧ ∀ m σ H, W m σ H →
  c σ H fun b H1 => if b = true then ∃ N : St → Hp → Prop, (∀ σ' H', N σ' H' → ∃ m', m' < m ∧ W m' σ' H') ∧ tb { D with nx := N, ct := N, bk := D.nx } σ H1 else D.nx σ H1
theorem ps_while {c : Expr} {body : List Stmt} {tc : TT} {tb : TS} (hp : PassesOwn (model X.prog X.w) X.A X.env X.xe) (hc : PT X c tc) (hb : PSs X body tb) : PS X (.While c body [] pos) (tWhile tc tb) := by
  intro pins s σ H D I h
  obtain ⟨W, ⟨m0, w0⟩, turn⟩ := h
  refine wpAny_While (codeAny_whileLoop (fun n s' => ∃ σ' H', Inv X pins σ' H' s' ∧ W n σ' H') ?_ m0 ⟨σ, H, I, w0⟩)
  rintro n s1 ⟨σ1, H1, I1, w1⟩
  refine wpAny_passesOwn hp (thn (hc pins s1 σ1 H1 _ I1 (turn n σ1 H1 w1)) fun b s2 ⟨H2, I2, q2⟩ => ?_)
  cases b with
  | true =>
    obtain ⟨N, hN, q2⟩ := q2
    rw [if_pos rfl]
    refine wpAny_passesOwn hp (thn (hb pins s2 σ1 H2 _ I2 q2) fun f s3 q3 => ?_)
    cases f with
    | next =>
      obtain ⟨σ3, H3, I3, n3⟩ := q3
      obtain ⟨m', hm, w3⟩ := hN σ3 H3 n3
      exact ⟨m', hm, σ3, H3, I3, w3⟩
    | cont =>
      obtain ⟨σ3, H3, I3, n3⟩ := q3
      obtain ⟨m', hm, w3⟩ := hN σ3 H3 n3
      exact ⟨m', hm, σ3, H3, I3, w3⟩
    | brk => exact q3
    | ret v => exact q3
  | false =>
    rw [if_neg Bool.false_ne_true]
    exact wpAny_execs_nil ⟨σ1, H2, I2, q2⟩
end
structure It where
  go : Nat → Hp → Prop
  yld : Nat → Hp → V → Hp → Prop
  stop : Nat → Hp → Prop
def FpOk (X : Cx) (pins : List (Addr × Obj)) (H : Hp) (b : Addr) : Prop :=
  H b = none ∧ b ≠ X.env.locals ∧ b ∉ X.fs ∧ (b ∈ X.ex ∨ X.s₀.heap.objs.size ≤ b) ∧ (∀ x c, X.env.cells.lookup x = some c → c ≠ b) ∧ ∀ p ∈ X.pn ++ pins, p.1 ≠ b
theorem Inv.fpOk {X : Cx} {pins : List (Addr × Obj)} {σ : St} {H H' : Hp} {s : Shared} {b : Addr} (I : Inv X pins σ H s) (hb : s.heap.objs.size ≤ b) (hn : H' b = none) : FpOk X pins H' b := by
  refine ⟨hn, Nat.ne_of_gt (Nat.lt_of_lt_of_le I.lt hb), I.nofs hb, .inr (Nat.le_trans I.sz hb), fun x c e z => ?_, fun p hp z => ?_⟩
  · obtain ⟨v, q⟩ := I.cell x c e
    exact absurd (Nat.lt_of_lt_of_le q.lt (by rw [z]; exact hb)) (Nat.lt_irrefl _)
  · exact absurd (Nat.lt_of_lt_of_le (Heap.lt_size (I.pin p hp).1) (by rw [z]; exact hb)) (Nat.lt_irrefl _)
structure Turn (P : Program) (w : World) (K : PySem.W.Frag) (tg : Expr) (J : It) (fp : List Addr) (it : Addr) (tn : Nat → Heap → Prop) : Prop where
  mem : it ∈ fp
  obj : ∀ i h, tn i h → ∀ b ∈ fp, ∃ o, h.get? b = some o ∧ ∀ v, o.data ≠ .cell v
  keep : ∀ i h h', tn i h → (∀ b ∈ fp, ∀ o, h.get? b = some o → h'.get? b = some o) → tn i h'
  item : ∀ (X : Cx), X.prog = P → X.w = w → X.K = K → X.calm = true → ∀ (i : Nat) (pins : List (Addr × Obj)) (s : Shared) (σ : St) (H : Hp) (E : Value → Shared → Prop), Inv X pins σ H s → (∀ b ∈ fp, FpOk X pins H b) → tn i s.heap → J.go i H →
    wpAny (model P w) X.A (pyNext (.ref it)) (fun r s1 => ∃ u, r = some u ∧
      wpAny (model P w) X.A (letOwnedTupleGo tg (.ref it) u) (fun _ s2 => ∃ x H', Inv X pins σ H' s2 ∧ RelV x u ∧ J.yld i H x H' ∧ tn (i + 1) s2.heap ∧ ∀ b ∈ fp, H' b = none) E s1) E s
  done : ∀ (X : Cx), X.prog = P → X.w = w → X.K = K → X.calm = true → ∀ (i : Nat) (pins : List (Addr × Obj)) (s : Shared) (σ : St) (H : Hp) (E : Value → Shared → Prop), Inv X pins σ H s → (∀ b ∈ fp, FpOk X pins H b) → tn i s.heap → J.stop i H →
    wpAny (model P w) X.A (pyNext (.ref it)) (fun r s1 => r = none ∧ Inv X pins σ H s1) E s
  self : ∀ (A : Around) (i : Nat) (s : Shared) (Q : Value → Shared → Prop) (E : Value → Shared → Prop), tn i s.heap → Q (.ref it) s → wpAny (model P w) A (pyIter (.ref it)) Q E s
abbrev TI := St → Hp → (It → Hp → Prop) → Prop
def PIE (X : Cx) (pins : List (Addr × Obj)) (σ : St) (tg : Expr) (R : It → Hp → Prop) (itv : Value) (s2 : Shared) : Prop :=
  ∃ (it : Addr) (fp : List Addr) (tn : Nat → Heap → Prop) (J : It) (H' : Hp), itv = .ref it ∧ Inv X pins σ H' s2 ∧ Turn X.prog X.w X.K tg J fp it tn ∧ tn 0 s2.heap ∧ (∀ b ∈ fp, FpOk X pins H' b) ∧ R J H'
def PI (X : Cx) (tg iter : Expr) (wi : TI) : Prop :=
  ∀ (pins : List (Addr × Obj)) (s : Shared) (σ : St) (H : Hp) (R : It → Hp → Prop), Inv X pins σ H s → wi σ H R →
    wpAny (model X.prog X.w) X.A (eval iter X.env) (fun v s1 => wpAny (model X.prog X.w) X.A (pyIter v) (PIE X pins σ tg R) X.xe s1) X.xe s
theorem go_of {M : Model} {A : Around} {E : Value → Shared → Prop} {s : Shared} {tg : Expr} {it : Addr} {u : Value} {o : Obj} {n : String} {vs : Array Value} {Q : Unit → Shared → Prop} (ho : s.heap.get? it = some o) (hc : o.cls = .type n) (hd : o.data = .fields vs)
    (hn : ["enumerate", "zip", "dict_itemiterator", "dict_reverseitemiterator", "odict_iterator", "itertools.zip_longest", "itertools.pairwise"].contains n = false) (hQ : Q () s) : wpAny M A (letOwnedTupleGo tg (.ref it) u) Q E s := by
  unfold letOwnedTupleGo
  cases tg <;> first
    | exact wpAny_pure hQ
    | (cases u <;> first
        | exact wpAny_pure hQ
        | (refine wpAny_bind (wpAny_load ho ?_)
           rw [hc, hd]
           show wpAny M A (if (["enumerate", "zip", "dict_itemiterator", "dict_reverseitemiterator", "odict_iterator", "itertools.zip_longest", "itertools.pairwise"].contains n && vs[0]? == some (rawInt _)) = true then _ else _) Q E s
           rw [if_neg (by intro h; rw [hn, Bool.false_and] at h; cases h)]
           exact wpAny_pure hQ))
def Itl (K : PySem.W.Frag) (a : Addr) : It :=
  ⟨fun i H => ∃ xs x, SqL K H a xs ∧ xs[i]? = some x, fun i H x H' => H' = H ∧ ∀ xs, SqL K H a xs → xs[i]? = some x, fun i H => ∃ xs, SqL K H a xs ∧ xs.length ≤ i⟩
def Itt (K : PySem.W.Frag) (a : Addr) : It :=
  ⟨fun i H => ∃ xs x, SqT K H a xs ∧ xs[i]? = some x, fun i H x H' => H' = H ∧ ∀ xs, SqT K H a xs → xs[i]? = some x, fun i H => ∃ xs, SqT K H a xs ∧ xs.length ≤ i⟩
def Itr (lo : Int) (n : Nat) : It := ⟨fun i _ => i < n, fun i H x H' => H' = H ∧ x = .int (lo + i), fun i _ => n ≤ i⟩
theorem turn_list {P : Program} {w : World} {K : PySem.W.Frag} {tg : Expr} (a it : Addr) : Turn P w K tg (Itl K a) [it] it (fun i h => h.IsListIter it a i) where
  mem := by simp
  obj := fun i h st b hb => by
    have e : b = it := by simpa using hb
    subst e
    obtain ⟨o, e, c, d⟩ := st
    exact ⟨o, e, fun v z => by rw [d] at z; cases z⟩
  keep := fun i h h' st k => st.at fun o e => k it (by simp) o e
  item := by
    intro X hP hw hK hc i pins s σ H E I hf st hg
    subst hP hw hK
    obtain ⟨xs, x, hq, hx⟩ := hg
    obtain ⟨its, rv, p, hz⟩ := I.list hq
    obtain ⟨u, hu, ru⟩ := rv.get hx
    obtain ⟨f0, f1, f2, f3, f4, f5⟩ := hf it (by simp)
    refine wpAny_pyNext_list_item st p.isList (x := u) (by simpa using hu) fun h' st' sb => ?_
    have I1 : Inv X pins σ H { s with heap := h' } := I.turned (t' := s.toks) (fun b o hb e => (sb.2 b hb).trans e) f0 f1 f3 f4 f5
    obtain ⟨o, e, c, d⟩ := id st'
    exact ⟨u, rfl, go_of (s := { s with heap := h' }) e c d (by decide) ⟨x, H, I1, ru, ⟨rfl, fun ys hy => by rw [I.list_inj hy hq]; exact hx⟩, st', fun b hb => (hf b hb).1⟩⟩
  done := by
    intro X hP hw hK hc i pins s σ H E I hf st hg
    subst hP hw hK
    obtain ⟨xs, hq, hx⟩ := hg
    obtain ⟨its, rv, p, hz⟩ := I.list hq
    obtain ⟨f0, f1, f2, f3, f4, f5⟩ := hf it (by simp)
    have hl := rv.length
    exact wpAny_pyNext_list_end (I.ok.hd hc) st p.isList (by simp; omega) fun h' eb => ⟨rfl, I.turned (t' := s.toks) (fun b o hb e => eb b o hb e) f0 f1 f3 f4 f5⟩
  self := fun _ _ _ _ _ st h => wpAny_pyIter_listiter st h
theorem turn_tuple {P : Program} {w : World} {K : PySem.W.Frag} {tg : Expr} (a it : Addr) : Turn P w K tg (Itt K a) [it] it (fun i h => h.IsTupleIter it a i) where
  mem := by simp
  obj := fun i h st b hb => by
    have e : b = it := by simpa using hb
    subst e
    obtain ⟨o, e, c, d⟩ := st
    exact ⟨o, e, fun v z => by rw [d] at z; cases z⟩
  keep := fun i h h' st k => st.at fun o e => k it (by simp) o e
  item := by
    intro X hP hw hK hc i pins s σ H E I hf st hg
    subst hP hw hK
    obtain ⟨xs, x, hq, hx⟩ := hg
    obtain ⟨its, rv, p, hz⟩ := I.tuple hq
    obtain ⟨u, hu, ru⟩ := rv.get hx
    obtain ⟨f0, f1, f2, f3, f4, f5⟩ := hf it (by simp)
    refine wpAny_pyNext_tuple_item st (show s.heap.IsTuple a its.toArray from p) (x := u) (by simpa using hu) fun h' st' sb => ?_
    have I1 : Inv X pins σ H { s with heap := h' } := I.turned (t' := s.toks) (fun b o hb e => (sb.2 b hb).trans e) f0 f1 f3 f4 f5
    obtain ⟨o, e, c, d⟩ := id st'
    exact ⟨u, rfl, go_of (s := { s with heap := h' }) e c d (by decide) ⟨x, H, I1, ru, ⟨rfl, fun ys hy => by rw [I.tuple_inj hy hq]; exact hx⟩, st', fun b hb => (hf b hb).1⟩⟩
  done := by
    intro X hP hw hK hc i pins s σ H E I hf st hg
    subst hP hw hK
    obtain ⟨xs, hq, hx⟩ := hg
    obtain ⟨its, rv, p, hz⟩ := I.tuple hq
    obtain ⟨f0, f1, f2, f3, f4, f5⟩ := hf it (by simp)
    have hl := rv.length
    exact wpAny_pyNext_tuple_end (I.ok.hd hc) st (show s.heap.IsTuple a its.toArray from p) (by simp; omega) fun h' eb => ⟨rfl, I.turned (t' := s.toks) (fun b o hb e => eb b o hb e) f0 f1 f3 f4 f5⟩
  self := fun _ _ _ _ _ st h => wpAny_pyIter_tupleiter st h
theorem turn_range {P : Program} {w : World} {K : PySem.W.Frag} {tg : Expr} (it : Addr) (lo : Int) (n : Nat) : Turn P w K tg (Itr lo n) [it] it (fun i h => IsRangeIter h it (lo + (i : Nat) * 1) ((n : Int) - (i : Nat)) 1) where
  mem := by simp
  obj := fun i h st b hb => by
    have e : b = it := by simpa using hb
    subst e
    exact ⟨_, st, fun v z => by
      have z' : Data.fields _ = Data.cell v := z
      cases z'⟩
  keep := fun i h h' st k => k it (by simp) _ st
  item := by
    intro X hP hw hK hc i pins s σ H E I hf st hg
    subst hP hw hK
    obtain ⟨f0, f1, f2, f3, f4, f5⟩ := hf it (by simp)
    have W := Walks.range (prog := X.prog) (w := X.w) (I.ok.hd hc) it lo 1 n
    refine W.item i s _ _ hg st fun v h' tk hv st' kk => ?_
    obtain ⟨t, rfl⟩ := hv
    have I1 : Inv X pins σ H { s with heap := h', toks := tk } := I.turned (fun b o hb e => kk b o (by simpa using hb) e) f0 f1 f3 f4 f5
    refine ⟨_, rfl, go_of (s := { s with heap := h', toks := tk }) (n := "range_iterator") st' rfl rfl (by decide) ⟨.int (lo + i), H, I1, ⟨t, ?_⟩, ⟨rfl, rfl⟩, st', fun b hb => (hf b hb).1⟩⟩
    rw [Int.mul_one]
  done := by
    intro X hP hw hK hc i pins s σ H E I hf st hg
    subst hP hw hK
    obtain ⟨f0, f1, f2, f3, f4, f5⟩ := hf it (by simp)
    exact wpAny_pyNext_range_end (I.ok.hd hc) st (by have : n ≤ i := hg; omega) fun h' eb => ⟨rfl, I.turned (t' := s.toks) (fun b o hb e => eb b o hb e) f0 f1 f3 f4 f5⟩
  self := fun _ _ _ _ _ st h => wpAny_pyIter_rangeiter st h
end L2
namespace L2
open PySem PySem.Spec PyProof.Rows
section
variable {X : Cx} {tg : Expr}
def iList (K : PySem.W.Frag) (tl : TE) : TI := fun σ H R => tl σ H fun x H1 => ∃ a, x = .ref a ∧ (∃ xs, SqL K H1 a xs) ∧ R (Itl K a) H1
def iTup (K : PySem.W.Frag) (tl : TE) : TI := fun σ H R => tl σ H fun x H1 => ∃ a, x = .ref a ∧ (∃ xs, SqT K H1 a xs) ∧ R (Itt K a) H1
theorem pi_list {l : Expr} {tl : TE} (hl : PE X l tl) : PI X tg l (iList X.K tl) := by
  intro pins s σ H R I h
  refine thn (hl pins s σ H _ I h) fun v s1 ⟨x, H1, I1, r1, q1⟩ => ?_
  obtain ⟨a, e, ⟨xs, hq⟩, q⟩ := q1
  subst e
  cases r1
  obtain ⟨its, rv, p, hz⟩ := I1.list hq
  refine wpAny_pyIter_list p.isList ?_
  refine ⟨s1.heap.objs.size, [s1.heap.objs.size], _, _, H1, rfl, I1.kept (t' := s1.toks) fun b o e => Heap.get?_push_of_some _ e, turn_list a _, ⟨_, Heap.get?_push_size _ rfl, rfl, rfl⟩, fun b hb => ?_, q⟩
  have e : b = s1.heap.objs.size := by simpa using hb
  subst e
  exact I1.fpOk (Nat.le_refl _) (I1.hok.fresh (Nat.le_refl _))
theorem pi_tup {l : Expr} {tl : TE} (hl : PE X l tl) : PI X tg l (iTup X.K tl) := by
  intro pins s σ H R I h
  refine thn (hl pins s σ H _ I h) fun v s1 ⟨x, H1, I1, r1, q1⟩ => ?_
  obtain ⟨a, e, ⟨xs, hq⟩, q⟩ := q1
  subst e
  cases r1
  obtain ⟨its, rv, p, hz⟩ := I1.tuple hq
  refine wpAny_pyIter_tuple (show s1.heap.IsTuple a its.toArray from p) ?_
  refine ⟨s1.heap.objs.size, [s1.heap.objs.size], _, _, H1, rfl, I1.kept (t' := s1.toks) fun b o e => Heap.get?_push_of_some _ e, turn_tuple a _, ⟨_, Heap.get?_push_size _ rfl, rfl, rfl⟩, fun b hb => ?_, q⟩
  have e : b = s1.heap.objs.size := by simpa using hb
  subst e
  exact I1.fpOk (Nat.le_refl _) (I1.hok.fresh (Nat.le_refl _))
theorem range_it {pins : List (Addr × Obj)} {σ : St} {H : Hp} {s : Shared} {R : It → Hp → Prop} {E : Value → Shared → Prop} {lo hi : Int} {t u v : Tok} {tk : Nat} (I : Inv X pins σ H s) (h1 : -(2 ^ 62) ≤ lo) (h2 : lo < 2 ^ 62) (h3 : -(2 ^ 62) ≤ hi) (h4 : hi < 2 ^ 62)
    (q : R (Itr lo (hi - lo).toNat) H) : wpAny (model X.prog X.w) X.A (pyIter (.ref s.heap.objs.size)) (PIE X pins σ tg R) E { s with heap := s.heap.push { cls := .type "range", data := .fields #[.int lo t, .int hi u, .int 1 v] }, toks := tk } := by
  refine wpAny_pyIter_range (IsRange.new ..) (small_one h1 h2 h3 h4) ?_
  have I1 : Inv X pins σ H { s with heap := s.heap.push { cls := .type "range", data := .fields #[.int lo t, .int hi u, .int 1 v] }, toks := tk } := I.kept fun b o e => Heap.get?_push_of_some _ e
  refine ⟨(s.heap.push { cls := .type "range", data := .fields #[.int lo t, .int hi u, .int 1 v] }).objs.size, [(s.heap.push { cls := .type "range", data := .fields #[.int lo t, .int hi u, .int 1 v] }).objs.size], _, _, H, rfl,
    I1.kept (t' := tk) fun b o e => Heap.get?_push_of_some _ e, turn_range _ lo (hi - lo).toNat, ?_, fun b hb => ?_, q⟩
  · have e1 : lo + ((0 : Nat) : Int) * 1 = lo := by simp
    have e2 : (((hi - lo).toNat : Nat) : Int) - ((0 : Nat) : Int) = Builtin.Range.rangeSize lo hi 1 := by rw [rangeSize_one]; split <;> omega
    show IsRangeIter _ _ (lo + ((0 : Nat) : Int) * 1) ((((hi - lo).toNat : Nat) : Int) - ((0 : Nat) : Int)) 1
    rw [e1, e2]
    exact Heap.get?_push_size _ rfl
  · have e : b = (s.heap.push { cls := .type "range", data := .fields #[.int lo t, .int hi u, .int 1 v] }).objs.size := by simpa using hb
    subst e
    exact I1.fpOk (Nat.le_refl _) (I1.hok.fresh (Nat.le_refl _))
def iRng1 (ta : TA) : TI := fun σ H R => ta σ H fun vs H1 => ∃ j : Int, vs = [.int j] ∧ -(2 ^ 62) ≤ j ∧ j < 2 ^ 62 ∧ R (Itr 0 j.toNat) H1
def iRng2 (ta : TA) : TI := fun σ H R => ta σ H fun vs H1 => ∃ i j : Int, vs = [.int i, .int j] ∧ (-(2 ^ 62) ≤ i ∧ i < 2 ^ 62 ∧ -(2 ^ 62) ≤ j ∧ j < 2 ^ 62) ∧ R (Itr i (j - i).toNat) H1
theorem pi_range1 {a : Expr} {ta : TA} {p pos : Pos} (hg : Gl X "range") (hm : X.mg "range" = none) (ha : PA X [a] ta) (hs : starEach [a] X.env = [(false, eval a X.env)] := by rfl) : PI X tg (.Call (.Name "range" p) [a] [] pos) (iRng1 ta) := by
  intro pins s σ H R I h
  refine Call_ (ld_blt I hg hm boot_range (PyProof.Rows.callWith_type1 (thn (ha pos pins s σ H _ I h) fun us s1 ⟨vs, H1, I1, r1, q1⟩ => ?_) hs rfl))
  obtain ⟨j, e, q1, q2, q⟩ := q1
  subst e
  cases r1 with
  | cons r rr =>
    cases rr
    obtain ⟨t, rfl⟩ := r
    exact call_range_1 (range_it I1 (by omega) (by omega) q1 q2 (by simpa using q))
def tFor (wi : TI) (g : TG) (tb : TS) : TS := fun D σ H => wi σ H fun J H1 => ∃ W : Nat → Nat → St → Hp → Prop, (∃ m, W 0 m σ H1) ∧ ∀ i m σ H, W i m σ H →
  (J.stop i H ∧ D.nx σ H) ∨ (J.go i H ∧ ∃ N : St → Hp → Prop, (∀ σ' H', N σ' H' → ∃ m', m' < m ∧ W (i + 1) m' σ' H') ∧ ∀ x H', J.yld i H x H' → g x σ H' fun σ2 H2 => tb { D with nx := N, ct := N, bk := D.nx } σ2 H2)
def pinsAt (fp : List Addr) (h : Heap) : List (Addr × Obj) := fp.filterMap fun b => (h.get? b).map fun o => (b, o)
theorem mem_pinsAt {fp : List Addr} {h : Heap} {b : Addr} {o : Obj} (hb : b ∈ fp) (e : h.get? b = some o) : (b, o) ∈ pinsAt fp h := List.mem_filterMap.mpr ⟨b, hb, by rw [e]; rfl⟩
theorem of_pinsAt {fp : List Addr} {h : Heap} {p : Addr × Obj} (hp : p ∈ pinsAt fp h) : p.1 ∈ fp ∧ h.get? p.1 = some p.2 := by
  obtain ⟨b, hb, e⟩ := List.mem_filterMap.mp hp
  cases q : h.get? b with
  | none => rw [q] at e; cases e
  | some o =>
    rw [q] at e
    have e' : (b, o) = p := Option.some.inj e
    subst e'
    exact ⟨hb, q⟩
theorem Inv.pinned {pins : List (Addr × Obj)} {σ : St} {H : Hp} {s : Shared} {fp : List Addr} (I : Inv X pins σ H s) (hf : ∀ b ∈ fp, FpOk X pins H b) (ho : ∀ b ∈ fp, ∃ o, s.heap.get? b = some o ∧ ∀ v, o.data ≠ .cell v) : Inv X (pins ++ pinsAt fp s.heap) σ H s :=
  I.pins_of fun p hp => (List.mem_append.mp hp).elim (fun z => I.pin p (List.mem_append_right _ z)) fun z => by
    obtain ⟨hb, e⟩ := of_pinsAt z
    obtain ⟨f0, f1, f2, _⟩ := hf p.1 hb
    obtain ⟨o, e', d⟩ := ho p.1 hb
    rw [e] at e'; cases e'
    exact ⟨e, f0, f1, f2, d⟩
theorem Inv.unpinned {pins pl : List (Addr × Obj)} {σ : St} {H : Hp} {s : Shared} (I : Inv X (pins ++ pl) σ H s) : Inv X pins σ H s := I.pins_of fun p hp => I.pin p (List.mem_append_right _ (List.mem_append_left _ hp))
theorem ps_for {iter : Expr} {body : List Stmt} {wi : TI} {g : TG} {tb : TS} {pos : Pos} (hp : PassesOwn (model X.prog X.w) X.A X.env X.xe) (hc : X.calm = true) (hi : PI X tg iter wi) (hg : PG X tg g) (hb : PSs X body tb)
    (hs : ∀ x, foldedSetIterable iter X.env x = pure x := by intro _; rfl) : PS X (.For tg iter body [] pos) (tFor wi g tb) := by
  intro pins s σ H D I h
  refine wpAny_For (thn (hi pins s σ H _ I h) fun v s1 h1 => thn h1 fun itv s2 h2 => ?_) hs
  obtain ⟨it, fp, tn, J, H2, e, I2, T, st2, f2, W, ⟨m0, w0⟩, turn⟩ := h2
  subst e
  have stat : ∀ {H' : Hp}, (∀ b ∈ fp, H' b = none) → ∀ b ∈ fp, FpOk X pins H' b := fun hn b hb => ⟨hn b hb, (f2 b hb).2⟩
  refine codeAny_forLoop_any (fun n s' => ∃ i σ' H', Inv X pins σ' H' s' ∧ tn i s'.heap ∧ (∀ b ∈ fp, H' b = none) ∧ W i n σ' H') ?_ m0 ⟨0, σ, H2, I2, st2, fun b hb => (f2 b hb).1, w0⟩
  rintro n s3 ⟨i, σ3, H3, I3, st3, fr3, w3⟩
  rcases turn i n σ3 H3 w3 with ⟨stop, qn⟩ | ⟨go, N, hN, step⟩
  · refine wpAny_passesOwn hp (thn (T.done X rfl rfl rfl hc i pins s3 σ3 H3 X.xe I3 (stat fr3) st3 stop) fun r s4 ⟨hr, I4⟩ => ?_)
    subst hr
    exact wpAny_execs_nil ⟨σ3, H3, I4, qn⟩
  · refine wpAny_passesOwn hp (thn (T.item X rfl rfl rfl hc i pins s3 σ3 H3 X.xe I3 (stat fr3) st3 go) fun r s4 ⟨u, hr, h4⟩ => ?_)
    subst hr
    refine wpAny_passesOwn hp (thn h4 fun _ s5 ⟨x, H5, I5, r5, y5, st5, fr5⟩ => ?_)
    have I5' := I5.pinned (stat fr5) (T.obj _ _ st5)
    refine wpAny_passesOwn hp (thn (hg _ s5 σ3 H5 x u _ I5' r5 (step x H5 y5)) fun _ s6 ⟨σ6, H6, I6, q6⟩ => ?_)
    refine wpAny_passesOwn hp (thn (hb _ s6 σ6 H6 _ I6 q6) fun f s7 q7 => ?_)
    have again : ∀ {σ7 : St} {H7 : Hp}, Inv X (pins ++ pinsAt fp s5.heap) σ7 H7 s7 → N σ7 H7 → ∃ m, m < n ∧ ∃ i σ' H', Inv X pins σ' H' s7 ∧ tn i s7.heap ∧ (∀ b ∈ fp, H' b = none) ∧ W i m σ' H' := fun {σ7 H7} I7 n7 => by
      obtain ⟨m', hm, w7⟩ := hN σ7 H7 n7
      refine ⟨m', hm, i + 1, σ7, H7, I7.unpinned, T.keep _ _ _ st5 fun b hb o e => (I7.pin (b, o) (List.mem_append_right _ (List.mem_append_right _ (mem_pinsAt hb e)))).1, fun b hb => ?_, w7⟩
      obtain ⟨o, e, d⟩ := T.obj _ _ st5 b hb
      exact (I7.pin (b, o) (List.mem_append_right _ (List.mem_append_right _ (mem_pinsAt hb e)))).2.1
    cases f with
    | next => obtain ⟨σ7, H7, I7, n7⟩ := q7; exact again I7 n7
    | cont => obtain ⟨σ7, H7, I7, n7⟩ := q7; exact again I7 n7
    | brk => obtain ⟨σ7, H7, I7, q7⟩ := q7; exact ⟨σ7, H7, I7.unpinned, q7⟩
    | ret v => obtain ⟨x7, σ7, H7, I7, r7, q7⟩ := q7; exact ⟨x7, σ7, H7, I7.unpinned, r7, q7⟩
end
theorem for_list {K : PySem.W.Frag} {a : Addr} {xs : List V} {g : TG} {tb : TS} {D : Ends} {σ : St} {H : Hp} (Pv : Nat → St → Hp → Prop) (h0 : Pv 0 σ H) (hl : ∀ i σ H, i ≤ xs.length → Pv i σ H → SqL K H a xs)
    (hs : ∀ i x σ H, xs[i]? = some x → Pv i σ H → g x σ H fun σ2 H2 => tb { D with nx := Pv (i + 1), ct := Pv (i + 1), bk := D.nx } σ2 H2) (hd : ∀ σ H, Pv xs.length σ H → D.nx σ H) :
    ∃ W : Nat → Nat → St → Hp → Prop, (∃ m, W 0 m σ H) ∧ ∀ i m σ H, W i m σ H →
      ((Itl K a).stop i H ∧ D.nx σ H) ∨ ((Itl K a).go i H ∧ ∃ N : St → Hp → Prop, (∀ σ' H', N σ' H' → ∃ m', m' < m ∧ W (i + 1) m' σ' H') ∧ ∀ x H', (Itl K a).yld i H x H' → g x σ H' fun σ2 H2 => tb { D with nx := N, ct := N, bk := D.nx } σ2 H2) := by
  refine ⟨fun i m σ H => m = xs.length - i ∧ i ≤ xs.length ∧ Pv i σ H, ⟨xs.length, by simp, Nat.zero_le _, h0⟩, ?_⟩
  rintro i m σ H ⟨rfl, hi, p⟩
  have q := hl i σ H hi p
  by_cases hlt : i < xs.length
  · refine .inr ⟨⟨xs, xs[i], q, by simp [hlt]⟩, Pv (i + 1), fun σ' H' p' => ⟨xs.length - (i + 1), by omega, rfl, hlt, p'⟩, fun x H' y => ?_⟩
    obtain ⟨e, y⟩ := y
    subst e
    exact hs i x σ _ (y xs q) p
  · have e : i = xs.length := by omega
    subst e
    exact .inl ⟨⟨xs, q, Nat.le_refl _⟩, hd σ H p⟩
theorem for_tup {K : PySem.W.Frag} {a : Addr} {xs : List V} {g : TG} {tb : TS} {D : Ends} {σ : St} {H : Hp} (Pv : Nat → St → Hp → Prop) (h0 : Pv 0 σ H) (hl : ∀ i σ H, i ≤ xs.length → Pv i σ H → SqT K H a xs)
    (hs : ∀ i x σ H, xs[i]? = some x → Pv i σ H → g x σ H fun σ2 H2 => tb { D with nx := Pv (i + 1), ct := Pv (i + 1), bk := D.nx } σ2 H2) (hd : ∀ σ H, Pv xs.length σ H → D.nx σ H) :
    ∃ W : Nat → Nat → St → Hp → Prop, (∃ m, W 0 m σ H) ∧ ∀ i m σ H, W i m σ H →
      ((Itt K a).stop i H ∧ D.nx σ H) ∨ ((Itt K a).go i H ∧ ∃ N : St → Hp → Prop, (∀ σ' H', N σ' H' → ∃ m', m' < m ∧ W (i + 1) m' σ' H') ∧ ∀ x H', (Itt K a).yld i H x H' → g x σ H' fun σ2 H2 => tb { D with nx := N, ct := N, bk := D.nx } σ2 H2) := by
  refine ⟨fun i m σ H => m = xs.length - i ∧ i ≤ xs.length ∧ Pv i σ H, ⟨xs.length, by simp, Nat.zero_le _, h0⟩, ?_⟩
  rintro i m σ H ⟨rfl, hi, p⟩
  have q := hl i σ H hi p
  by_cases hlt : i < xs.length
  · refine .inr ⟨⟨xs, xs[i], q, by simp [hlt]⟩, Pv (i + 1), fun σ' H' p' => ⟨xs.length - (i + 1), by omega, rfl, hlt, p'⟩, fun x H' y => ?_⟩
    obtain ⟨e, y⟩ := y
    subst e
    exact hs i x σ _ (y xs q) p
  · have e : i = xs.length := by omega
    subst e
    exact .inl ⟨⟨xs, q, Nat.le_refl _⟩, hd σ H p⟩
theorem for_range {lo : Int} {n : Nat} {g : TG} {tb : TS} {D : Ends} {σ : St} {H : Hp} (Pv : Nat → St → Hp → Prop) (h0 : Pv 0 σ H)
    (hs : ∀ i σ H, i < n → Pv i σ H → g (.int (lo + i)) σ H fun σ2 H2 => tb { D with nx := Pv (i + 1), ct := Pv (i + 1), bk := D.nx } σ2 H2) (hd : ∀ σ H, Pv n σ H → D.nx σ H) :
    ∃ W : Nat → Nat → St → Hp → Prop, (∃ m, W 0 m σ H) ∧ ∀ i m σ H, W i m σ H →
      ((Itr lo n).stop i H ∧ D.nx σ H) ∨ ((Itr lo n).go i H ∧ ∃ N : St → Hp → Prop, (∀ σ' H', N σ' H' → ∃ m', m' < m ∧ W (i + 1) m' σ' H') ∧ ∀ x H', (Itr lo n).yld i H x H' → g x σ H' fun σ2 H2 => tb { D with nx := N, ct := N, bk := D.nx } σ2 H2) := by
  refine ⟨fun i m σ H => m = n - i ∧ i ≤ n ∧ Pv i σ H, ⟨n, by simp, Nat.zero_le _, h0⟩, ?_⟩
  rintro i m σ H ⟨rfl, hi, p⟩
  by_cases hlt : i < n
  · refine .inr ⟨hlt, Pv (i + 1), fun σ' H' p' => ⟨n - (i + 1), by omega, rfl, hlt, p'⟩, fun x H' y => ?_⟩
    obtain ⟨e, y⟩ := y
    subst e y
    exact hs i σ _ hlt p
  · have e : i = n := by omega
    subst e
    exact .inl ⟨Nat.le_refl _, hd σ H p⟩
end L2
namespace L2
open PySem PySem.Spec PyProof.Rows
abbrev R2 := V → V → Hp → VK → Prop
def OpR (X : Cx) (f : Value → Value → Sem Value) (r : R2) : Prop :=
  ∀ (pins : List (Addr × Obj)) (s : Shared) (σ : St) (H : Hp) (x y : V) (v u : Value) (Q : VK), Inv X pins σ H s → RelV x v → RelV y u → r x y H Q →
    wpAny (model X.prog X.w) X.A (f v u) (EP X pins σ Q) X.xe s
def UnR (X : Cx) (f : Value → Sem Value) (r : V → Hp → VK → Prop) : Prop :=
  ∀ (pins : List (Addr × Obj)) (s : Shared) (σ : St) (H : Hp) (x : V) (v : Value) (Q : VK), Inv X pins σ H s → RelV x v → r x H Q →
    wpAny (model X.prog X.w) X.A (f v) (EP X pins σ Q) X.xe s
def CallR (X : Cx) (f : Value) (r : List V → Hp → VK → Prop) : Prop :=
  ∀ (pins : List (Addr × Obj)) (s : Shared) (σ : St) (H : Hp) (xs : List V) (us : List Value) (Q : VK), Inv X pins σ H s → Vals xs us → r xs H Q →
    wpAny (model X.prog X.w) X.A (call f us) (EP X pins σ Q) X.xe s
def TruR (X : Cx) (r : V → Hp → (Bool → Hp → Prop) → Prop) : Prop :=
  ∀ (pins : List (Addr × Obj)) (s : Shared) (σ : St) (H : Hp) (x : V) (v : Value) (Q : Bool → Hp → Prop), Inv X pins σ H s → RelV x v → r x H Q →
    wpAny (model X.prog X.w) X.A (truthy v) (TP X pins σ Q) X.xe s
def tOp (r : R2) (ta tb : TE) : TE := fun σ H Q => ta σ H fun x H1 => tb σ H1 fun y H2 => r x y H2 Q
def tUn (r : V → Hp → VK → Prop) (ta : TE) : TE := fun σ H Q => ta σ H fun x H1 => r x H1 Q
def rI (C : Int → Int → Prop) (g : Int → Int → V) : R2 := fun x y H Q => ∃ i j, x = .int i ∧ y = .int j ∧ C i j ∧ Q (g i j) H
def rI0 (g : Int → Int → V) : R2 := fun x y H Q => ∃ i j, x = .int i ∧ y = .int j ∧ Q (g i j) H
def rU (g : Int → V) : V → Hp → VK → Prop := fun x H Q => ∃ i, x = .int i ∧ Q (g i) H
section
variable {X : Cx} {a b c : Expr} {ta tb tc : TE} {pos : Pos}
theorem binT (ha : PE X a ta) (hb : PE X b tb) {pins : List (Addr × Obj)} {s : Shared} {σ : St} {H : Hp} {R : V → V → Hp → Prop} (I : Inv X pins σ H s)
    (h : ta σ H fun x H1 => tb σ H1 fun y H2 => R x y H2) {Q : Value → Shared → Prop} {f : Value → Value → Sem Value}
    (hf : ∀ v u s2 x y H2, Inv X pins σ H2 s2 → RelV x v → RelV y u → R x y H2 → wpAny (model X.prog X.w) X.A (f v u) Q X.xe s2) :
    wpAny (model X.prog X.w) X.A (eval a X.env) (fun v s₁ => wpAny (model X.prog X.w) X.A (eval b X.env) (fun u s₂ => wpAny (model X.prog X.w) X.A (f v u) Q X.xe s₂) X.xe s₁) X.xe s := by
  refine thn (ha pins s σ H _ I h) fun v s1 ⟨x, H1, I1, r1, q1⟩ => ?_
  refine thn (hb pins s1 σ H1 _ I1 q1) fun u s2 ⟨y, H2, I2, r2, q2⟩ => ?_
  exact hf v u s2 x y H2 I2 r1 r2 q2
theorem pe_op {op : Operator} {r : R2} (ho : OpR X (binaryOp op) r) (ha : PE X a ta) (hb : PE X b tb) : PE X (.BinOp a op b pos) (tOp r ta tb) := by
  intro pins s σ H Q I h
  exact wpAny_BinOp (binT ha hb I h fun v u s2 x y H2 I2 rx ry q => ho pins s2 σ H2 x y v u Q I2 rx ry q)
theorem pe_un {op : UnaryOp} {r : V → Hp → VK → Prop} (ho : UnR X (unaryOp op) r) (ha : PE X a ta) : PE X (.UnaryOp op a pos) (tUn r ta) := by
  intro pins s σ H Q I h
  exact UnaryOp_ (thn (ha pins s σ H _ I h) fun v s1 ⟨x, H1, I1, r1, q1⟩ => ho pins s1 σ H1 x v Q I1 r1 q1)
theorem opI {f : Value → Value → Sem Value} {C : Int → Int → Prop} {g : Int → Int → Int}
    (rule : ∀ (i j : Int) (t u : Tok) (s : Shared) (Q : Value → Shared → Prop) (E : Value → Shared → Prop), C i j → Q (.int (g i j) s.toks) { s with toks := s.toks + 1 } → wpAny (model X.prog X.w) X.A (f (.int i t) (.int j u)) Q E s) :
    OpR X f (rI C fun i j => .int (g i j)) := by
  intro pins s σ H x y v u Q I rx ry h
  obtain ⟨i, j, rfl, rfl, hc, q⟩ := h
  obtain ⟨t, rfl⟩ := rx
  obtain ⟨t', rfl⟩ := ry
  exact rule i j t t' s _ _ hc ⟨.int (g i j), H, I.tok _, ⟨_, rfl⟩, q⟩
theorem opI0 {f : Value → Value → Sem Value} {g : Int → Int → Int}
    (rule : ∀ (i j : Int) (t u : Tok) (s : Shared) (Q : Value → Shared → Prop) (E : Value → Shared → Prop), Q (.int (g i j) s.toks) { s with toks := s.toks + 1 } → wpAny (model X.prog X.w) X.A (f (.int i t) (.int j u)) Q E s) :
    OpR X f (rI0 fun i j => .int (g i j)) := by
  intro pins s σ H x y v u Q I rx ry h
  obtain ⟨i, j, rfl, rfl, q⟩ := h
  obtain ⟨t, rfl⟩ := rx
  obtain ⟨t', rfl⟩ := ry
  exact rule i j t t' s _ _ ⟨.int (g i j), H, I.tok _, ⟨_, rfl⟩, q⟩
theorem opB0 {f : Value → Value → Sem Value} {g : Int → Int → Bool}
    (rule : ∀ (i j : Int) (t u : Tok) (s : Shared) (Q : Value → Shared → Prop) (E : Value → Shared → Prop), Q (.bool (g i j)) s → wpAny (model X.prog X.w) X.A (f (.int i t) (.int j u)) Q E s) :
    OpR X f (rI0 fun i j => .bl (g i j)) := by
  intro pins s σ H x y v u Q I rx ry h
  obtain ⟨i, j, rfl, rfl, q⟩ := h
  obtain ⟨t, rfl⟩ := rx
  obtain ⟨t', rfl⟩ := ry
  exact rule i j t t' s _ _ ⟨.bl (g i j), H, I, rfl, q⟩
def CDiv (i j : Int) : Prop := 0 < j ∧ j < 1073741824
def CDivN (i j : Int) : Prop := j ≠ 0 ∧ j.natAbs < 1073741824
def CPow (i j : Int) : Prop := 0 ≤ j ∧ j ≤ 1000000 ∧ i.natAbs < 2 ^ 64
def CMul (i j : Int) : Prop := (-(2 ^ 64) < i ∧ i < 2 ^ 64) ∨ (-(2 ^ 64) < j ∧ j < 2 ^ 64)
theorem CMul.ok {i j : Int} (h : CMul i j) : IntMulOk i j := by
  rcases h with ⟨h1, h2⟩ | ⟨h1, h2⟩
  · exact .of_left (intBits_le_64 h1 h2)
  · exact .of_right (intBits_le_64 h1 h2)
theorem op_add : OpR X (binaryOp .Add) (rI0 fun i j => .int (i + j)) := opI0 fun _ _ _ _ _ _ _ q => add_int q
theorem op_sub : OpR X (binaryOp .Sub) (rI0 fun i j => .int (i - j)) := opI0 fun _ _ _ _ _ _ _ q => sub_int q
theorem op_mul : OpR X (binaryOp .Mult) (rI CMul fun i j => .int (i * j)) := opI fun _ _ _ _ _ _ _ hc q => mul_int q hc.ok
theorem op_fdiv : OpR X (binaryOp .FloorDiv) (rI CDiv fun i j => .int (i / j)) := opI fun i j _ _ _ _ _ hc q => by
  have h1 : (0 : Int) < j := hc.1
  have h2 : j < 1073741824 := hc.2
  exact floordiv_int (by omega) (by rw [Int.fdiv_eq_ediv_of_nonneg i (by omega)]; exact q) (.inl (PyProof.noPylong_small (by omega)))
theorem op_mod : OpR X (binaryOp .Mod) (rI (fun _ j => 0 < j) fun i j => .int (i % j)) := opI fun i j _ _ _ _ _ hc q => by
  have h1 : (0 : Int) < j := hc
  exact mod_int' (by omega) (by rw [Int.fmod_eq_emod_of_nonneg i (by omega)]; exact q)
theorem op_pow : OpR X (binaryOp .Pow) (rI CPow fun i j => .int (i ^ j.toNat)) := opI fun _ _ _ _ _ _ _ hc q => pow_int_small hc.1 hc.2.1 hc.2.2 q
theorem unI {f : Value → Sem Value} {g : Int → Int}
    (rule : ∀ (i : Int) (t : Tok) (s : Shared) (Q : Value → Shared → Prop) (E : Value → Shared → Prop), Q (.int (g i) s.toks) { s with toks := s.toks + 1 } → wpAny (model X.prog X.w) X.A (f (.int i t)) Q E s) :
    UnR X f (rU fun i => .int (g i)) := by
  intro pins s σ H x v Q I rx h
  obtain ⟨i, rfl, q⟩ := h
  obtain ⟨t, rfl⟩ := rx
  exact rule i t s _ _ ⟨.int (g i), H, I.tok _, ⟨_, rfl⟩, q⟩
theorem un_neg : UnR X (unaryOp .USub) (rU fun i => .int (-i)) := unI fun _ _ _ _ _ q => neg_int q
end
def scal : V → V → Bool
  | .non, .non => true | .non, .int _ => true | .int _, .non => true | .non, .bl _ => true | .bl _, .non => true | .non, .str _ => true | .str _, .non => true
  | .int _, .int _ => true | .bl _, .bl _ => true | .str _, .str _ => true | .byt _, .byt _ => true
  | .int _, .str _ => true | .str _, .int _ => true | .bl _, .str _ => true | .str _, .bl _ => true
  | _, _ => false
def rEq : R2 := fun x y H Q => scal x y = true ∧ Q (.bl (decide (x = y))) H
def rNe : R2 := fun x y H Q => scal x y = true ∧ Q (.bl (!decide (x = y))) H
theorem dec_int {i j : Int} : decide (V.int i = V.int j) = (i == j) := by
  rw [Bool.eq_iff_iff]
  simp
theorem dec_bl {i j : Bool} : decide (V.bl i = V.bl j) = (i == j) := by
  rw [Bool.eq_iff_iff]
  simp
theorem dec_str {i j : Str} : decide (V.str i = V.str j) = (i == j) := by
  rw [Bool.eq_iff_iff]
  simp
theorem dec_byt {i j : Array UInt8} : decide (V.byt i = V.byt j) = (i.toList == j.toList) := by
  rw [Bool.eq_iff_iff]
  cases i
  cases j
  simp
section
variable {X : Cx} {a b c : Expr} {ta tb tc : TE} {pos : Pos}
theorem fin_bl {pins : List (Addr × Obj)} {σ : St} {H : Hp} {s : Shared} {Q : VK} {k k' : Bool} (I : Inv X pins σ H s) (q : Q (.bl k) H) (e : k = k') : EP X pins σ Q (.bool k') s := by
  subst e
  exact ⟨.bl k, H, I, rfl, q⟩
theorem op_eq : OpR X (compareOp .Eq) rEq := by
  intro pins s σ H x y v u Q I rx ry h
  obtain ⟨hs, q⟩ := h
  cases x with
  | non =>
    cases rx
    cases y with
    | non => cases ry; exact PySem.EqNone.eq_none_none (fin_bl I q (by simp))
    | bl j => cases ry; exact PySem.EqNone.eq_none_bool (fin_bl I q (by simp))
    | int j => obtain ⟨t', rfl⟩ := ry; exact PySem.EqNone.eq_none_int (fin_bl I q (by simp))
    | str j => obtain ⟨t', rfl⟩ := ry; exact PySem.EqNone.eq_none_str (fin_bl I q (by simp))
    | _ => exact absurd (show false = true from hs) Bool.false_ne_true
  | bl i =>
    cases rx
    cases y with
    | non => cases ry; exact PySem.EqNone.eq_bool_none (fin_bl I q (by simp))
    | bl j => cases ry; exact eq_bool (fin_bl I q dec_bl)
    | str j => obtain ⟨t', rfl⟩ := ry; exact PySem.EqMixed.eq_bool_str (fin_bl I q (by simp))
    | _ => exact absurd (show false = true from hs) Bool.false_ne_true
  | int i =>
    obtain ⟨t, rfl⟩ := rx
    cases y with
    | non => cases ry; exact PySem.EqNone.eq_int_none (fin_bl I q (by simp))
    | int j => obtain ⟨t', rfl⟩ := ry; exact eq_int (fin_bl I q dec_int)
    | str j => obtain ⟨t', rfl⟩ := ry; exact PySem.EqMixed.eq_int_str (fin_bl I q (by simp))
    | _ => exact absurd (show false = true from hs) Bool.false_ne_true
  | str i =>
    obtain ⟨t, rfl⟩ := rx
    cases y with
    | non => cases ry; exact PySem.EqNone.eq_str_none (fin_bl I q (by simp))
    | bl j => cases ry; exact PySem.EqMixed.eq_str_bool (fin_bl I q (by simp))
    | int j => obtain ⟨t', rfl⟩ := ry; exact PySem.EqMixed.eq_str_int (fin_bl I q (by simp))
    | str j => obtain ⟨t', rfl⟩ := ry; exact eq_str (fin_bl I q dec_str)
    | _ => exact absurd (show false = true from hs) Bool.false_ne_true
  | byt i =>
    obtain ⟨t, rfl⟩ := rx
    cases y with
    | byt j => obtain ⟨t', rfl⟩ := ry; exact PySem.W.eq_bytes (fin_bl I q dec_byt)
    | _ => exact absurd (show false = true from hs) Bool.false_ne_true
  | _ => cases y <;> exact absurd (show false = true from hs) Bool.false_ne_true
theorem op_ne : OpR X (compareOp .NotEq) rNe := by
  intro pins s σ H x y v u Q I rx ry h
  obtain ⟨hs, q⟩ := h
  cases x with
  | non =>
    cases rx
    cases y with
    | non => cases ry; exact PySem.EqNone.ne_none_none (fin_bl I q (by simp))
    | bl j => cases ry; exact PySem.EqNone.ne_none_bool (fin_bl I q (by simp))
    | int j => obtain ⟨t', rfl⟩ := ry; exact PySem.EqNone.ne_none_int (fin_bl I q (by simp))
    | str j => obtain ⟨t', rfl⟩ := ry; exact PySem.EqNone.ne_none_str (fin_bl I q (by simp))
    | _ => exact absurd (show false = true from hs) Bool.false_ne_true
  | bl i =>
    cases rx
    cases y with
    | non => cases ry; exact PySem.EqNone.ne_bool_none (fin_bl I q (by simp))
    | bl j => cases ry; exact ne_bool (fin_bl I q (congrArg not dec_bl))
    | str j => obtain ⟨t', rfl⟩ := ry; exact PySem.EqMixed.ne_bool_str (fin_bl I q (by simp))
    | _ => exact absurd (show false = true from hs) Bool.false_ne_true
  | int i =>
    obtain ⟨t, rfl⟩ := rx
    cases y with
    | non => cases ry; exact PySem.EqNone.ne_int_none (fin_bl I q (by simp))
    | int j => obtain ⟨t', rfl⟩ := ry; exact ne_int (fin_bl I q (congrArg not dec_int))
    | str j => obtain ⟨t', rfl⟩ := ry; exact PySem.EqMixed.ne_int_str (fin_bl I q (by simp))
    | _ => exact absurd (show false = true from hs) Bool.false_ne_true
  | str i =>
    obtain ⟨t, rfl⟩ := rx
    cases y with
    | non => cases ry; exact PySem.EqNone.ne_str_none (fin_bl I q (by simp))
    | bl j => cases ry; exact PySem.EqMixed.ne_str_bool (fin_bl I q (by simp))
    | int j => obtain ⟨t', rfl⟩ := ry; exact PySem.EqMixed.ne_str_int (fin_bl I q (by simp))
    | str j => obtain ⟨t', rfl⟩ := ry; exact ne_str (fin_bl I q (congrArg not dec_str))
    | _ => exact absurd (show false = true from hs) Bool.false_ne_true
  | byt i =>
    obtain ⟨t, rfl⟩ := rx
    cases y with
    | byt j => obtain ⟨t', rfl⟩ := ry; exact PySem.W.ne_bytes (fin_bl I q (congrArg not dec_byt))
    | _ => exact absurd (show false = true from hs) Bool.false_ne_true
  | _ => cases y <;> exact absurd (show false = true from hs) Bool.false_ne_true
theorem op_lt : OpR X (compareOp .Lt) (rI0 fun i j => .bl (decide (i < j))) := opB0 fun _ _ _ _ _ _ _ q => lt_int q
theorem op_le : OpR X (compareOp .LtE) (rI0 fun i j => .bl (decide (i ≤ j))) := opB0 fun _ _ _ _ _ _ _ q => le_int q
theorem op_gt : OpR X (compareOp .Gt) (rI0 fun i j => .bl (decide (j < i))) := opB0 fun _ _ _ _ _ _ _ q => gt_int q
theorem op_ge : OpR X (compareOp .GtE) (rI0 fun i j => .bl (decide (j ≤ i))) := opB0 fun _ _ _ _ _ _ _ q => ge_int q
def isObj : HO → Bool
  | .lst _ => true
  | .ins _ _ _ => true
  | _ => false
theorem nomark (b : Expr) {op : CmpOp} (h : op ≠ .In := by decide) (h2 : op ≠ .NotIn := by decide) : behindInMarks op b = false := by
  have e1 : (op == CmpOp.In) = false := by cases op <;> first | rfl | exact absurd rfl h
  have e2 : (op == CmpOp.NotIn) = false := by cases op <;> first | rfl | exact absurd rfl h2
  cases b <;> simp [behindInMarks, e1, e2]
theorem pe_cmpR {op : CmpOp} {r : R2} (ho : OpR X (compareOp op) r) (ha : PE X a ta) (hb : PE X b tb) (hm : behindInMarks op b = false) : PE X (.Compare a [op] [b] pos) (tOp r ta tb) := by
  intro pins s σ H Q I h
  exact wpAny_Compare1 (binT ha hb I h fun v u s2 x y H2 I2 rx ry q => ho pins s2 σ H2 x y v u Q I2 rx ry q) hm
def tTest (t : TE) : TT := fun σ H Q => t σ H fun x H' => ∃ k, x = .bl k ∧ Q k H'
theorem pt_cmpR {op : CmpOp} {r : R2} (ho : OpR X (compareOp op) r) (ha : PE X a ta) (hb : PE X b tb) (hm : behindInMarks op b = false) : PT X (.Compare a [op] [b] pos) (tTest (tOp r ta tb)) := by
  intro pins s σ H Q I h
  refine wpAny_isTrue_Compare1 (thn (ha pins s σ H _ I h) fun v s1 ⟨x, H1, I1, r1, q1⟩ => thn (hb pins s1 σ H1 _ I1 q1) fun u s2 ⟨y, H2, I2, r2, q2⟩ =>
    thn (ho pins s2 σ H2 x y v u _ I2 r1 r2 q2) fun c s3 ⟨z, H3, I3, r3, k, e, q3⟩ => ?_) hm
  subst e
  cases r3
  exact wpAny_truthy_bool ⟨H3, I3, q3⟩
def tChain (r r' : R2) (ta tb tc : TE) : TE := fun σ H Q => ta σ H fun x H1 => tb σ H1 fun y H2 => r x y H2 fun z H3 => ∃ k, z = .bl k ∧
  (if k = true then tc σ H3 fun w' H4 => r' y w' H4 Q else Q (.bl false) H3)
theorem pt_chain {op op' : CmpOp} {r r' : R2} (ho : OpR X (compareOp op) r) (ho' : OpR X (compareOp op') r') (ha : PE X a ta) (hb : PE X b tb) (hc : PE X c tc)
    (hm : lastMarks [op, op'] [b, c] = false := by with_unfolding_all rfl) : PT X (.Compare a [op, op'] [b, c] pos) (tTest (tChain r r' ta tb tc)) := by
  intro pins s σ H Q I h
  refine isTrue_chain (thn (ha pins s σ H _ I h) fun v s1 ⟨x, H1, I1, r1, q1⟩ => test_link (thn (hb pins s1 σ H1 _ I1 q1) fun u s2 ⟨y, H2, I2, r2, q2⟩ =>
    thn (ho pins s2 σ H2 x y v u _ I2 r1 r2 q2) fun d s3 ⟨z, H3, I3, r3, k, e, q3⟩ => ?_)) hm
  subst e
  cases r3
  refine wpAny_truthy_bool ?_
  cases k with
  | false =>
    obtain ⟨k', e', q'⟩ := q3
    cases e'
    exact ite_ff ⟨H3, I3, q'⟩
  | true =>
    refine ite_tt (test_last (thn (hc pins s3 σ H3 _ I3 q3) fun w' s4 ⟨z', H4, I4, r4, q4⟩ => thn (ho' pins s4 σ H4 y z' u w' _ I4 r2 r4 q4) fun d' s5 ⟨z2, H5, I5, r5, k2, e2, q5⟩ => ?_))
    subst e2
    cases r5
    exact wpAny_truthy_bool ⟨H5, I5, q5⟩
def TruV (K : PySem.W.Frag) (x : V) (H : Hp) (k : Bool) : Prop :=
  match x with
  | .non => k = false
  | .bl b => k = b
  | .int i => k = (i != 0)
  | .str y => y.length ≤ sizeLine ∧ k = ((y.length : Int) != 0)
  | .byt y => y.size ≤ sizeLine ∧ k = ((y.size : Int) != 0)
  | .ref p => (∃ xs, SqL K H p xs ∧ k = !xs.isEmpty) ∨ (∃ xs, SqT K H p xs ∧ k = !xs.isEmpty) ∨ ∃ kvs, H p = some (.dK kvs) ∧ k = !kvs.isEmpty
  | _ => False
theorem line63 : (sizeLine : Nat) < 2 ^ 63 := by rw [sizeLine_eq]; decide
def PlainIxT (b : Expr) : Prop := ∀ o i, subscripted b false o i = operate [o, i] (getItem o i)
theorem vals1 {x : V} {us : List Value} (r : Vals [x] us) : ∃ u, us = [u] ∧ RelV x u := by
  cases r with
  | cons r1 r2 => cases r2; exact ⟨_, rfl, r1⟩
theorem vals2 {x y : V} {us : List Value} (r : Vals [x, y] us) : ∃ u w', us = [u, w'] ∧ RelV x u ∧ RelV y w' := by
  cases r with
  | cons r1 r2 =>
    cases r2 with
    | cons r3 r4 => cases r4; exact ⟨_, _, rfl, r1, r3⟩
theorem call_abs : CallR X (.builtin "abs") (fun xs H Q => ∃ i, xs = [.int i] ∧ Q (.int (if i < 0 then -i else i)) H) := by
  intro pins s σ H xs us Q I r h
  obtain ⟨i, rfl, q⟩ := h
  obtain ⟨u, rfl, t, rfl⟩ := vals1 r
  exact call_abs_int fun u tk => ⟨.int (if i < 0 then -i else i), H, I.tok _, ⟨_, rfl⟩, q⟩
theorem call_max2 (hc : X.calm = true) : CallR X (.builtin "max") (fun xs H Q => ∃ i j, xs = [.int i, .int j] ∧ Q (.int (if j > i then j else i)) H) := by
  intro pins s σ H xs us Q I r h
  obtain ⟨i, j, rfl, q⟩ := h
  obtain ⟨u, w', rfl, ⟨t, rfl⟩, ⟨t', rfl⟩⟩ := vals2 r
  refine max_two_ints (I.ok.hd hc) fun h' tk k => ⟨_, H, I.kept k, ?_, q⟩
  by_cases hj : j > i
  · rw [if_pos hj, if_pos hj]; exact ⟨_, rfl⟩
  · rw [if_neg hj, if_neg hj]; exact ⟨_, rfl⟩
theorem call_min2 (hc : X.calm = true) : CallR X (.builtin "min") (fun xs H Q => ∃ i j, xs = [.int i, .int j] ∧ Q (.int (if j < i then j else i)) H) := by
  intro pins s σ H xs us Q I r h
  obtain ⟨i, j, rfl, q⟩ := h
  obtain ⟨u, w', rfl, ⟨t, rfl⟩, ⟨t', rfl⟩⟩ := vals2 r
  refine min_two_ints (I.ok.hd hc) fun h' tk k => ⟨_, H, I.kept k, ?_, q⟩
  by_cases hj : j < i
  · rw [if_pos hj, if_pos hj]; exact ⟨_, rfl⟩
  · rw [if_neg hj, if_neg hj]; exact ⟨_, rfl⟩
theorem call_int1 : CallR X (.type "int") (fun xs H Q => (∃ i, xs = [.int i] ∧ Q (.int i) H) ∨ ∃ k, xs = [.bl k] ∧ Q (.int (if k then 1 else 0)) H) := by
  intro pins s σ H xs us Q I r h
  rcases h with ⟨i, rfl, q⟩ | ⟨k, rfl, q⟩
  · obtain ⟨u, rfl, t, rfl⟩ := vals1 r
    exact call_int_int ⟨.int i, H, I, ⟨_, rfl⟩, q⟩
  · obtain ⟨u, rfl, r1⟩ := vals1 r
    cases r1
    exact call_int_bool ⟨.int (if k then 1 else 0), H, I.tok _, ⟨_, rfl⟩, q⟩
def LenV (K : PySem.W.Frag) (x : V) (H : Hp) (n : Nat) : Prop :=
  match x with
  | .str y => y.length ≤ sizeLine ∧ n = y.length
  | .byt y => y.size ≤ sizeLine ∧ n = y.size
  | .ref p => (∃ xs, SqL K H p xs ∧ n = xs.length) ∨ ∃ xs, SqT K H p xs ∧ n = xs.length
  | _ => False
end
end L2
namespace L2
open PySem PySem.Spec PyProof.Rows
structure ObjM (h : Heap) (x dx C : Addr) (mA : Str → Option Value) : Prop where
  obj : h.get? x = some (PySem.W.instObj C dx)
  ns : h.Ns1 dx mA
  ne : dx ≠ x
theorem lookIn_ns {h : Heap} {dx : Addr} {mA : Str → Option Value} (n : h.Ns1 dx mA) : ∃ od, h.get? dx = some od ∧ ∀ name, PySem.W.lookIn name od = some (mA name) := by
  obtain ⟨o, es, ep, ho, hd, hk, _, hm⟩ := n
  refine ⟨o, ho, fun name => ?_⟩
  have e := hm name
  unfold nsFind findBy at e
  rw [← Array.find?_toList] at e
  unfold PySem.W.lookIn
  rw [hd]
  dsimp only
  split
  · rename_i y q
    rw [q] at e
    exact congrArg some e
  · rename_i q
    rw [q] at e
    have a : es.toList.any (·.refKey) = false := by
      rw [List.any_eq_false]
      intro y hy
      obtain ⟨z, t, hkey⟩ := hk y (Array.mem_toList_iff.mp hy)
      simp [DictEntry.refKey, hkey]
    have a' : ¬ es.toList.any (·.refKey) = true := by rw [a]; exact Bool.false_ne_true
    rw [if_neg a']
    exact congrArg some e
theorem ObjM.look {h : Heap} {x dx C : Addr} {mA : Str → Option Value} (I : ObjM h x dx C mA) : ∃ od, PySem.W.InstAt h x (PySem.W.instObj C dx) C (some od) ∧ ∀ name, PySem.W.lookIn name od = some (mA name) :=
  let ⟨od, ho, hl⟩ := lookIn_ns I.ns
  ⟨od, ⟨I.obj, rfl, rfl, ho⟩, hl⟩
section
variable {prog : Program} {w : World} {A : Around} {E : Value → Shared → Prop} {s : Shared} {K : PySem.W.Frag} {x dx C f : Addr} {mA : Str → Option Value} {name : Str} {v : Value}
end
def putF (f : Str) (v : V) : List (Str × V) → List (Str × V)
  | [] => [(f, v)]
  | (g, x) :: r => if g = f then (g, v) :: r else (g, x) :: putF f v r
section
variable {P : Program} {w : World} {H H' : Hp} {h h' : Heap} {a C dx : Addr} {fs fs' : List (Str × V)}
theorem ins_get (hok : HOk P w H h) (e : H a = some (.ins C dx fs)) : ∃ mA, ObjM h a dx C mA ∧ (∀ f, RelO (fs.lookup f) (mA f)) ∧ PySem.Within mA (fs.map (·.1)) ∧ fs.length ≤ 1000 ∧ H dx = some (.own a) := by
  obtain ⟨d, z, ne, ob, mA, n, r, q⟩ := (show ObjOk P w H h a (.ins C dx fs) from hok a _ e)
  exact ⟨mA, ⟨ob, n, ne⟩, r, q, z, d⟩
end
structure Cls (K : PySem.W.Frag) (C : Addr) : Prop where
  pg : PySem.W.plainGet K C Str.empty = true
  hd : PySem.W.hasDictIn K C = true
  po : PySem.W.plainOver K C = true
  sa : PySem.W.findIn K (.ref C) "__setattr__" = some (some (.builtin "object.__setattr__"))
theorem Cls.get {K : PySem.W.Frag} {C : Addr} (c : Cls K C) (f : Str) : PySem.W.plainGet K C f = true := c.pg
def NoAttr (K : PySem.W.Frag) (C : Addr) (f : Str) : Prop := PySem.W.findIn K (.ref C) f = some none
structure Con (K : PySem.W.Frag) (C : Addr) (f : Str) (v : V) (u : Value) : Prop where
  at_ : PySem.W.findIn K (.ref C) f = some (some u)
  rel : RelV v u
  get : PySem.W.specialIn K u "__get__" = some none
  cp : PySem.W.copiedNames.contains f = false
structure Meth (K : PySem.W.Frag) (C : Addr) (m : Str) (f : Addr) : Prop where
  at_ : PySem.W.findIn K (.ref C) m = some (some (.ref f))
  fn : PySem.W.isFn K (.ref f) = true
  kp : PySem.W.keepIn K (.ref f) = true
section
variable {X : Cx} {pins : List (Addr × Obj)} {σ : St} {H : Hp} {s : Shared} {a C dx : Addr} {fs : List (Str × V)} {f : Str} {v : V} {A : Around} {E : Value → Shared → Prop}
end
def tFld (K : PySem.W.Frag) (ta : TE) (f : Str) : TE := fun σ H Q => ta σ H fun x H1 => ∃ a C dx fs v, x = .ref a ∧ H1 a = some (.ins C dx fs) ∧ Cls K C ∧ NoAttr K C f ∧ fs.lookup f = some v ∧ Q v H1
def tCon (K : PySem.W.Frag) (ta : TE) (f : Str) : TE := fun σ H Q => ta σ H fun x H1 => ∃ a C dx fs v u, x = .ref a ∧ H1 a = some (.ins C dx fs) ∧ Cls K C ∧ Con K C f v u ∧ fs.lookup f = none ∧ Q v H1
def sFld (K : PySem.W.Frag) (ta tv : TE) (f : Str) : TS := fun D σ H => tv σ H fun y H1 => ta σ H1 fun x H2 => ∃ a C dx fs, x = .ref a ∧ H2 a = some (.ins C dx fs) ∧ Cls K C ∧ NoAttr K C f ∧ fs.length < 1000 ∧
  D.nx σ (upd H2 a (.ins C dx (putF f y fs)))
def InOp (X : Cx) (op : Operator) (rd : V → V → Hp → VK → Prop) : Prop :=
  ∀ (pins : List (Addr × Obj)) (s : Shared) (σ : St) (H : Hp) (x y : V) (u v : Value) (Q : VK), Inv X pins σ H s → RelV x u → RelV y v → rd x y H Q → wpAny (model X.prog X.w) X.A (inplaceOp op u v) (EP X pins σ Q) X.xe s
def sFldAug (K : PySem.W.Frag) (ta tv : TE) (rd : V → V → Hp → VK → Prop) (f : Str) : TS := fun D σ H => ta σ H fun x H1 => ∃ a C dx fs v, x = .ref a ∧ H1 a = some (.ins C dx fs) ∧ Cls K C ∧ NoAttr K C f ∧ fs.lookup f = some v ∧
  tv σ H1 fun y H2 => rd v y H2 fun z H3 => ∃ dx' fs', H3 a = some (.ins C dx' fs') ∧ fs'.length < 1000 ∧ D.nx σ (upd H3 a (.ins C dx' (putF f z fs')))
section
variable {X : Cx} {o e value : Expr} {f : Str} {pos pos' tpos : Pos} {ta tv : TE}
def rAdd : V → V → Hp → VK → Prop := fun x y H Q => ∃ i j, x = .int i ∧ y = .int j ∧ Q (.int (i + j)) H
def rSub : V → V → Hp → VK → Prop := fun x y H Q => ∃ i j, x = .int i ∧ y = .int j ∧ Q (.int (i - j)) H
end
section
variable {X : Cx} {pins : List (Addr × Obj)} {σ : St} {H : Hp} {s : Shared} {A : Around} {E : Value → Shared → Prop} {Q : Value → Shared → Prop} {c : Value} {b : Bool}
inductive TyOf (K : PySem.W.Frag) (H : Hp) : V → Value → Prop where
  | non : TyOf K H .non (.type "NoneType")
  | bl (x : Bool) : TyOf K H (.bl x) (.type "bool")
  | int (i : Int) : TyOf K H (.int i) (.type "int")
  | str (x : Str) : TyOf K H (.str x) (.type "str")
  | flt (x : UInt64) : TyOf K H (.flt x) (.type "float")
  | lst {a : Addr} {xs : List V} (e : H a = some (.lst xs)) : TyOf K H (.ref a) (.type "list")
  | frz {a : Addr} {o : Obj} {xs : List V} (e : H a = some (.frz o (.lst xs))) : TyOf K H (.ref a) (.type "list")
  | tup {a : Addr} {xs : List V} (e : H a = some (.tup xs)) : TyOf K H (.ref a) (.type "tuple")
  | dK {a : Addr} {kvs : List (Key × V)} (e : H a = some (.dK kvs)) : TyOf K H (.ref a) (.type "dict")
  | dT {a : Addr} {kvs : List (List Key × V)} (e : H a = some (.dT kvs)) : TyOf K H (.ref a) (.type "dict")
  | ins {a C dx : Addr} {fs : List (Str × V)} (e : H a = some (.ins C dx fs)) (cl : Cls K C) (ha : PySem.W.findIn K (.ref C) "__class__" = some (some (.builtin "object.__class__")))
      (hn : PySem.W.specialIn K (.builtin "object.__class__") "__get__" = some (some (.builtin "getset_descriptor.__get__"))) (htk : PySem.W.takesIn K (.builtin "object.__class__") = some true)
      (hm : PySem.W.mroIn K C (.type "object") = some true) : TyOf K H (.ref a) (.ref C)
theorem isinst_ok {x : V} {u t : Value} (I : Inv X pins σ H s) (rx : RelV x u) (ty : TyOf X.K H x t) (e : PySem.W.kitOne X.K t c = some b) (h : ∀ tk, Q (.bool b) { s with toks := tk }) :
    wpAny (model X.prog X.w) A (call (.builtin "isinstance") [u, c]) Q E s := by
  cases ty with
  | non => cases (show u = Value.none from rx); exact PySem.W.kia_one PySem.W.kitx_none I.kIn True.intro e (fun z => nomatch z) h
  | bl y => cases (show u = Value.bool y from rx); exact PySem.W.kia_one PySem.W.kitx_bool I.kIn True.intro e (fun z => nomatch z) h
  | int i => obtain ⟨t, q⟩ := (show ∃ t, u = Value.int i t from rx); cases q; exact PySem.W.kia_one PySem.W.kitx_int I.kIn True.intro e (fun z => nomatch z) h
  | str y => obtain ⟨t, q⟩ := (show ∃ t, u = Value.str y t from rx); cases q; exact PySem.W.kia_one PySem.W.kitx_str I.kIn True.intro e (fun z => nomatch z) h
  | flt y => obtain ⟨t, q⟩ := (show ∃ t, u = Value.float y t from rx); cases q; exact PySem.W.kia_one PySem.W.kitx_float I.kIn True.intro e (fun z => nomatch z) h
  | @lst a xs ea =>
    cases (show u = Value.ref a from rx)
    obtain ⟨_, _, n, _, h1⟩ := (show ObjOk X.prog X.w H s.heap a (.lst xs) from I.hok a _ ea)
    exact PySem.W.kia_one PySem.W.kitx_list I.kIn ⟨_, h1, rfl⟩ e (fun z => nomatch z) h
  | @frz a ob xs ea =>
    cases (show u = Value.ref a from rx)
    obtain ⟨_, _, _, n, _, h1⟩ := (show ObjOk X.prog X.w H s.heap a (.frz ob (.lst xs)) from I.hok a _ ea)
    exact PySem.W.kia_one PySem.W.kitx_list I.kIn ⟨_, h1, rfl⟩ e (fun z => nomatch z) h
  | @tup a xs ea =>
    cases (show u = Value.ref a from rx)
    obtain ⟨_, _, _, p⟩ := (show ObjOk X.prog X.w H s.heap a (.tup xs) from I.hok a _ ea)
    obtain ⟨o, h1, h2, _⟩ := p
    exact PySem.W.kia_one PySem.W.kitx_tuple I.kIn ⟨o, h1, h2⟩ e (fun z => nomatch z) h
  | @dK a kvs ea =>
    cases (show u = Value.ref a from rx)
    obtain ⟨_, _, vs, _, p⟩ := (show ObjOk X.prog X.w H s.heap a (.dK kvs) from I.hok a _ ea)
    obtain ⟨o, es, ep, h1, h2, _⟩ := p
    exact PySem.W.kia_one PySem.W.kitx_dict I.kIn ⟨o, h1, h2.1⟩ e (fun z => nomatch z) h
  | @dT a kvs ea =>
    cases (show u = Value.ref a from rx)
    obtain ⟨_, _, xs, _, o, es, ep, h1, h2, _⟩ := (show ObjOk X.prog X.w H s.heap a (.dT kvs) from I.hok a _ ea)
    exact PySem.W.kia_one PySem.W.kitx_dict I.kIn ⟨o, h1, h2.1⟩ e (fun z => nomatch z) h
  | @ins a C dx fs ea cl ha hn htk hm =>
    cases (show u = Value.ref a from rx)
    obtain ⟨mA, O, _⟩ := ins_get I.hok ea
    obtain ⟨od, J, _⟩ := O.look
    exact PySem.W.kia_one (PySem.W.kitx_own (cl.get _) cl.hd ha hn htk hm) I.kIn J e (fun z => nomatch z) h
end
end L2
namespace L2
open PySem PySem.Spec PyProof.Rows
structure Room (k : Nat) (A : Around) : Prop where
  hd : A.handled = none
  dp : A.depth + 3 * k + 5 < recursionLimit
  un : A.units + 16 * k + 200 < cLine
  gd : A.guards = some []
theorem Room.mono {j k : Nat} {A : Around} (r : Room k A) (h : j ≤ k) : Room j A := ⟨r.hd, by have := r.dp; omega, by have := r.un; omega, r.gd⟩
theorem Room.deeper {k : Nat} {A : Around} (r : Room (k + 1) A) (env : Env) : Room k (A.deeper env) :=
  ⟨r.hd, by have := r.dp; show A.depth + 1 + 3 * k + 5 < _; omega, by have := r.un; show A.units + 3 + 16 * k + 200 < _; omega, r.gd⟩
theorem Room.depth {k : Nat} {A : Around} (r : Room k A) : A.depth < recursionLimit := by have := r.dp; omega
theorem Room.units {k : Nat} {A : Around} (r : Room k A) : A.units + 64 < cLine := by have := r.un; omega
def tNil : TA := fun _ H Q => Q [] H
def tCons (ta : TE) (tr : TA) : TA := fun σ H Q => ta σ H fun x H1 => tr σ H1 fun xs H2 => Q (x :: xs) H2
section
variable {X : Cx} {e : Expr} {es : List Expr} {te : TE} {t : TA} {pos : Pos}
theorem pa_nil : PA X [] tNil := fun _ _ _ _ H Q I h => Calls.spliced_nil ⟨[], H, I, .nil, h⟩
theorem pa_cons (ha : PE X e te) (hr : PA X es t) (hs : starEach (e :: es) X.env = (false, eval e X.env) :: starEach es X.env := by rfl) : PA X (e :: es) (tCons te t) := by
  intro pos pins s σ H Q I h
  rw [hs]
  show wpAny _ _ (spliced ((false, eval e X.env) :: backTo pos (starEach es X.env))) _ _ s
  refine Calls.spliced_cons (thn (ha pins s σ H _ I h) fun u s1 ⟨x, H1, I1, r1, q1⟩ => ?_)
  exact thn (hr pos pins s1 σ H1 _ I1 q1) fun us s2 ⟨xs, H2, I2, r2, q2⟩ => ⟨x :: xs, H2, I2, .cons r1 r2, q2⟩
def tTup (t : TA) : TE := fun σ H Q => t σ H fun xs H1 => xs.length ≤ sizeLine ∧ ∀ p, H1 p = none → Q (.ref p) (upd H1 p (.tup xs))
def tLst (t : TA) : TE := fun σ H Q => t σ H fun xs H1 => xs.length ≤ sizeLine ∧ ∀ p, H1 p = none → Q (.ref p) (upd H1 p (.lst xs))
theorem pe_tup {x1} (h : PA X es t) : PE X (.Tuple es x1 pos) (tTup t) := by
  intro pins s σ H Q I hq
  refine wpAny_Tuple_spliced (thn (h pos pins s σ H _ I hq) fun us s1 ⟨xs, H1, I1, r, z, q⟩ => ⟨by rw [← r.length]; exact z, ?_⟩)
  have hf : H1 s1.heap.objs.size = none := I1.hok.fresh (Nat.le_refl _)
  refine ⟨.ref s1.heap.objs.size, upd H1 s1.heap.objs.size (.tup xs), I1.laid (t' := s1.toks) (fun b u e => Heap.get?_push_of_some _ e) (Nat.le_refl _) ?_, rfl, q _ hf⟩
  exact ⟨z, us, r, ⟨_, Heap.get?_push_size _ rfl, rfl, _, rfl⟩⟩
theorem pe_lst (h : PA X es t) : PE X (.List es pos) (tLst t) := by
  intro pins s σ H Q I hq
  refine wpAny_List_spliced (thn (h pos pins s σ H _ I hq) fun us s1 ⟨xs, H1, I1, r, z, q⟩ => ⟨by rw [← r.length]; exact z, ?_⟩)
  have hf : H1 s1.heap.objs.size = none := I1.hok.fresh (Nat.le_refl _)
  refine ⟨.ref s1.heap.objs.size, upd H1 s1.heap.objs.size (.lst xs), I1.laid (t' := s1.toks) (fun b u e => Heap.get?_push_of_some _ e) (Nat.le_refl _) ?_, rfl, q _ hf⟩
  exact ⟨z, us, 0, r, Heap.get?_push_size _ rfl⟩
end
abbrev Sp := List V → Hp → VK → XK → Prop
abbrev CXT := List Env → Hp → Shared → XK → Value → Shared → Prop
structure Env0 (P : Program) (w : World) (K : PySem.W.Frag) (mg : Str → Option Value) (base : Heap) (A : Around) (outer : List Env) (s : Shared) (H : Hp) : Prop where
  frames : A.frames = some outer
  mod : Mod K mg base
  bs : ∀ b o, base.get? b = some o → s.heap.get? b = some o ∧ H b = none
  bsz : base.objs.size ≤ s.heap.objs.size
  funs : s.heap.FunFrames base outer
  frf : ∀ b ∈ frs outer, H b = none
  hok : HOk P w H s.heap
  bare : AllBare s.gens
def CE (outer : List Env) (P : Program) (w : World) (H : Hp) (s : Shared) (Q : VK) (u : Value) (s' : Shared) : Prop :=
  ∃ v H', s'.os = s.os ∧ AllBare s'.gens ∧ Un (frs outer) [] H H' s.heap s'.heap ∧ HOk P w H' s'.heap ∧ RelV v u ∧ Q v H'
def CR (CX : CXT) (outer : List Env) (P : Program) (w : World) (H : Hp) (s : Shared) (Q : VK) (E : XK) (r : Result) (s' : Shared) : Prop :=
  match r with
  | .ok (.ret u) => CE outer P w H s Q u s'
  | .ok _ => False
  | .error e => CX outer H s E e s'
structure FnOk (P : Program) (w : World) (K : PySem.W.Frag) (mg : Str → Option Value) (base : Heap) (CX : CXT) (k : Nat) (f : Addr) (fd : FuncData) (ps : List Str) (sp : Sp) : Prop where
  len : ∀ vs H Q E, sp vs H Q E → vs.length = ps.length
  run : ∀ (A : Around) (outer : List Env) (s : Shared) (H : Hp) (args : Args) (us : List Value) (vs : List V) (Q : VK) (E : XK), Room k A → Env0 P w K mg base A outer s H → BindsTo s fd args (ps.zip us) → Vals vs us → sp vs H Q E →
    codeAny (model P w) A (.call (.ref f) args) (CR CX outer P w H s Q E) s
section
variable {X : Cx} {pins : List (Addr × Obj)} {σ : St} {H : Hp} {s s' : Shared}
theorem Inv.env0 (I : Inv X pins σ H s) : Env0 X.prog X.w X.K X.mg X.base X.A X.stack s H :=
  ⟨I.ok.frames, I.ok.mod, I.bs, Nat.le_trans I.ok.bsz I.sz, I.stack, I.stkFree, I.hok, I.bare⟩
theorem Inv.after {Q : VK} {u : Value} (I : Inv X pins σ H s) (h : CE X.stack X.prog X.w H s Q u s') : EP X pins σ Q u s' := by
  obtain ⟨v, H', os, bare, un, hok, r, q⟩ := h
  obtain ⟨hh, g, d, t, os'⟩ := s'
  obtain rfl : os' = s.os := os
  exact ⟨v, H', I.call (h' := hh) (g' := g) (d' := d) (t' := t) (ch := []) un hok bare (fun b z => absurd z (by simp)), r, q⟩
end
def tCall (sp : Sp) (dvs : List V) (E : XK) (t : TA) : TE := fun σ H Q => t σ H fun vs H1 => sp (vs ++ dvs) H1 Q E
def tMeth (C : Addr) (m : Str) (sp : Sp) (dvs : List V) (E : XK) (ta : TE) (t : TA) : TE := fun σ H Q => ta σ H fun x H1 => ∃ a dx fs, x = .ref a ∧ H1 a = some (.ins C dx fs) ∧ fs.lookup m = none ∧
  t σ H1 fun vs H2 => sp (x :: (vs ++ dvs)) H2 Q E
def tMake (C : Addr) (sp : Sp) (dvs : List V) (E : XK) (t : TA) : TE := fun σ H Q => t σ H fun vs H1 => ∀ x dx, H1 x = none → H1 dx = none → dx ≠ x →
  sp (.ref x :: (vs ++ dvs)) (upd (upd H1 dx (.own x)) x (.ins C dx [])) (fun v H2 => v = .non ∧ Q (.ref x) H2) E
def Binds (K : PySem.W.Frag) (fd : FuncData) (ps : List Str) (ds : List Value) : Prop :=
  ∀ (s : Shared) (us : List Value), K.In s.heap → (us ++ ds).length = ps.length → BindsTo s fd ⟨us, []⟩ (ps.zip (us ++ ds))
theorem Binds.all {K : PySem.W.Frag} {fd : FuncData} {ps : List Str} (h : ∀ us : List Value, us.length = ps.length → bindArgs fd ⟨us, []⟩ = pure (ps.zip us)) : Binds K fd ps [] := fun s us _ hl => by
  rw [List.append_nil] at hl ⊢
  exact .of_eq (h us hl)
def Passes (CX : CXT) (X : Cx) (E : XK) : Prop := ∀ (pins : List (Addr × Obj)) (σ : St) (H : Hp) (s : Shared) (e : Value) (s' : Shared), Inv X pins σ H s → CX X.stack H s E e s' → X.xe e s'
section
variable {X : Cx} {CX : CXT} {k : Nat} {f C : Addr} {fd : FuncData} {ps : List Str} {sp : Sp} {dvs : List V} {ds : List Value} {E : XK} {x m : Str} {p pos apos : Pos} {e o : Expr} {es : List Expr} {ta : TE} {t : TA}
theorem run_fn {pins : List (Addr × Obj)} {σ : St} {H : Hp} {s : Shared} {Q : VK} {us : List Value} {vs : List V} (F : FnOk X.prog X.w X.K X.mg X.base CX k f fd ps sp) (hr : Room k X.A) (hb : Binds X.K fd ps ds) (hd : Vals dvs ds) (hx : Passes CX X E)
    (I : Inv X pins σ H s) (r : Vals vs us) (h : sp (vs ++ dvs) H Q E) : wpAny (model X.prog X.w) X.A (call (.ref f) us) (EP X pins σ Q) X.xe s := by
  have r2 : Vals (vs ++ dvs) (us ++ ds) := r.append hd
  have hl : (us ++ ds).length = ps.length := by rw [← r2.length]; exact F.len _ _ _ _ h
  refine wpAny_call (codeAny_mono (F.run X.A X.stack s H ⟨us, []⟩ (us ++ ds) (vs ++ dvs) Q E hr I.env0 (hb s us I.kIn hl) r2 h) fun r s' hq => ?_)
  cases r with
  | error e => exact hx pins σ H s e s' I hq
  | ok fl =>
    cases fl with
    | ret u => exact I.after hq
    | next => exact False.elim hq
    | brk => exact False.elim hq
    | cont => exact False.elim hq
theorem pe_call (F : FnOk X.prog X.w X.K X.mg X.base CX k f fd ps sp) (hr : Room k X.A) (hg : Gl X x) (hm : X.mg x = some (.ref f)) (hk : PySem.W.keepIn X.K (.ref f) = true) (hb : Binds X.K fd ps ds) (hd : Vals dvs ds) (hx : Passes CX X E)
    (ha : PA X (e :: es) t) (hdb : (x == ("__debug__" : Str)) = false := by decide) (he : starEach (e :: es) X.env = (false, eval e X.env) :: starEach es X.env := by rfl) (hpl : (backTo pos (starEach es X.env)).any (·.1) = false := by rfl) :
    PE X (.Call (.Name x p) (e :: es) [] pos) (tCall sp dvs E t) := by
  intro pins s σ H Q I h
  refine wpAny_Call_Name_kw (ld_glob I hg hm ?_ hdb)
  refine PySem.W.callWith_K (h₀ := X.base) I.ok.mod.kin hk (thn (ha pos pins s σ H _ I h) fun us s1 ⟨vs, H1, I1, r, q⟩ => ⟨I1.kIn, ?_⟩) he hpl
  exact run_fn F hr hb hd hx I1 r q
structure Mk (K : PySem.W.Frag) (C f : Addr) : Prop where
  makes : PySem.W.makesIn K C = true
  init : PySem.W.findIn K (.ref C) "__init__" = some (some (.ref f))
  fn : PySem.W.isFn K (.ref f) = true
  kp : PySem.W.keepIn K (.ref C) = true
end
def PK (X : Cx) (kws : List Keyword) (t : TA) : Prop :=
  ∀ (pos : Pos) (pins : List (Addr × Obj)) (s : Shared) (σ : St) (H : Hp) (Q : List V → Hp → Prop), Inv X pins σ H s → t σ H Q → wpAny (model X.prog X.w) X.A (evalAll ((backToKw pos (keywordEach kws X.env)).map (·.2))) (AP X pins σ Q) X.xe s
section
variable {X : Cx} {CX : CXT} {k : Nat} {f C : Addr} {fd : FuncData} {ps ks : List Str} {sp : Sp} {E : XK} {x m : Str} {p pos apos kpos : Pos} {e o : Expr} {es : List Expr} {kws : List Keyword} {te ta : TE} {t tk : TA} {nm : Option Str}
structure KBinds (K : PySem.W.Frag) (fd : FuncData) (ps ks : List Str) (g : List Value → List Value → List Value) (gV : List V → List V → List V) : Prop where
  to : ∀ (s : Shared) (us ws : List Value), K.In s.heap → (g us ws).length = ps.length → BindsTo s fd ⟨us, ks.zip ws⟩ (ps.zip (g us ws))
  rel : ∀ {vs : List V} {us : List Value} {zs : List V} {ws : List Value}, Vals vs us → Vals zs ws → Vals (gV vs zs) (g us ws)
def tCallK (sp : Sp) (gV : List V → List V → List V) (E : XK) (t tk : TA) : TE := fun σ H Q => t σ H fun vs H1 => tk σ H1 fun zs H2 => sp (gV vs zs) H2 Q E
variable {g : List Value → List Value → List Value} {gV : List V → List V → List V}
end
structure FnScope (N P : List Str) (sc : Scope) : Prop where
  kind : sc.kind = .function
  co : sc.isCoroutine = false
  gen : sc.isGenerator = false
  nd : N.Nodup
  pre : N.take P.length = P
  par : ∀ x ∈ P, sc.names.lookup x = some .local ∨ sc.names.lookup x = some .cell
  nofree : ∀ y ∈ sc.names, y.2 ≠ .free
theorem bindL_out {kindOf : Str → Option NameKind} {x : Str} : ∀ {binds : List (Str × Value)} {m : Str → Option Value}, (∀ v, (x, v) ∉ binds) → bindL kindOf binds m x = m x
  | [], _, _ => rfl
  | (n, v) :: r, m, h => by
    unfold bindL
    rw [bindL_out fun w hw => h w (List.mem_cons_of_mem _ hw)]
    split
    · have : x ≠ n := by rintro rfl; exact h v List.mem_cons_self
      simp [this]
    · rfl
theorem bindC_out {kindOf : Str → Option NameKind} {x : Str} : ∀ {binds : List (Str × Value)} {m : Str → Option Value}, (∀ v, (x, v) ∉ binds) → bindC kindOf binds m x = m x
  | [], _, _ => rfl
  | (n, v) :: r, m, h => by
    unfold bindC
    rw [bindC_out fun w hw => h w (List.mem_cons_of_mem _ hw)]
    split
    · rfl
    · have : x ≠ n := by rintro rfl; exact h v List.mem_cons_self
      simp [this]
theorem bindL_get {kindOf : Str → Option NameKind} {x : Str} {v : Value} : ∀ {P : List Str} {vs : List Value} {i : Nat} {m : Str → Option Value}, P.Nodup → P[i]? = some x → vs[i]? = some v → kindOf x = some .local →
    bindL kindOf (P.zip vs) m x = some v
  | [], _, _, _, _, h, _, _ => by simp at h
  | _ :: _, [], _, _, _, _, h, _ => by simp at h
  | p :: P, w :: vs, 0, m, nd, h1, h2, hk => by
    simp at h1 h2; subst h1; subst h2
    show bindL kindOf ((p, w) :: P.zip vs) m p = _
    unfold bindL
    rw [bindL_out fun v hv => (List.nodup_cons.mp nd).1 (List.of_mem_zip hv).1, if_pos hk]
    simp
  | p :: P, w :: vs, i + 1, m, nd, h1, h2, hk => by
    show bindL kindOf ((p, w) :: P.zip vs) m x = _
    unfold bindL
    exact bindL_get (i := i) (List.nodup_cons.mp nd).2 (by simpa using h1) (by simpa using h2) hk
theorem bindC_get {kindOf : Str → Option NameKind} {x : Str} {v : Value} : ∀ {P : List Str} {vs : List Value} {i : Nat} {m : Str → Option Value}, P.Nodup → P[i]? = some x → vs[i]? = some v → kindOf x ≠ some .local →
    bindC kindOf (P.zip vs) m x = some v
  | [], _, _, _, _, h, _, _ => by simp at h
  | _ :: _, [], _, _, _, _, h, _ => by simp at h
  | p :: P, w :: vs, 0, m, nd, h1, h2, hk => by
    simp at h1 h2; subst h1; subst h2
    show bindC kindOf ((p, w) :: P.zip vs) m p = _
    unfold bindC
    rw [bindC_out fun v hv => (List.nodup_cons.mp nd).1 (List.of_mem_zip hv).1, if_neg hk]
    simp
  | p :: P, w :: vs, i + 1, m, nd, h1, h2, hk => by
    show bindC kindOf ((p, w) :: P.zip vs) m x = _
    unfold bindC
    exact bindC_get (i := i) (List.nodup_cons.mp nd).2 (by simpa using h1) (by simpa using h2) hk
def start (N : List Str) (vs : List V) : St := vs.map some ++ List.replicate (N.length - vs.length) none
def cxOf (CX : CXT) (P : Program) (w : World) (K : PySem.W.Frag) (mg : Str → Option Value) (base : Heap) (N : List Str) (qual : Str) (scope : Scope) (f : Addr) (cd : Value) (A : Around) (outer : List Env) (s : Shared) (H : Hp) (E : XK) : Cx where
  prog := P
  w := w
  K := K
  mg := mg
  base := base
  A := A.deeper (envOfC qual scope s.heap.objs.size f cd)
  N := N
  s₀ := s
  H₀ := H
  env := envOfC qual scope s.heap.objs.size f cd
  outer := outer
  stack := envOfC qual scope s.heap.objs.size f cd :: outer
  ex := []
  calm := true
  fn := fun _ => true
  pn := []
  xe := fun e s' => wpAny (model P w) (A.deeper (envOfC qual scope s.heap.objs.size f cd)) (leaving (envOfC qual scope s.heap.objs.size f cd) e) (fun _ s'' => CX outer H s E e s'') (fun e' s'' => CX outer H s E e' s'') s'
theorem cell_has {sc : Scope} {n : Nat} {x : Str} (h : sc.names.lookup x = some .cell) : ∃ c, (cellsFrom n sc.names []).lookup x = some c := by
  have q := PySem.W.cellsFrom_some sc.names n [] (.inl h)
  exact Option.isSome_iff_exists.mp q
theorem inv_start {CX : CXT} {P : Program} {w : World} {K : PySem.W.Frag} {mg : Str → Option Value} {base : Heap} {N ps : List Str} {qual : Str} {scope : Scope} {f : Addr} {cd : Value} {A : Around} {outer : List Env} {s s1 : Shared} {H : Hp} {E : XK} {us : List Value} {vs : List V}
    (S : FnScope N ps scope) (hd : A.handled = none) (e0 : Env0 P w K mg base A outer s H) (hl : vs.length = ps.length) (r : Vals vs us)
    (x : InCallC s s.heap.objs.size (bindL (envOfC qual scope s.heap.objs.size f cd).kindOf (ps.zip us) fun _ => none) (cellsFrom (s.heap.objs.size + 1) scope.names []) (bindC (envOfC qual scope s.heap.objs.size f cd).kindOf (ps.zip us) fun _ => none) s1) :
    Inv (cxOf CX P w K mg base N qual scope f cd A outer s H E) [] (start N vs) H s1 := by
  have hpl : ps.length ≤ N.length := by have := congrArg List.length S.pre; rw [List.length_take] at this; omega
  obtain ⟨h1, tk, rfl, hk⟩ := x.done
  have noA : ∀ b : Addr, b ∉ (cxOf CX P w K mg base N qual scope f cd A outer s H E).ex := fun b z => absurd (show b ∈ ([] : List Addr) from z) (by simp)
  refine ⟨⟨e0.mod, S.kind, rfl, rfl, Nat.le_refl _, fun y z c h1 h2 => ?_, fun y hy => ?_, fun y c _ h => ?_, fun _ => hd, Around.frames_deeper e0.frames, .inr ⟨rfl, rfl⟩, fun b z => absurd z (noA b), e0.bs, e0.bsz, fun b _ _ => noA b, fun b z => absurd z (noA b), e0.funs, e0.frf⟩,
    rfl, e0.bare, Un.kept hk, ⟨_, x.toInCall.ns, fun i y v h1 h2 h3 => ?_⟩, fun y c h => ⟨_, x.cell y c h⟩, e0.hok.fresh (Nat.le_refl _), fun y c h => ?_, fun p hp => absurd (show p ∈ ([] : List (Addr × Obj)) from hp) (by simp), e0.hok.kept hk, ?_⟩
  · exact name_of_addr x.apart (PySem.mem_of_lookup h1) (PySem.mem_of_lookup h2)
  · have hy : scope.names.lookup y = some .cell ∨ scope.names.lookup y = some .free := hy
    rcases hy with hy | hy
    · exact cell_has hy
    · exact absurd rfl (S.nofree _ (PySem.mem_of_lookup hy))
  · exact Nat.le_of_lt (x.above y c (PySem.mem_of_lookup h))
  · have hi : i < vs.length := by
      unfold start at h2
      by_cases hi : i < vs.length
      · exact hi
      · rw [List.getElem?_append_right (by simpa using hi)] at h2
        rw [List.getElem?_replicate] at h2
        split at h2 <;> cases h2
    have ha : vs[i]? = some v := by
      unfold start at h2
      rw [List.getElem?_append_left (by simpa using hi), List.getElem?_map] at h2
      cases e : vs[i]? with
      | none => rw [e] at h2; cases h2
      | some a => rw [e] at h2; cases h2; rfl
    obtain ⟨u, hu, rv⟩ := r.get ha
    have hp : ps[i]? = some y := by
      rw [← S.pre, List.getElem?_take_of_lt (by omega)]; exact h1
    have ndP : ps.Nodup := by rw [← S.pre]; exact S.nd.sublist (List.take_sublist _ _)
    refine ⟨u, rv, ?_⟩
    rcases S.par y (List.mem_of_getElem? hp) with k | k
    · exact .inl ⟨k, bindL_get ndP hp hu k⟩
    · obtain ⟨c, e⟩ := cell_has (n := s.heap.objs.size + 1) k
      refine .inr ⟨.inl k, c, e, ?_⟩
      have q := x.cell y c e
      rw [bindC_get ndP hp hu (by show scope.names.lookup y ≠ _; rw [k]; decide)] at q
      exact q
  · exact e0.hok.fresh (Nat.le_of_lt (x.above y c (PySem.mem_of_lookup h)))
  · unfold start
    show _ = N.length
    rw [List.length_append, List.length_map, List.length_replicate]
    omega
theorem fn_of {CX : CXT} {P : Program} {w : World} {K : PySem.W.Frag} {mg : Str → Option Value} {base : Heap} {k : Nat} {f : Addr} {name qual : Str} {params : Arguments} {body : List Stmt} {scope : Scope} {dV kV doc pm cdv ct oc : Value} {an od : Option Addr}
    {osl : Array (Option Value)} {N ps : List Str} {sp : Sp} (lk : K.lookup f = some ⟨oc, od, .func (PySem.W.fnOf name qual params body scope dV kV doc pm an cdv ct), osl⟩) (hcd : PySem.W.codeIn K cdv qual = true) (S : FnScope N ps scope)
    (len : ∀ vs H Q E, sp vs H Q E → vs.length = ps.length)
    (hbody : ∀ (A : Around) (outer : List Env) (s : Shared) (H : Hp) (vs : List V) (Q : VK) (E : XK), Room k (A.deeper (envOfC qual scope s.heap.objs.size f cdv)) → sp vs H Q E →
      ∃ t, PSs (cxOf CX P w K mg base N qual scope f cdv A outer s H E) body t ∧ t { nx := fun _ H' => Q .non H', rt := Q } (start N vs) H) :
    FnOk P w K mg base CX (k + 1) f (PySem.W.fnOf name qual params body scope dV kV doc pm an cdv ct) ps sp := by
  refine ⟨len, fun A outer s H args us vs Q E hr e0 hb r hsp => ?_⟩
  have hl := len _ _ _ _ hsp
  have KX : K.In s.heap := e0.mod.kin.keeps fun b o e => (e0.bs b o e).1
  have lim : s.heap.NoLimit := e0.mod.nolimit.keeps fun b o e => (e0.bs b o e).1
  have hkind : ∀ y ∈ ps.zip us, scope.names.lookup y.1 = some .local ∨ (scope.names.lookup y.1 = some .cell ∧ ((cellsFrom (s.heap.objs.size + 1) scope.names []).lookup y.1).isSome = true) := fun ⟨n, v⟩ hy => by
    rcases S.par n (List.of_mem_zip hy).1 with q | q
    · exact .inl q
    · exact .inr ⟨q, PySem.W.cellsFrom_some _ _ _ (.inl q)⟩
  refine codeAny_call_function hr.depth (KX _ _ lk) rfl S.co S.gen rfl (PySem.W.codeRec_of KX hcd) (hb _ _ _ _ ?_)
  refine wpAny_newFunctionEnv_cells S.kind hkind fun env he s1 x => ?_
  subst he
  refine ⟨lim.keeps x.toInCall.keep, codeAny_func ?_⟩
  obtain ⟨t, ht, hq⟩ := hbody A outer s H vs Q E (hr.deeper _) hsp
  have I : Inv (cxOf CX P w K mg base N qual scope f cdv A outer s H E) [] (start N vs) H s1 := inv_start S hr.hd e0 hl r x
  refine wpAny_mono (ht [] s1 (start N vs) H _ I hq) (fun fl s' hs => ?_) fun e s' hs => hs
  have fin : ∀ {σ' : St} {H' : Hp} {v : V} {u : Value}, Inv (cxOf CX P w K mg base N qual scope f cdv A outer s H E) [] σ' H' s' → RelV v u → Q v H' → CE outer P w H s Q u s' :=
    fun {σ' H' v u} J rv q => ⟨v, H', J.os, J.bare, J.base, J.hok, rv, q⟩
  cases fl with
  | ret u =>
    obtain ⟨v, σ', H', J, rv, q⟩ := hs
    exact fin J rv q
  | next =>
    obtain ⟨σ', H', J, q⟩ := hs
    exact fin (v := V.non) (u := Value.none) J rfl q
  | brk =>
    obtain ⟨_, _, _, q⟩ := hs
    exact False.elim q
  | cont =>
    obtain ⟨_, _, _, q⟩ := hs
    exact False.elim q
end L2
namespace L2
open PySem PySem.Spec PyProof.Rows
section
variable {X : Cx} {x : Str} {p pos : Pos} {e : Expr} {es : List Expr} {t : TA} {id T : String} {r : List V → Hp → VK → Prop}
def tCB (r : List V → Hp → VK → Prop) (t : TA) : TE := fun σ H Q => t σ H fun vs H1 => r vs H1 Q
theorem pe_callB (hc : CallR X (.builtin id) r) (hg : Gl X x) (hm : X.mg x = none) (hv : bootBuiltins x = some (.builtin id)) (ha : PA X (e :: es) t) (hn : x ≠ "__name__" := by decide) (hdb : (x == ("__debug__" : Str)) = false := by decide)
    (he : starEach (e :: es) X.env = (false, eval e X.env) :: starEach es X.env := by rfl) (hpl : (backTo pos (starEach es X.env)).any (·.1) = false := by rfl) : PE X (.Call (.Name x p) (e :: es) [] pos) (tCB r t) := by
  intro pins s σ H Q I h
  refine wpAny_Call_Name_kw (ld_blt I hg hm hv ?_ hn hdb)
  exact PyProof.Rows.callWith_builtin1 (thn (ha pos pins s σ H _ I h) fun us s1 ⟨vs, H1, I1, r1, q1⟩ => hc pins s1 σ H1 vs us Q I1 r1 q1) he hpl
theorem pe_callTy (hc : CallR X (.type T) r) (hg : Gl X x) (hm : X.mg x = none) (hv : bootBuiltins x = some (.type T)) (ha : PA X (e :: es) t) (hn : x ≠ "__name__" := by decide) (hdb : (x == ("__debug__" : Str)) = false := by decide)
    (he : starEach (e :: es) X.env = (false, eval e X.env) :: starEach es X.env := by rfl) (hpl : (backTo pos (starEach es X.env)).any (·.1) = false := by rfl) : PE X (.Call (.Name x p) (e :: es) [] pos) (tCB r t) := by
  intro pins s σ H Q I h
  refine wpAny_Call_Name_kw (ld_blt I hg hm hv ?_ hn hdb)
  exact PyProof.Rows.callWith_type1 (thn (ha pos pins s σ H _ I h) fun us s1 ⟨vs, H1, I1, r1, q1⟩ => hc pins s1 σ H1 vs us Q I1 r1 q1) he hpl
end
end L2
namespace HT
open PySem PyProof.Rows
def lexLt : List Int → List Int → Bool
  | [], [] => false
  | [], _ :: _ => true
  | _ :: _, [] => false
  | x :: xs, y :: ys => if x = y then lexLt xs ys else decide (x < y)
theorem lexLt_cons (x y : Int) (xs ys : List Int) : lexLt (x :: xs) (y :: ys) = if x = y then lexLt xs ys else decide (x < y) := rfl
theorem lexLt_nil_nil : lexLt [] [] = false := rfl
theorem lexLt_nil_cons (y : Int) (ys : List Int) : lexLt [] (y :: ys) = true := rfl
theorem lexLt_cons_nil (x : Int) (xs : List Int) : lexLt (x :: xs) [] = false := rfl
section
open PySem.SeqAt
open PySem.AutoSeq1 (wpAny_loadPart')
open PySem.MeetsSeq PySem.MeetsSeq2 PySem.MeetsSeq3
end
section
variable {prog : Program} {w : World} {A : Around} {E : Value → Shared → Prop} {s : Shared}
theorem cat_tup {t b : Addr} {vs ws : List Value} {Q : Value → Shared → Prop} (ht : IsTup s.heap t vs.toArray) (hb : IsTup s.heap b ws.toArray) (hv : vs ≠ [])
    (h1 : ws = [] → Q (.ref t) s) (h2 : ws ≠ [] → Q (.ref s.heap.objs.size) { s with heap := s.heap.push { cls := .type "tuple", data := .seq (vs ++ ws).toArray } })
    (hsz : vs.length + ws.length ≤ sizeLine) : wpAny (model prog w) A (binaryOp .Add (.ref t) (.ref b)) Q E s := by
  obtain ⟨⟨cls, dd, data, sl⟩, ho, hc, n, hd⟩ := id ht
  obtain ⟨⟨cls2, dd2, data2, sl2⟩, ho2, hc2, n2, hd2⟩ := id hb
  simp only at hc hd hc2 hd2
  subst hc hd hc2 hd2
  have e : vs.toArray ++ ws.toArray = (vs ++ ws).toArray := by simp
  by_cases hw : ws = []
  · exact concat_meets ⟨_, ho, rfl⟩ ⟨_, ho2, rfl⟩ noFill_tuple_add seq_tuple_add PySem.F.slot_tuple_add PySem.F.entry_tuple_add (PySem.F.args_tuple_add_2 _ _)
      (tuple_addW1 t b vs.toArray ws.toArray n n2 dd dd2 sl sl2 (by simpa using hv) (by simp [hw])) ⟨ho, ho2, h1 hw⟩
  · refine concat_meets ⟨_, ho, rfl⟩ ⟨_, ho2, rfl⟩ noFill_tuple_add seq_tuple_add PySem.F.slot_tuple_add PySem.F.entry_tuple_add (PySem.F.args_tuple_add_2 _ _)
      (tuple_addW2 t b vs.toArray ws.toArray n n2 dd dd2 sl sl2 (by simpa using hv) (by simpa using hw) (by rw [List.size_toArray, List.size_toArray]; exact hsz)) ⟨ho, ho2, ?_⟩
    rw [e]
    exact h2 hw
def sIx (n d : Nat) : Option Int → Nat
  | none => d
  | some v => if v < 0 then (v + (n : Int)).toNat else min v.toNat n
theorem sIx_none (n d : Nat) : sIx n d none = d := rfl
theorem sIx_nat (n d k : Nat) : sIx n d (some (k : Int)) = min k n := by
  show (if (k : Int) < 0 then ((k : Int) + (n : Int)).toNat else min (k : Int).toNat n) = min k n
  rw [if_neg (by omega), Int.toNat_natCast]
theorem sIx_le (n d : Nat) (hd : d ≤ n) (o : Option Int) : sIx n d o ≤ n := by
  cases o with
  | none => exact hd
  | some v =>
    show (if v < 0 then (v + (n : Int)).toNat else min v.toNat n) ≤ n
    by_cases hv : v < 0
    · rw [if_pos hv]; omega
    · rw [if_neg hv]; exact Nat.min_le_right _ _
theorem clip_eq (v : Int) (n d : Nat) : (if v < 0 then max (v + (n : Int)) 0 else min v (n : Int)) = ((sIx n d (some v) : Nat) : Int) := by
  show (if v < 0 then max (v + (n : Int)) 0 else min v (n : Int)) = (((if v < 0 then (v + (n : Int)).toNat else min v.toNat n) : Nat) : Int)
  by_cases hv : v < 0
  · simp only [if_pos hv]; omega
  · simp only [if_neg hv]; omega
theorem adjust_gen (lo hi : Option Int) (n : Nat) : Builtin.Slice.sliceAdjust lo hi 1 (n : Int) = (((sIx n 0 lo : Nat) : Int), ((sIx n n hi : Nat) : Int)) := by
  have h1 : ¬ ((1 : Int) < 0) := by omega
  unfold Builtin.Slice.sliceAdjust
  simp only [h1, if_false]
  refine Prod.ext ?_ ?_
  · cases lo with
    | none => rfl
    | some v => exact clip_eq v n 0
  · cases hi with
    | none => rfl
    | some v => exact clip_eq v n n
theorem places_gen (i j : Nat) : Builtin.Slice.slicePlaces (i : Int) (j : Int) 1 = j - i := by
  unfold Builtin.Slice.slicePlaces
  have h1 : (1 : Int) > 0 := by omega
  simp only [h1, if_true, Int.ediv_one]
  split <;> omega
theorem slicePart_ {v : Value} {o : Option Int} {Q : Option Int → Shared → Prop} (p : IsPart v o) (h : Q o s) : wpAny (model prog w) A (Builtin.Slice.slicePartIndex v) Q E s := by
  cases p with
  | none => exact slicePart_none h
  | int i t => exact slicePart_int h
theorem sliceApplied_gen {sl : Addr} {vl vu : Value} {lo hi : Option Int} {n : Nat} {Q : Int × Int × Nat → Shared → Prop} (hs : s.heap.IsSliceOf sl vl vu .none) (pl : IsPart vl lo) (pu : IsPart vu hi)
    (h : Q (((sIx n 0 lo : Nat) : Int), 1, sIx n n hi - sIx n 0 lo) s) : wpAny (model prog w) A (Builtin.Slice.sliceApplied (.ref sl) (pure (n : Int))) Q E s := by
  obtain ⟨os, hos, hcs, hds⟩ := id hs
  unfold Builtin.Slice.sliceApplied Builtin.Slice.sliceFields
  refine wpAny_bind (wpAny_bind (wpAny_field hos hds (x := vl) rfl (wpAny_bind (wpAny_field hos hds (x := vu) rfl (wpAny_bind (wpAny_field hos hds (x := .none) rfl (wpAny_pure ?_)))))))
  refine wpAny_bind (slicePart_none ?_)
  show wpAny _ _ (if ((1 : Int) == 0) = true then _ else _) _ _ s
  rw [if_neg (by decide)]
  refine wpAny_bind (slicePart_ pl (wpAny_bind (slicePart_ pu (wpAny_bind (wpAny_pure ?_)))))
  show wpAny _ _ (match Builtin.Slice.sliceAdjust lo hi 1 (n : Int) with | (lo, hi) => pure (lo, (1 : Int), Builtin.Slice.slicePlaces lo hi 1)) _ _ s
  rw [adjust_gen lo hi n]
  show wpAny _ _ (pure (((sIx n 0 lo : Nat) : Int), (1 : Int), Builtin.Slice.slicePlaces ((sIx n 0 lo : Nat) : Int) ((sIx n n hi : Nat) : Int) 1)) _ _ s
  rw [places_gen]
  exact wpAny_pure h
theorem pick_gen (xs : Array Value) (i k : Nat) : ((List.range k).filterMap fun (m : Nat) => xs[((i : Int) + (m : Int) * 1).toNat]?).toArray = ((xs.toList.drop i).take k).toArray := by
  have e : (fun (m : Nat) => xs[((i : Int) + (m : Int) * 1).toNat]?) = fun m => xs[i + m]? := by
    funext m
    have : ((i : Int) + (m : Int) * 1).toNat = i + m := by omega
    rw [this]
  rw [e]
  have := pick_run xs i k
  rw [List.filterMap_map] at this
  have e2 : ((fun x => xs[x]?) ∘ fun x => i + x) = fun m => xs[i + m]? := rfl
  rw [e2] at this
  rw [this]
theorem getItem_tuple_cut {t sl : Addr} {items : Array Value} {vl vu : Value} {lo hi : Option Int} {Q : Value → Shared → Prop} (ht : IsTup s.heap t items) (hs : s.heap.IsSliceOf sl vl vu .none) (pl : IsPart vl lo) (pu : IsPart vu hi)
    (hw : ¬ (sIx items.size 0 lo = 0 ∧ sIx items.size items.size hi = items.size))
    (h : Q (.ref s.heap.objs.size) { s with heap := s.heap.push { cls := .type "tuple", data := .seq ((items.toList.drop (sIx items.size 0 lo)).take (sIx items.size items.size hi - sIx items.size 0 lo)).toArray } })
    (hsz : items.size ≤ sizeLine) : wpAny (model prog w) A (getItem (.ref t) (.ref sl)) Q E s := by
  have htake : sizeOk (.seq ((items.toList.drop (sIx items.size 0 lo)).take (sIx items.size items.size hi - sIx items.size 0 lo)).toArray) := by
    show ((items.toList.drop (sIx items.size 0 lo)).take (sIx items.size items.size hi - sIx items.size 0 lo)).toArray.size ≤ sizeLine
    rw [List.size_toArray, List.length_take, List.length_drop, Array.length_toList]
    omega
  have hj : sIx items.size items.size hi ≤ items.size := sIx_le _ _ (Nat.le_refl _) hi
  obtain ⟨os, hos, hcs, hds⟩ := id hs
  have hTs : s.TypeIs (.ref sl) "slice" := ⟨os, hos, hcs⟩
  unfold getItem
  try with_reducible refine wpAny_holding ?_
  first | refine wpAny_bind (wpAny_pure ?_) | skip
  refine wpAny_bind (wpAny_sequenceKey ht.typeIs (by decide) ?_)
  refine wpAny_bind (wpAny_callSpecial?_slot (name := Str.ofString "__getitem__") ht.typeIs PyProof.Rows.slot_tuple_getitem
    (wpAny_call_entry PyProof.Rows.slot_tuple_getitem ht.typeIs entry_tuple_getitem ?_ (args_tuple_getitem _ _)))
  show wpAny _ _ (Builtin.Tuple.tupleItemsOf (.ref t) >>= _) _ _ s
  refine wpAny_bind (tupleItemsOf_ ht ?_)
  refine wpAny_bind (wpAny_typeOf hTs ?_)
  rw [if_pos (by decide)]
  refine wpAny_bind (sliceApplied_gen hs pl pu ?_)
  have hno : ¬ ((((sIx items.size 0 lo : Nat) : Int) == 0 && (1 : Int) == 1 && (sIx items.size items.size hi - sIx items.size 0 lo) == items.size) = true) := by
    intro q
    rw [Bool.and_eq_true, Bool.and_eq_true] at q
    have q1 : ((sIx items.size 0 lo : Nat) : Int) = 0 := eq_of_beq q.1.1
    have q2 : sIx items.size items.size hi - sIx items.size 0 lo = items.size := eq_of_beq q.2
    exact hw ⟨by omega, by omega⟩
  show wpAny _ _ (if (((sIx items.size 0 lo : Nat) : Int) == 0 && (1 : Int) == 1 && (sIx items.size items.size hi - sIx items.size 0 lo) == items.size) = true then _ else _) _ _ s
  rw [if_neg hno, pick_gen]
  first
    | exact wpAny_bind (m := Builtin.Tuple.tupleExact _) (wpAny_newObj_type (wpAny_pure ⟨_, rfl, wpAny_pure h⟩) htake)
    | exact wpAny_bind (m := Builtin.Tuple.tupleExact _) (wpAny_newObj_type (wpAny_bind (wpAny_pure (wpAny_pure ⟨_, rfl, wpAny_pure h⟩))) htake)
    | exact wpAny_bind (wpAny_bind (m := Builtin.Tuple.tupleExact _) (wpAny_newObj_type (wpAny_pure (wpAny_pure ⟨_, rfl, wpAny_pure h⟩)) htake))
    | exact wpAny_bind (wpAny_bind (m := Builtin.Tuple.tupleExact _) (wpAny_newObj_type (wpAny_pure ⟨_, rfl, wpAny_pure h⟩) htake))
end
end HT
namespace L2
open PySem PySem.Spec PyProof.Rows
abbrev TO := St → Hp → (Option Int → Hp → Prop) → Prop
def PO (X : Cx) (e : Option Expr) (t : TO) : Prop :=
  ∀ (pins : List (Addr × Obj)) (s : Shared) (σ : St) (H : Hp) (Q : Option Int → Hp → Prop), Inv X pins σ H s → t σ H Q →
    wpAny (model X.prog X.w) X.A (evalPart e X.env) (fun u s' => ∃ o H', Inv X pins σ H' s' ∧ IsPart u o ∧ Q o H') X.xe s
def tNoPart : TO := fun _ H Q => Q none H
def tPart (t : TE) : TO := fun σ H Q => t σ H fun x H1 => ∃ i, x = .int i ∧ Q (some i) H1
theorem intsAre_of {ns : List Int} : ∀ {us : List Value}, Vals (ns.map V.int) us → IntsAre us ns := by
  induction ns with
  | nil => intro us r; rw [List.map_nil] at r; cases r; exact .nil
  | cons n ns ih =>
    intro us r
    rw [List.map_cons] at r
    cases r with
    | cons r1 r2 =>
      obtain ⟨t, e⟩ := r1
      subst e
      exact .cons n t (ih r2)
section
variable {X : Cx} {e : Expr} {te : TE} {lo hi : Option Expr} {tl th : TO} {pos p2 : Pos}
theorem po_none : PO X none tNoPart := by
  intro pins s σ H Q I h
  rw [evalPart_none]
  exact wpAny_pure ⟨none, H, I, .none, h⟩
theorem po_some (h : PE X e te) : PO X (some e) (tPart te) := by
  intro pins s σ H Q I hw
  rw [evalPart_some]
  refine thn (h pins s σ H _ I hw) fun u s1 ⟨x, H1, I1, r1, q1⟩ => ?_
  obtain ⟨i, rfl, q⟩ := q1
  obtain ⟨t, rfl⟩ := r1
  exact ⟨some i, H1, I1, .int i t, q⟩
def SlR (X : Cx) (r : V → Option Int → Option Int → Hp → VK → Prop) : Prop :=
  ∀ (pins : List (Addr × Obj)) (s : Shared) (σ : St) (H : Hp) (x : V) (v vl vu : Value) (lo hi : Option Int) (sl : Addr) (Q : VK), Inv X pins σ H s → RelV x v → s.heap.IsSliceOf sl vl vu .none → IsPart vl lo → IsPart vu hi → r x lo hi H Q →
    ∃ T id, typeLookup (.type T) "__getitem__" = pure (some (.builtin id)) ∧ s.TypeIs v T ∧ wpAny (model X.prog X.w) X.A (getItem v (.ref sl)) (EP X pins σ Q) X.xe s
def tSl (r : V → Option Int → Option Int → Hp → VK → Prop) (te : TE) (tl th : TO) : TE := fun σ H Q => te σ H fun x H1 => tl σ H1 fun l H2 => th σ H2 fun u H3 => r x l u H3 Q
theorem pe_slice {r : V → Option Int → Option Int → Hp → VK → Prop} (hr : SlR X r) (he : PE X e te) (hl : PO X lo tl) (hu : PO X hi th) : PE X (.Subscript e (.Slice lo hi none p2) pos) (tSl r te tl th) := by
  intro pins s σ H Q I h
  refine Subscript_ (thn (he pins s σ H _ I h) fun v s1 ⟨x, H1, I1, r1, q1⟩ => ?_)
  refine wpAny_Slice (thn (hl pins s1 σ H1 _ I1 q1) fun vl s2 ⟨l, H2, I2, pl, q2⟩ => thn (hu pins s2 σ H2 _ I2 q2) fun vu s3 ⟨u, H3, I3, pu, q3⟩ => ?_)
  rw [evalPart_none]
  refine wpAny_pure ?_
  have I4 : Inv X pins σ H3 { s3 with heap := s3.heap.push { cls := .type "slice", data := .fields #[vl, vu, .none] } } := I3.kept (t' := s3.toks) fun b ob q => Heap.get?_push_of_some _ q
  obtain ⟨T, id, hT, ht, hg⟩ := hr pins { s3 with heap := s3.heap.push { cls := .type "slice", data := .fields #[vl, vu, .none] } } σ H3 x v vl vu l u s3.heap.objs.size Q I4 r1 (Heap.IsSliceOf.new ..) pl pu q3
  show wpAny (model X.prog X.w) X.A (subscriptTail e (.Slice lo hi none p2) v (.ref s3.heap.objs.size)) (EP X pins σ Q) X.xe { s3 with heap := s3.heap.push { cls := .type "slice", data := .fields #[vl, vu, .none] } }
  exact tail_any (ops := [.ref s3.heap.objs.size, v]) ht hT hg (by with_unfolding_all rfl)
def cutV (xs : List V) (lo hi : Option Int) : List V := (xs.drop (HT.sIx xs.length 0 lo)).take (HT.sIx xs.length xs.length hi - HT.sIx xs.length 0 lo)
theorem cutV_length (xs : List V) (lo hi : Option Int) : (cutV xs lo hi).length ≤ xs.length := by
  unfold cutV
  rw [List.length_take, List.length_drop]
  omega
def rSlT (K : PySem.W.Frag) : V → Option Int → Option Int → Hp → VK → Prop := fun x lo hi H Q => ∃ a xs, x = .ref a ∧ SqT K H a xs ∧
  ¬ (HT.sIx xs.length 0 lo = 0 ∧ HT.sIx xs.length xs.length hi = xs.length) ∧ ∀ p, H p = none → Q (.ref p) (upd H p (.tup (cutV xs lo hi)))
theorem sl_tup : SlR X (rSlT X.K) := by
  intro pins s σ H x v vl vu lo hi sl Q I rx hs pl pu h
  obtain ⟨a, xs, rfl, hx, hw, q⟩ := h
  cases rx
  obtain ⟨its, r, ht, hz⟩ := I.tuple hx
  have hlen : its.toArray.size = xs.length := by rw [List.size_toArray]; exact r.length.symm
  refine ⟨"tuple", _, PyProof.Rows.slot_tuple_getitem.lookup, ht.typeIs, ?_⟩
  refine HT.getItem_tuple_cut ht hs pl pu (by rw [hlen]; exact hw) ?_ (by rw [hlen]; exact hz)
  rw [hlen]
  refine ⟨.ref s.heap.objs.size, _, I.laid (t' := s.toks) (o := .tup (cutV xs lo hi)) (fun b ob q => Heap.get?_push_of_some _ q) (Nat.le_refl _) ?_, rfl, q _ (I.hok.fresh (Nat.le_refl _))⟩
  exact ⟨Nat.le_trans (cutV_length xs lo hi) hz, _, (r.drop (HT.sIx xs.length 0 lo)).take (HT.sIx xs.length xs.length hi - HT.sIx xs.length 0 lo), IsTup.new _ _⟩
def rLtT (K : PySem.W.Frag) : R2 := fun x y H Q => ∃ a b ns ms, x = .ref a ∧ y = .ref b ∧ SqT K H a (ns.map V.int) ∧ SqT K H b (ms.map V.int) ∧ Q (.bl (HT.lexLt ns ms)) H
def rCatT (K : PySem.W.Frag) : R2 := fun x y H Q => ∃ a b xs ys, x = .ref a ∧ y = .ref b ∧ SqT K H a xs ∧ SqT K H b ys ∧ xs ≠ [] ∧ xs.length + ys.length ≤ sizeLine ∧
  (ys = [] → Q (.ref a) H) ∧ (ys ≠ [] → ∀ p, H p = none → Q (.ref p) (upd H p (.tup (xs ++ ys))))
theorem Vals.nil_iff {xs : List V} {us : List Value} (r : Vals xs us) : us = [] ↔ xs = [] := by
  cases r with
  | nil => simp
  | cons _ _ => simp
theorem op_catT : OpR X (binaryOp .Add) (rCatT X.K) := by
  intro pins s σ H x y v u Q I rx ry h
  obtain ⟨a, b, xs, ys, rfl, rfl, ha, hb, hx, hz, q1, q2⟩ := h
  cases rx
  cases ry
  obtain ⟨its, r1, p1, _⟩ := I.tuple ha
  obtain ⟨its2, r2, p2, _⟩ := I.tuple hb
  refine HT.cat_tup p1 p2 (fun z => hx (r1.nil_iff.mp z)) (fun z => ⟨.ref a, H, I, rfl, q1 (r2.nil_iff.mp z)⟩) (fun z => ?_) (by rw [← r1.length, ← r2.length]; exact hz)
  refine ⟨.ref s.heap.objs.size, _, I.laid (t' := s.toks) (o := .tup (xs ++ ys)) (fun b ob q => Heap.get?_push_of_some _ q) (Nat.le_refl _) ?_, rfl, q2 (fun w => z (r2.nil_iff.mpr w)) _ (I.hok.fresh (Nat.le_refl _))⟩
  exact ⟨by rw [List.length_append]; exact hz, _, r1.append r2, IsTup.new _ _⟩
end
end L2
namespace L2
open PySem PySem.Spec PyProof.Rows
def ixN (n : Nat) (i : Int) : Option Nat := if 0 ≤ i then (if i < n then some i.toNat else none) else if -(n : Int) ≤ i then some (i + n).toNat else none
def atI {α : Type} (xs : List α) (i : Int) : Option α := (ixN xs.length i).bind fun j => xs[j]?
theorem ixN_seq {n : Nat} {i : Int} {j : Nat} (h : ixN n i = some j) : seqIndex? i n = some j ∧ j < n ∧ -(n : Int) ≤ i ∧ i < n := by
  unfold ixN at h
  by_cases h0 : 0 ≤ i
  · rw [if_pos h0] at h
    by_cases h1 : i < n
    · rw [if_pos h1] at h
      have e : i.toNat = j := Option.some.inj h
      exact ⟨by rw [seqIndex_of h0 h1, e], by omega, by omega, h1⟩
    · rw [if_neg h1] at h; cases h
  · rw [if_neg h0] at h
    by_cases h1 : -(n : Int) ≤ i
    · rw [if_pos h1] at h
      have e : (i + n).toNat = j := Option.some.inj h
      exact ⟨by rw [seqIndex_neg (by omega) h1, e], by omega, h1, by omega⟩
    · rw [if_neg h1] at h; cases h
theorem atI_get {α : Type} {xs : List α} {i : Int} {v : α} (h : atI xs i = some v) : ∃ j, seqIndex? i xs.length = some j ∧ xs[j]? = some v ∧ j < xs.length ∧ -(xs.length : Int) ≤ i ∧ i < xs.length := by
  unfold atI at h
  cases e : ixN xs.length i with
  | none => rw [e] at h; cases h
  | some j =>
    rw [e] at h
    obtain ⟨h1, h2, h3, h4⟩ := ixN_seq e
    exact ⟨j, h1, h, h2, h3, h4⟩
theorem atI_nat {α : Type} {xs : List α} {j : Nat} {v : α} (h : xs[j]? = some v) : atI xs (j : Int) = some v := by
  have hj : j < xs.length := (List.getElem?_eq_some_iff.mp h).1
  have e : ixN xs.length (j : Int) = some j := by
    unfold ixN
    rw [if_pos (by omega), if_pos (by omega)]; simp
  unfold atI; rw [e]; exact h
def PlainIx (b : Expr) : Prop := ∀ o i, subscripted b false o i = operate [o, i] (getItem o i)
def IxR (X : Cx) (r : R2) : Prop :=
  ∀ (value slice : Expr) (pins : List (Addr × Obj)) (s : Shared) (σ : St) (H : Hp) (x y : V) (v u : Value) (Q : VK), Inv X pins σ H s → RelV x v → RelV y u → r x y H Q →
    subscripted slice false v u = operate [v, u] (getItem v u) → wpAny (model X.prog X.w) X.A (subscriptTail value slice v u) (EP X pins σ Q) X.xe s
def MtR (X : Cx) (id : String) (r : V → List V → Hp → VK → Prop) : Prop :=
  ∀ (pins : List (Addr × Obj)) (s : Shared) (σ : St) (H : Hp) (x : V) (xs : List V) (v : Value) (us : List Value) (Q : VK), Inv X pins σ H s → RelV x v → Vals xs us → r x xs H Q →
    wpAny (model X.prog X.w) X.A (call (.builtin id) (v :: us)) (EP X pins σ Q) X.xe s
section
variable {X : Cx} {a b : Expr} {ta tb : TE} {pos : Pos}
theorem pe_ix {r : R2} (hr : IxR X r) (ha : PE X a ta) (hb : PE X b tb) (hs : PlainIx b) : PE X (.Subscript a b pos) (tOp r ta tb) := by
  intro pins s σ H Q I h
  exact Subscript_ (binT ha hb I h fun v u s2 x y H2 I2 rx ry q => hr a b pins s2 σ H2 x y v u Q I2 rx ry q (hs _ _))
def rIxL (K : PySem.W.Frag) : R2 := fun x y H Q => ∃ p xs i v, x = .ref p ∧ y = .int i ∧ SqL K H p xs ∧ atI xs i = some v ∧ Q v H
def rIxT (K : PySem.W.Frag) : R2 := fun x y H Q => ∃ p xs i v, x = .ref p ∧ y = .int i ∧ SqT K H p xs ∧ atI xs i = some v ∧ Q v H
def rIxS : R2 := fun x y H Q => ∃ z i c, x = .str z ∧ y = .int i ∧ z.length ≤ sizeLine ∧ atI z.cps.toList i = some c ∧ Q (.str ⟨#[c]⟩) H
theorem ix_list : IxR X (rIxL X.K) := by
  intro value slice pins s σ H x y v u Q I rx ry h hs
  obtain ⟨p, xs, i, z, rfl, rfl, hq, he, q⟩ := h
  cases rx
  obtain ⟨t, rfl⟩ := ry
  obtain ⟨its, r, pl, hz⟩ := I.list hq
  obtain ⟨j, h1, h2, h3, h4, h5⟩ := atI_get he
  obtain ⟨w, ew, rw'⟩ := r.get h2
  have hl := r.length
  have hn := line63
  have fin : EP X pins σ Q w s := ⟨z, H, I, rw', q⟩
  by_cases h0 : 0 ≤ i
  · have hj : i.toNat = j := by
      rw [seqIndex_of h0 h5] at h1
      exact Option.some.inj h1
    exact item_listR pl.isList h0 (by omega) (by rw [hj]; simpa using ew) fin hs
  · have hj : (i + (its.toArray.size : Int)).toNat = j := by
      rw [seqIndex_neg (by omega) h4] at h1
      rw [List.size_toArray, ← hl]
      exact Option.some.inj h1
    exact subscriptTail_builtinR (x := w) pl.isList.typeIs slot_list_getitem.lookup
      (wpAny_getItem_list_neg (Q := fun r s' => r = w ∧ EP X pins σ Q r s') pl.isList (by omega) (by rw [List.size_toArray] <;> omega) (by omega) (by rw [hj]; simpa using ew) ⟨rfl, fin⟩) hs
theorem ix_tup : IxR X (rIxT X.K) := by
  intro value slice pins s σ H x y v u Q I rx ry h hs
  obtain ⟨p, xs, i, z, rfl, rfl, hq, he, q⟩ := h
  cases rx
  obtain ⟨t, rfl⟩ := ry
  obtain ⟨its, r, pl, hz⟩ := I.tuple hq
  obtain ⟨j, h1, h2, h3, h4, h5⟩ := atI_get he
  obtain ⟨w, ew, rw'⟩ := r.get h2
  have hl := r.length
  have hn := line63
  have fin : EP X pins σ Q w s := ⟨z, H, I, rw', q⟩
  exact subscriptTail_builtinR (x := w) pl.typeIs slot_tuple_getitem.lookup
    (getItem_tuple (j := j) (Q := fun r s' => r = w ∧ EP X pins σ Q r s') pl (by omega) (by omega) (by rw [List.size_toArray, ← hl]; exact h1) (by simpa using ew) ⟨rfl, fin⟩) hs
def rIx (K : PySem.W.Frag) : R2 := fun x y H Q => rIxL K x y H Q ∨ rIxT K x y H Q ∨ rIxS x y H Q
theorem mapSeq_set (its : List Value) (n j : Nat) (u : Value) : Obj.mapSeq (·.setIfInBounds j u) { cls := .type "list", data := .seq its.toArray n } = { cls := .type "list", data := .seq (its.set j u).toArray n } := by
  simp [Obj.mapSeq]
theorem Inv.lst {pins : List (Addr × Obj)} {σ : St} {H : Hp} {s : Shared} {p : Addr} {xs : List V} (I : Inv X pins σ H s) (h : H p = some (.lst xs)) :
    ∃ (its : List Value) (n : Nat), Vals xs its ∧ s.heap.get? p = some { cls := .type "list", data := .seq its.toArray n } ∧ xs.length ≤ sizeLine := by
  obtain ⟨z, its, n, r, e⟩ := I.hok p _ h
  exact ⟨its, n, r, e, z⟩
theorem Inv.lstUpd {pins : List (Addr × Obj)} {σ : St} {H : Hp} {s : Shared} {p : Addr} {xs ys : List V} {its its' : List Value} {n n' : Nat} {f : Obj → Obj} (I : Inv X pins σ H s) (h : H p = some (.lst xs))
    (ho : s.heap.get? p = some { cls := .type "list", data := .seq its.toArray n }) (hf : f { cls := .type "list", data := .seq its.toArray n } = { cls := .type "list", data := .seq its'.toArray n' }) (r : Vals ys its') (hz : ys.length ≤ sizeLine) (t : Nat) :
    Inv X pins σ (upd H p (.lst ys)) { s with heap := s.heap.update p f, toks := t } := by
  have e : (s.heap.update p f).get? p = some { cls := .type "list", data := .seq its'.toArray n' } := by
    rw [Heap.get?_update_self f ho (by rw [hf] <;> rfl), hf]
  refine I.write (x := p) (e := p) (by rw [h]; trivial) (.inl rfl) (fun b u hb q => (Heap.get?_update_other _ _ (Ne.symm hb)).trans q) ⟨_, e⟩ ?_
  exact ⟨hz, its', n', r, e⟩
def rSetL : V → V → V → Hp → (Hp → Prop) → Prop := fun o i v H Q => ∃ p xs k j, o = .ref p ∧ i = .int k ∧ H p = some (.lst xs) ∧ ixN xs.length k = some j ∧ Q (upd H p (.lst (xs.set j v)))
theorem set_list : PSet X rSetL := by
  intro pins s σ H o i v ov iv u Q I ro ri rv h
  obtain ⟨p, xs, k, j, rfl, rfl, hp, hj, q⟩ := h
  cases ro
  obtain ⟨t, rfl⟩ := ri
  obtain ⟨its, n, r, ho, hz⟩ := I.lst hp
  obtain ⟨h1, h2, h3, h4⟩ := ixN_seq hj
  have hl := r.length
  have hn := line63
  have I' : Inv X pins σ (upd H p (.lst (xs.set j v))) { s with heap := s.heap.update p (Obj.mapSeq (·.setIfInBounds j u)) } :=
    I.lstUpd hp ho (mapSeq_set its n j u) (r.set rv j) (by rw [List.length_set]; exact hz) s.toks
  by_cases h0 : 0 ≤ k
  · have hk : k.toNat = j := by
      rw [seqIndex_of h0 h4] at h1
      exact Option.some.inj h1
    exact PySem.W.ki_setAt ho h0 (by omega) (by rw [List.size_toArray, ← hl]; exact h4) (by rw [hk]; exact ⟨_, I', q⟩)
  · have hk : (k + (its.toArray.size : Int)).toNat = j := by
      rw [seqIndex_neg (by omega) h3] at h1
      rw [List.size_toArray, ← hl]
      exact Option.some.inj h1
    exact PySem.W.ki_setBack ho (by omega) (by rw [List.size_toArray, ← hl]; exact h3) (by omega) (by rw [hk]; exact ⟨_, I', q⟩)
theorem slice_bounds (lo hi : Option Int) (n : Nat) : (sliceBounds lo hi none n).1 = ((HT.sIx n 0 lo : Nat) : Int) ∧ (sliceBounds lo hi none n).2.1 = ((HT.sIx n n hi : Nat) : Int) ∧ (sliceBounds lo hi none n).2.2 = 1 := by
  refine ⟨?_, ?_, rfl⟩
  · cases lo with
    | none => simp [sliceBounds, HT.sIx]
    | some i =>
      simp only [sliceBounds, HT.sIx, Option.getD_none, show (1 : Int) > 0 by decide, if_true]
      by_cases h : i < 0
      · simp only [h, if_true] <;> omega
      · simp only [h, if_false] <;> omega
  · cases hi with
    | none => simp [sliceBounds, HT.sIx]
    | some i =>
      simp only [sliceBounds, HT.sIx, Option.getD_none, show (1 : Int) > 0 by decide, if_true]
      by_cases h : i < 0
      · simp only [h, if_true] <;> omega
      · simp only [h, if_false] <;> omega
theorem slicePick_cut (its : List Value) (lo hi : Option Int) : slicePick its.toArray lo hi none = ((its.drop (HT.sIx its.length 0 lo)).take (HT.sIx its.length its.length hi - HT.sIx its.length 0 lo)).toArray := by
  obtain ⟨h1, h2, h3⟩ := slice_bounds lo hi its.toArray.size
  unfold slicePick
  rw [h1, h2, h3]
  simp only [sliceRange_one, pick_run, List.size_toArray] <;> rfl
def rSlL (K : PySem.W.Frag) : V → Option Int → Option Int → Hp → VK → Prop := fun x lo hi H Q => ∃ a xs, x = .ref a ∧ SqL K H a xs ∧ ∀ p, H p = none → Q (.ref p) (upd H p (.lst (cutV xs lo hi)))
theorem sl_list : SlR X (rSlL X.K) := by
  intro pins s σ H x v vl vu lo hi sl Q I rx hs pl pu h
  obtain ⟨a, xs, rfl, hx, q⟩ := h
  cases rx
  obtain ⟨its, r, ht, hz⟩ := I.list hx
  have hlen := r.length
  refine ⟨"list", _, slot_list_getitem.lookup, ht.isList.typeIs, ?_⟩
  refine wpAny_getItem_list_slice ht.isList hs pl pu .none (by simp) ?_ (by rw [List.size_toArray] <;> omega)
  rw [slicePick_cut, ← hlen]
  refine ⟨.ref s.heap.objs.size, _, I.laid (t' := s.toks) (o := .lst (cutV xs lo hi)) (fun b ob q => Heap.get?_push_of_some _ q) (Nat.le_refl _) ?_, rfl, q _ (I.hok.fresh (Nat.le_refl _))⟩
  exact ⟨Nat.le_trans (cutV_length xs lo hi) hz, _, 0, (r.drop (HT.sIx xs.length 0 lo)).take (HT.sIx xs.length xs.length hi - HT.sIx xs.length 0 lo), Heap.get?_push_size _ rfl⟩
def flatV : V → Bool
  | .non => true
  | .bl _ => true
  | .int _ => true
  | .str _ => true
  | _ => false
def eqV : V → V → Bool
  | .non, .non => true
  | .bl a, .bl b => a == b
  | .bl a, .int b => (if a then 1 else 0) == b
  | .int a, .bl b => a == (if b then 1 else 0)
  | .int a, .int b => a == b
  | .str a, .str b => a == b
  | _, _ => false
def eqU (x : V) (u : Value) : Bool := match u with
  | .none => eqV .non x
  | .bool b => eqV (.bl b) x
  | .int i _ => eqV (.int i) x
  | .str z _ => eqV (.str z) x
  | _ => false
def inV (x : V) (xs : List V) : Bool := xs.any fun y => eqV y x
def rIn (K : PySem.W.Frag) (neg : Bool) : R2 := fun x y H Q => ∃ p xs, y = .ref p ∧ (SqL K H p xs ∨ SqT K H p xs) ∧ flatV x = true ∧ xs.all flatV = true ∧ Q (.bl (if neg then !inV x xs else inV x xs)) H
theorem call_len_seq : CallR X (.builtin "len") (fun xs H Q => ∃ p ys, xs = [.ref p] ∧ (SqL X.K H p ys ∨ SqT X.K H p ys) ∧ Q (.int ys.length) H) := by
  intro pins s σ H xs us Q I r h
  obtain ⟨p, ys, rfl, hq, q⟩ := h
  obtain ⟨u, rfl, rx⟩ := vals1 r
  cases rx
  have hn := line63
  rcases hq with hq | hq
  · obtain ⟨its, r', pl, hz⟩ := I.list hq
    have hlen := r'.length
    exact Calls.call_len_list pl.isList (by simp only [List.size_toArray] <;> omega) ⟨.int ys.length, H, I.tok _, ⟨s.toks + 1, by rw [List.size_toArray, hlen]⟩, q⟩
  · obtain ⟨its, r', pl, hz⟩ := I.tuple hq
    have hlen := r'.length
    exact len_tuple pl (by simp only [List.size_toArray] <;> omega) ⟨.int ys.length, H, I.tok _, ⟨s.toks + 1, by rw [List.size_toArray, hlen]⟩, q⟩
theorem call_list_of : CallR X (.type "list") (fun xs H Q => ∃ p ys, xs = [.ref p] ∧ (SqL X.K H p ys ∨ SqT X.K H p ys) ∧ ∀ l, H l = none → Q (.ref l) (upd H l (.lst ys))) := by
  intro pins s σ H xs us Q I r h
  obtain ⟨p, ys, rfl, hq, q⟩ := h
  obtain ⟨u, rfl, rx⟩ := vals1 r
  cases rx
  have fin : ∀ (its : List Value), Vals ys its → ys.length ≤ sizeLine → ∀ (h' : Heap) (c' : Nat), (∀ b o', s.heap.get? b = some o' → h'.get? b = some o') →
      h'.get? s.heap.objs.size = some { cls := .type "list", dict := none, data := .seq its.toArray c', slots := #[] } → EP X pins σ Q (.ref s.heap.objs.size) { s with heap := h' } := fun its r' hz h' c' kp e =>
    ⟨.ref s.heap.objs.size, _, I.laid (t' := s.toks) kp (Nat.le_refl _) (show ObjOk X.prog X.w _ h' _ (.lst ys) from ⟨hz, its, c', r', e⟩), rfl, q _ (I.hok.fresh (Nat.le_refl _))⟩
  rcases hq with hq | hq
  · obtain ⟨its, r', pl, hz⟩ := I.list hq
    have hlen := r'.length
    obtain ⟨o, ho, hc, n, hd⟩ := pl.isList
    exact call_list_seq p (.inl rfl) ho hc hd (fun h' c' kp e => fin its r' hz h' c' kp e) (by simp only [List.size_toArray] <;> omega)
  · obtain ⟨its, r', pl, hz⟩ := I.tuple hq
    have hlen := r'.length
    obtain ⟨o, ho, hc, n, hd⟩ := pl
    exact call_list_seq p (.inr rfl) ho hc hd (fun h' c' kp e => fin its r' hz h' c' kp e) (by simp only [List.size_toArray] <;> omega)
theorem call_tuple_of : CallR X (.type "tuple") (fun xs H Q => ∃ p ys, xs = [.ref p] ∧ ((SqL X.K H p ys ∧ ∀ l, H l = none → Q (.ref l) (upd H l (.tup ys))) ∨ (SqT X.K H p ys ∧ Q (.ref p) H))) := by
  intro pins s σ H xs us Q I r h
  obtain ⟨p, ys, rfl, h⟩ := h
  obtain ⟨u, rfl, rx⟩ := vals1 r
  cases rx
  rcases h with ⟨hq, q⟩ | ⟨hq, q⟩
  · obtain ⟨its, r', pl, hz⟩ := I.list hq
    have hlen := r'.length
    refine call_tuple_list pl.isList (fun h' kp => ?_) (by simp only [List.size_toArray] <;> omega)
    have I1 : Inv X pins σ H { s with heap := h' } := I.kept (t' := s.toks) kp
    have I2 : Inv X pins σ (upd H h'.objs.size (.tup ys)) { s with heap := h'.push { cls := .type "tuple", data := .seq its.toArray } } :=
      I1.laid (t' := s.toks) (fun b o e => Heap.get?_push_of_some _ e) (Nat.le_refl _) (show ObjOk X.prog X.w _ _ _ (.tup ys) from ⟨hz, its, r', IsTup.new _ _⟩)
    exact ⟨.ref h'.objs.size, _, I2, rfl, q _ (I1.hok.fresh (Nat.le_refl _))⟩
  · obtain ⟨its, r', pl, hz⟩ := I.tuple hq
    exact call_tuple_same pl ⟨.ref p, H, I, rfl, q⟩
def tyV (K : PySem.W.Frag) (T : String) (x : V) (H : Hp) : Prop := match x with
  | .str _ => T = "str"
  | .int _ => T = "int"
  | .ref p => (T = "list" ∧ ∃ xs, SqL K H p xs) ∨ (T = "tuple" ∧ ∃ o, K.lookup p = some o ∧ o.cls = .type "tuple" ∧ o.dict = none) ∨
      (T = "dict" ∧ ((∃ kvs, H p = some (.dK kvs)) ∨ ∃ kvs, H p = some (.dT kvs))) ∨ (T = "set" ∧ ∃ S n, H p = some (.set S n))
  | _ => False
theorem tyV_is {pins : List (Addr × Obj)} {σ : St} {H : Hp} {s : Shared} {T : String} {x : V} {v : Value} (I : Inv X pins σ H s) (r : RelV x v) (ty : tyV X.K T x H) :
    s.TypeIs v T ∧ ∀ a, v = .ref a → ∃ ob, s.heap.get? a = some ob ∧ ob.dict = none := by
  cases x with
  | str z =>
    obtain ⟨t, rfl⟩ := r
    cases (show T = "str" from ty)
    exact ⟨typeIs_str s z t, fun _ e => nomatch e⟩
  | int i =>
    obtain ⟨t, rfl⟩ := r
    cases (show T = "int" from ty)
    exact ⟨typeIs_int s i t, fun _ e => nomatch e⟩
  | ref p =>
    cases r
    rcases ty with ⟨rfl, xs, hq⟩ | ⟨rfl, o, hk, hc, hd⟩ | ⟨rfl, hk⟩ | ⟨rfl, S, n, hk⟩
    · obtain ⟨its, _, pl, _⟩ := I.list hq
      refine ⟨pl.isList.typeIs, fun a e => ?_⟩
      cases e
      obtain ⟨o, n, e, c, hd, _⟩ := pl
      exact ⟨o, e, hd⟩
    · refine ⟨⟨o, I.kIn p o hk, hc⟩, fun a e => ?_⟩
      cases e
      exact ⟨o, I.kIn _ o hk, hd⟩
    · have z : ∃ o, s.heap.get? p = some o ∧ o.ExactDict := by
        rcases hk with ⟨kvs, hk⟩ | ⟨kvs, hk⟩
        · obtain ⟨_, _, _, _, o, _, _, e, ex, _⟩ := I.hok p _ hk
          exact ⟨o, e, ex⟩
        · obtain ⟨_, _, _, _, o, _, _, e, ex, _⟩ := I.hok p _ hk
          exact ⟨o, e, ex⟩
      obtain ⟨o, e, ex⟩ := z
      refine ⟨⟨o, e, ex.1⟩, fun a e2 => ?_⟩
      cases e2
      exact ⟨o, e, ex.2.1⟩
    · obtain ⟨o, _, _, _, e, ex, _⟩ := I.hok p _ hk
      refine ⟨⟨o, e, ex.1⟩, fun a e2 => ?_⟩
      cases e2
      exact ⟨o, e, ex.2.1⟩
  | _ => exact False.elim ty
def tBM0 (K : PySem.W.Frag) (T : String) (r : V → List V → Hp → VK → Prop) (to : TE) : TE := fun σ H Q => to σ H fun x H1 => tyV K T x H1 ∧ r x [] H1 Q
def tBM (K : PySem.W.Frag) (T : String) (r : V → List V → Hp → VK → Prop) (to : TE) (t : TA) : TE := fun σ H Q => to σ H fun x H1 => tyV K T x H1 ∧ t σ H1 fun xs H2 => r x xs H2 Q
variable {o e : Expr} {es : List Expr} {to : TE} {t : TA} {name : Str} {apos cpos : Pos} {T id : String} {r : V → List V → Hp → VK → Prop}
theorem pe_bm0 (pa : PlainAttrs T) (slot : Slot T name id) (hty : typeOf (.builtin id) = pure (.type "method_descriptor")) (hm : MtR X id r) (ho : PE X o to)
    (hbase : attributeBase o name X.env (eval o X.env) = eval o X.env := by rfl) (hline : (apos.endLine == cpos.line) = true := by rfl) : PE X (.Call (.Attribute o name apos) [] [] cpos) (tBM0 X.K T r to) := by
  intro pins s σ H Q I h
  refine wpAny_Call_method0_late hbase hline (thn (ho pins s σ H _ I h) fun v s1 ⟨x, H1, I1, r1, ty, q1⟩ => ?_)
  obtain ⟨h1, h2⟩ := tyV_is I1 r1 ty
  exact ⟨T, id, pa, slot, hty, h1, h2, Calls.callWith_builtin rfl (PySem.evalArgs_none (hm pins s1 σ H1 x [] v [] Q I1 r1 .nil q1))⟩
theorem pe_bm (pa : PlainAttrs T) (slot : Slot T name id) (hty : typeOf (.builtin id) = pure (.type "method_descriptor")) (hm : MtR X id r) (ho : PE X o to) (ha : PA X (e :: es) t)
    (hbase : attributeBase o name X.env (eval o X.env) = eval o X.env := by rfl)
    (hfew : ((backTo cpos (starEach (e :: es) X.env)).all (fun x => !x.1) && (backToKw cpos (keywordEach [] X.env)).all (fun x => x.1.isSome)
      && decide ((e :: es).length + ([] : List Keyword).length + (if ([] : List Keyword).isEmpty then 0 else 1) < 30)) = true := by rfl)
    (hline : (apos.endLine == cpos.line) = true := by rfl) (hs : starEach (e :: es) X.env = (false, eval e X.env) :: starEach es X.env := by rfl) (hplain : (backTo cpos (starEach es X.env)).any (·.1) = false := by rfl) :
    PE X (.Call (.Attribute o name apos) (e :: es) [] cpos) (tBM X.K T r to t) := by
  intro pins s σ H Q I h
  refine wpAny_Call_method_late hbase hfew hline rfl (thn (ho pins s σ H _ I h) fun v s1 ⟨x, H1, I1, r1, ty, q1⟩ => ?_)
  obtain ⟨h1, h2⟩ := tyV_is I1 r1 ty
  refine ⟨T, id, pa, slot, hty, h1, h2, ?_⟩
  have hA := ha cpos pins s1 σ H1 _ I1 q1
  rw [hs] at hA ⊢
  refine Calls.callWith_builtin (by show (false || (backTo cpos (starEach es X.env)).any (·.1)) = false; rw [hplain] <;> rfl) (Calls.evalArgs_plain ?_)
  exact thn hA fun us s2 ⟨vs, H2, I2, r2, q2⟩ => hm pins s2 σ H2 x vs v us Q I2 r1 r2 q2
end
end L2
namespace L2
open PySem PySem.Spec PyProof.Rows
def MtM (X : Cx) (id : String) (r : V → List V → Hp → VK → Prop) : Prop :=
  ∀ (pins : List (Addr × Obj)) (s : Shared) (σ : St) (H : Hp) (x : V) (xs : List V) (v : Value) (us : List Value) (Q : VK), Inv X pins σ H s → RelV x v → Vals xs us → r x xs H Q →
    wpAny (model X.prog X.w) X.A (call (.builtin id) (v :: us)) (EP X pins σ Q) X.xe s
theorem Vals.one : ∀ {x : V} {us : List Value}, Vals [x] us → ∃ u, us = [u] ∧ RelV x u
  | _, _, .cons r .nil => ⟨_, rfl, r⟩
theorem Vals.two : ∀ {x y : V} {us : List Value}, Vals [x, y] us → ∃ u v, us = [u, v] ∧ RelV x u ∧ RelV y v
  | _, _, _, .cons r (.cons q .nil) => ⟨_, _, rfl, r, q⟩
theorem Vals.zero : ∀ {us : List Value}, Vals [] us → us = []
  | _, .nil => rfl
theorem Vals.dropLast {xs : List V} {us : List Value} (h : Vals xs us) : Vals xs.dropLast us.dropLast := by
  induction h with
  | nil => exact .nil
  | cons r t ih =>
    cases t with
    | nil => exact .nil
    | cons q t' => exact .cons r ih
theorem erase_last {α : Type} (l : List α) : l.eraseIdx (l.length - 1) = l.dropLast := by
  induction l with
  | nil => rfl
  | cons a r ih =>
    cases r with
    | nil => rfl
    | cons b r =>
      have e : (a :: b :: r).length - 1 = ((b :: r).length - 1) + 1 := by
        have h1 : (a :: b :: r).length = r.length + 2 := rfl
        have h2 : (b :: r).length = r.length + 1 := rfl
        omega
      rw [e, List.eraseIdx_cons_succ, ih]
      all_goals rfl
section
variable {X : Cx} {pins : List (Addr × Obj)} {σ : St} {H : Hp} {s : Shared} {l b : Addr} {xs ys zs : List V}
theorem Inv.lset {its its' : List Value} {n : Nat} {f : Array Value → Array Value} {t' : Nat} (I : Inv X pins σ H s) (hH : H l = some (.lst xs))
    (e : s.heap.get? l = some { cls := .type "list", data := .seq its.toArray n }) (hf : f its.toArray = its'.toArray) (hv : Vals ys its') (hz : ys.length ≤ sizeLine) :
    Inv X pins σ (upd H l (.lst ys)) { s with heap := s.heap.update l (Obj.mapSeq f), toks := t' } := by
  have q := PySem.IsL.update e f
  rw [hf] at q
  refine I.write (x := l) (e := l) (by rw [hH]; exact trivial) (.inl rfl) (fun b' u hb hu => (Heap.get?_update_other s.heap (Obj.mapSeq f) (Ne.symm hb)).trans hu) ⟨_, q⟩ ?_
  exact ⟨hz, its', _, hv, q⟩
theorem Inv.lnew {its : List Value} {t' : Nat} (I : Inv X pins σ H s) (hv : Vals ys its) (hz : ys.length ≤ sizeLine) :
    Inv X pins σ (upd H s.heap.objs.size (.lst ys)) { s with heap := s.heap.push { cls := .type "list", data := .seq its.toArray }, toks := t' } :=
  I.laid (fun _ _ q => Heap.get?_push_of_some _ q) (Nat.le_refl _) ⟨hz, its, 0, hv, Heap.get?_push_size _ rfl⟩
theorem Inv.fresh (I : Inv X pins σ H s) : H s.heap.objs.size = none := I.hok.fresh (Nat.le_refl _)
theorem Inv.lstM (I : Inv X pins σ H s) (hH : H l = some (.lst xs)) : xs.length ≤ sizeLine ∧ ∃ (its : List Value) (n : Nat), Vals xs its ∧ xs.length = its.length ∧ s.heap.get? l = some { cls := .type "list", data := .seq its.toArray n } := by
  obtain ⟨z, its, n, r, e⟩ := I.hok l _ hH
  exact ⟨z, its, n, r, r.length, e⟩
theorem notLongL {n : Nat} (h : n ≤ sizeLine) : Builtin.List.listTooLong n = false := by
  unfold Builtin.List.listTooLong
  exact decide_eq_false (by omega)
end
section
variable {X : Cx}
def rAppend : V → List V → Hp → VK → Prop := fun x vs H Q => ∃ l xs y, x = .ref l ∧ vs = [y] ∧ H l = some (.lst xs) ∧ xs.length < sizeLine ∧ Q .non (upd H l (.lst (xs ++ [y])))
theorem mt_append : MtM X "list.append" rAppend := by
  intro pins s σ H x vs v us Q I rx rv h
  obtain ⟨l, xs, y, rfl, rfl, hH, hz, q⟩ := h
  cases rx
  obtain ⟨u, rfl, ru⟩ := rv.one
  obtain ⟨z, its, n, r, hl, e⟩ := I.lstM hH
  refine call_meets F.slot_list_append ⟨_, e, rfl⟩ F.entry_list_append (F.args_list_append_2 _ _) (PySem.list_append l its.toArray n u (by rw [List.size_toArray]; omega)) ⟨e, ?_⟩
  refine ⟨.non, _, I.lset (its' := its ++ [u]) hH e (by simp) (r.append (.cons ru .nil)) ?_, rfl, q⟩
  rw [List.length_append, List.length_singleton]
  omega
def rExtend : V → List V → Hp → VK → Prop := fun x vs H Q => ∃ l b xs zs, x = .ref l ∧ vs = [.ref b] ∧ H l = some (.lst xs) ∧ H b = some (.lst zs) ∧ xs.length + zs.length ≤ sizeLine ∧ Q .non (upd H l (.lst (xs ++ zs)))
def rPop : V → List V → Hp → VK → Prop := fun x vs H Q => ∃ l xs y, x = .ref l ∧ vs = [] ∧ H l = some (.lst xs) ∧ xs[xs.length - 1]? = some y ∧ Q y (upd H l (.lst xs.dropLast))
theorem mt_pop : MtM X "list.pop" rPop := by
  intro pins s σ H x vs v us Q I rx rv h
  obtain ⟨l, xs, y, rfl, rfl, hH, hy, q⟩ := h
  cases rx
  have hus := rv.zero
  subst hus
  obtain ⟨z, its, n, r, hl, e⟩ := I.lstM hH
  obtain ⟨u, hu, ru⟩ := r.get hy
  have hy' : its.toArray[its.toArray.size - 1]? = some u := by
    show its.toArray[its.length - 1]? = some u
    rw [← Array.getElem?_toList, ← hl]
    exact hu
  refine call_meets F.slot_list_pop ⟨_, e, rfl⟩ F.entry_list_pop (F.args_list_pop_1 _) (MeetsSeq.list_pop_last l its.toArray n u hy' (by rw [List.size_toArray]; omega)) ⟨e, ?_⟩
  refine ⟨y, _, I.lset (its' := its.dropLast) hH e ?_ r.dropLast ?_, ru, q⟩
  · show its.toArray.eraseIdxIfInBounds (its.toArray.size - 1) = its.dropLast.toArray
    rw [List.size_toArray, List.eraseIdxIfInBounds_toArray, erase_last]
  · rw [List.length_dropLast]
    omega
def rPopAt : V → List V → Hp → VK → Prop := fun x vs H Q => ∃ l xs i k y, x = .ref l ∧ vs = [.int i] ∧ H l = some (.lst xs) ∧ -(2 ^ 63) ≤ i ∧ i < 2 ^ 63 ∧ seqIndex? i xs.length = some k ∧ xs[k]? = some y ∧ Q y (upd H l (.lst (xs.eraseIdx k)))
def rReverse : V → List V → Hp → VK → Prop := fun x vs H Q => ∃ l xs, x = .ref l ∧ vs = [] ∧ H l = some (.lst xs) ∧ Q .non (upd H l (.lst xs.reverse))
def rClear : V → List V → Hp → VK → Prop := fun x vs H Q => ∃ l xs, x = .ref l ∧ vs = [] ∧ H l = some (.lst xs) ∧ Q .non (upd H l (.lst []))
def rCat : R2 := fun x y H Q => ∃ l b xs zs, x = .ref l ∧ y = .ref b ∧ H l = some (.lst xs) ∧ H b = some (.lst zs) ∧ xs.length + zs.length ≤ sizeLine ∧ ∀ p, H p = none → Q (.ref p) (upd H p (.lst (xs ++ zs)))
theorem op_cat : OpR X (binaryOp .Add) rCat := by
  intro pins s σ H x y v u Q I rx ry h
  obtain ⟨l, b, xs, zs, rfl, rfl, hH, hB, hz, q⟩ := h
  cases rx
  cases ry
  obtain ⟨z, its, n, r, hl, e⟩ := I.lstM hH
  obtain ⟨z2, its2, n2, r2, hl2, e2⟩ := I.lstM hB
  refine PySem.P.add_list e e2 ?_ (by rw [List.size_toArray, List.size_toArray]; omega)
  have ea : its.toArray ++ its2.toArray = (its ++ its2).toArray := by simp
  rw [ea]
  exact ⟨.ref _, _, I.lnew (t' := s.toks) (r.append r2) (by rw [List.length_append]; omega), rfl, q _ I.fresh⟩
def rRep : R2 := fun x y H Q => ∃ l k xs, x = .ref l ∧ y = .int k ∧ H l = some (.lst xs) ∧ -(2 ^ 63) ≤ k ∧ k < 2 ^ 63 ∧ xs.length * k.toNat ≤ sizeLine ∧
  ∀ p, H p = none → Q (.ref p) (upd H p (.lst (List.replicate k.toNat xs).flatten))
end
section
variable {prog : Program} {w : World} {A : Around} {E : Value → Shared → Prop} {s : Shared}
theorem splice_eq (its its2 : List Value) (a c : Nat) : its.toArray.extract 0 a ++ its2.toArray ++ its.toArray.extract c its.toArray.size = (its.take a ++ its2 ++ its.drop c).toArray := by
  apply Array.toList_inj.mp
  first
    | (simp
       exact List.take_of_length_le (by simp))
    | simp [List.take_of_length_le]
    | simp
theorem bounds_run {a c n : Nat} (hac : a ≤ c) (hc : c ≤ n) : sliceBounds (some (a : Int)) (some (c : Int)) none n = ((a : Int), (c : Int), 1) := by
  simp only [sliceBounds, Option.getD_none]
  have h1 : ¬ ((a : Int) < 0) := by omega
  have h2 : ¬ ((c : Int) < 0) := by omega
  simp only [h1, h2, if_false, show (1 : Int) > 0 by decide, if_true]
  congr 1
  · omega
  · congr 1; omega
set_option maxRecDepth 100000 in
theorem setItem_slice {l b sl : Addr} {items new : Array Value} {n n2 : Nat} {vl vu : Value} {a c : Nat} {Q : Unit → Shared → Prop}
    (e : s.heap.get? l = some { cls := .type "list", data := .seq items n }) (e2 : s.heap.get? b = some { cls := .type "list", data := .seq new n2 }) (hne : l ≠ b)
    (hs : s.heap.IsSliceOf sl vl vu .none) (pl : IsPart vl (some (a : Int))) (pu : IsPart vu (some (c : Int))) (hac : a ≤ c) (hc : c ≤ items.size)
    (hsz : items.size + new.size ≤ sizeLine) (h : Q () { s with heap := s.heap.update l (Obj.mapSeq fun xs => xs.extract 0 a ++ new ++ xs.extract c xs.size) }) :
    wpAny (model prog w) A (setItem (.ref l) (.ref sl) (.ref b)) Q E s := by
  have hl : s.heap.IsList l items := PySem.IsL.isList e
  have hb : s.heap.IsList b new := PySem.IsL.isList e2
  obtain ⟨os, hos, hcs, hds⟩ := id hs
  have hTs : s.TypeIs (.ref sl) "slice" := ⟨os, hos, hcs⟩
  have hstep : ¬ ((rawPart none == rawInt 0) = true) := Bool.false_ne_true
  have hsame : Builtin.List.listSameRef (.ref l) (.ref b) = false := by
    unfold Builtin.List.listSameRef
    exact beq_eq_false_iff_ne.mpr hne
  have hmax : (max (a : Int) (c : Int)).toNat = c := by omega
  have hz' : ((fun xs : Array Value => xs.extract 0 a ++ new ++ xs.extract c xs.size) items).size ≤ sizeLine + 1 := by
    simp only [Array.size_append, Array.size_extract]
    omega
  unfold setItem
  try with_reducible refine wpAny_holding ?_
  first | refine wpAny_bind (wpAny_pure ?_) | skip
  refine wpAny_bind (wpAny_sequenceKey hl.typeIs (by decide) ?_)
  refine wpAny_bind (wpAny_callSpecial?_slot (name := Str.ofString "__setitem__") hl.typeIs slot_list_setitem
    (wpAny_call_entry slot_list_setitem hl.typeIs entry_list_setitem ?_ (args_list_setitem _ _ _)))
  show wpAny _ _ (Builtin.List.listSubscript? (.ref sl) >>= _) _ _ s
  refine wpAny_bind ?_
  unfold Builtin.List.listSubscript?
  refine wpAny_bind (wpAny_specialOf hTs slice_no_index ?_)
  simp only [Option.isNone_none, if_true]
  refine wpAny_pure ?_
  show wpAny _ _ (typeOf (.ref sl) >>= _) _ _ s
  refine wpAny_bind (wpAny_typeOf hTs ?_)
  first
    | rw [if_neg (by decide)]
    | refine PySem.W.KFB.if_not (by decide) ?_
  rw [listSliceParts_eq]
  refine wpAny_bind (wpAny_bind (wpAny_field hos hds (x := .none) rfl (wpAny_bind (wpAny_listPart .none ?_))))
  rw [if_neg hstep]
  refine wpAny_bind (wpAny_field hos hds (x := vl) rfl (wpAny_bind (wpAny_listPart pl ?_)))
  refine wpAny_bind (wpAny_field hos hds (x := vu) rfl (wpAny_bind (wpAny_listPart pu (wpAny_pure ?_))))
  first
    | simp only [hsame, Bool.false_eq_true, if_false]
    | refine PySem.W.KFB.if_not hsame ?_
    | (dsimp only
       rw [if_neg (by rw [hsame]; exact Bool.false_ne_true)])
  refine wpAny_bind (m := Builtin.List.listAllItems (.ref b) "must assign iterable to extended slice") ?_
  unfold Builtin.List.listAllItems
  refine wpAny_bind (wpAny_typeOf hb.typeIs ?_)
  first
    | refine PySem.W.KFB.if_so (by decide) ?_
    | rw [if_pos (by decide)]
    | simp only [beq_self_eq_true, Bool.true_or, if_true]
  unfold Builtin.List.listItems
  refine wpAny_bind (wpAny_seqItems e2 rfl (wpAny_pure ?_))
  refine wpAny_bind (wpAny_bind (wpAny_seqItems e rfl (wpAny_pure ?_)))
  refine wpAny_bind (wpAny_of_eq ((sliceIndices_raw (some (a : Int)) (some (c : Int)) none items.size (by simp)).trans (congrArg (pure : Int × Int × Int → Sem (Int × Int × Int)) (bounds_run hac hc))) ?_)
  show wpAny _ _ (if ((1 : Int) == 1) = true then _ else _) _ _ s
  rw [if_pos (by decide)]
  refine wpAny_bind (wpAny_rule ?_)
  first
    | simp only [notLongL hsz, Bool.false_eq_true, if_false]
    | refine PySem.W.KFB.if_not (notLongL hsz) ?_
  first | refine wpAny_bind (wpAny_pure ?_) | skip
  show wpAny _ _ (updateSeq l (fun xs => xs.extract 0 ((a : Int)).toNat ++ new ++ xs.extract (max (a : Int) (c : Int)).toNat xs.size) >>= _) _ _ s
  rw [hmax, Int.toNat_natCast]
  refine wpAny_bind (wpAny_updateSeq (hz := Nat.le_trans (Nat.le_add_right _ _) hsz) (_hz' := hz') e rfl ?_)
  refine wpAny_bind (wpAny_letGo ?_)
  first
    | exact wpAny_bind (wpAny_pure (wpAny_pure ⟨.none, rfl, wpAny_pure h⟩))
    | exact wpAny_pure ⟨.none, rfl, wpAny_pure h⟩
end
section
variable {X : Cx}
theorem set_slice {pins : List (Addr × Obj)} {s : Shared} {σ : St} {H : Hp} {l b sl : Addr} {xs ys : List V} {a c : Int} {vl vu : Value} {Q : Unit → Shared → Prop} (I : Inv X pins σ H s)
    (hH : H l = some (.lst xs)) (hB : H b = some (.lst ys)) (hne : l ≠ b) (hs : s.heap.IsSliceOf sl vl vu .none) (ra : RelV (.int a) vl) (rc : RelV (.int c) vu) (h0 : 0 ≤ a) (hac : a ≤ c) (hc : c ≤ xs.length)
    (hz : xs.length + ys.length ≤ sizeLine) (h : ∀ s', Inv X pins σ (upd H l (.lst (xs.take a.toNat ++ ys ++ xs.drop c.toNat))) s' → Q () s') :
    wpAny (model X.prog X.w) X.A (setItem (.ref l) (.ref sl) (.ref b)) Q X.xe s := by
  obtain ⟨ta, rfl⟩ := ra
  obtain ⟨tc, rfl⟩ := rc
  obtain ⟨z, its, n, r, hl, e⟩ := I.lstM hH
  obtain ⟨z2, its2, n2, r2, hl2, e2⟩ := I.lstM hB
  obtain ⟨a', rfl⟩ := Int.eq_ofNat_of_zero_le h0
  obtain ⟨c', rfl⟩ := Int.eq_ofNat_of_zero_le (Int.le_trans h0 hac)
  simp only [Int.toNat_natCast] at h
  refine setItem_slice (a := a') (c := c') e e2 hne hs (.int _ _) (.int _ _) (by omega) (by rw [List.size_toArray]; omega) (by rw [List.size_toArray, List.size_toArray]; omega) (h _ ?_)
  refine I.lset (its' := its.take a' ++ its2 ++ its.drop c') (t' := s.toks) hH e ?_ (Vals.append (Vals.append (r.take _) r2) (r.drop _)) ?_
  · exact splice_eq its its2 a' c'
  · rw [List.length_append, List.length_append, List.length_take, List.length_drop]
    omega
end
end L2
namespace Att
open PySem PySem.W PySem.Calls PyProof.Rows
theorem ints_of_wellAll {P : Params} {h : Heap} : ∀ (ns : List Int) (vs : List Value), WellAll P h vs (ns.map WData.int) → IntsAre vs ns := by
  intro ns
  induction ns with
  | nil =>
    intro vs w
    rw [List.map_nil] at w
    cases w
    exact .nil
  | cons n ns ih =>
    intro vs w
    rw [List.map_cons] at w
    cases w with
    | cons a b =>
      cases a
      exact .cons _ _ (ih _ b)
theorem script_of {l : OpenLaw} {n : Nat} (hn : l.most = some n) {P : Params} {h : Heap} {args : List WData} {vals : List Value}
    (hpre : l.row.toRowW.claim.pre args = true) (hwl : WellAll P h vals args) :
    ∃ a vs ns, vals = [Value.ref a] ∧ args = [WData.list (ns.map WData.int)] ∧ h.get? a = some { cls := .type "list", data := .seq vs.toArray } ∧ IntsAre vs ns ∧ ns.length ≤ n := by
  have hsh : WShape.hasAll [] args [.list .int] = true := (pre_splitW hpre).1
  have hc : l.pre.holds [] { args := args } = true := (pre_splitW hpre).2
  obtain ⟨d, r, rfl, h1, h2⟩ := hasAllW_cons hsh
  obtain rfl := hasAllW_nil h2
  obtain ⟨xs, rfl, h3⟩ := hasW_list h1
  obtain ⟨ns, rfl⟩ := items_int h3
  have hlen : ns.length ≤ n := by
    unfold OpenLaw.pre at hc
    have h4 : (WTm.not (.lt (.lit (.int (n : Int))) (.len (.arg 0)))).holds [] { args := [.list (ns.map .int)] } = true := by
      have h4 := (holds_andW hc).1
      rw [hn] at h4
      exact h4
    have h5 := condW_of h4 (w_not (w_lt w_lit (w_len_list (w_arg rfl))))
    rw [List.length_map] at h5
    refine Nat.le_of_not_lt fun q => ?_
    have q' : (n : Int) < ((ns.length : Nat) : Int) := by omega
    first
      | (rw [decide_eq_true q'] at h5; exact absurd h5 (by decide))
      | (simp at h5; omega)
  cases hwl with
  | cons w1 w2 =>
    cases w2
    cases w1 with
    | list ho hall => exact ⟨_, _, ns, rfl, rfl, ho, ints_of_wellAll ns _ hall, hlen⟩
theorem post_true (l : OpenLaw) (args : List WData) : l.row.toRowW.claim.post args (.bool true) args = true :=
  postW_of (r := l.row.toRowW) (X := (true == true))
    (show WShape.has [] (.bool true) .bool = true by first | rfl | decide | simp [WShape.has, WShape.arms, WShape.armsAll])
    (show (WTm.eq .res (.lit (.bool true))).value [] { args := args, res := some (.bool true), after := args } = some (.bool (true == true)) from w_eq_bool (w_res rfl) w_lit) rfl
theorem attach_call {l : OpenLaw} {n : Nat} {q : Program} {loose : List Str} {XP : (Str → Option Value) → Heap → Prop} {YP : World → Heap → Prop} {d : DefRec}
    (hn : l.most = some n) (hdf : d.params.defaults = [])
    (call : ∀ (w : World) (s₀ s₁ : Shared) (mg mb : Str → Option Value) (fa : Addr) (o : Obj) (pm cd doc : Value) (a : Addr) (vs : List Value) (ns : List Int),
      Ground q loose [] XP w s₀ mg mb s₁.heap → YP w s₁.heap →
      s₁.heap.get? fa = some o → o.data = .func (docDef d.name d.params d.body d.scope pm cd doc) → s₁.heap.CodeRec cd d.name → mg d.name = some (.ref fa) →
      s₁.heap.get? a = some { cls := .type "list", data := .seq vs.toArray } → IntsAre vs ns → ns.length ≤ n → s₁.gens = #[] →
      codeAny (model l.prog w) callerA (.call (.ref fa) ⟨[.ref a], []⟩) (fun r s' => r = .ok (.ret (.bool true)) ∧ OldK s₁.heap s'.heap ∧ s'.os = s₁.os ∧ AllBare s'.gens) s₁) :
    WalkO q loose XP YP l.row.toRowW d [] (fun f vs => PySem.call f vs) := by
  intro w s₀ s₁ mg mb G Y fa o pm cd doc dV kV ho hd hcd hD hmg hg args vals as hpre hlay hrd hwl hlo
  obtain rfl : dV = .none := Dflts.none hD hdf
  obtain rfl : kV = .none := Dflts.noKw hD
  obtain ⟨a, vs, ns, rfl, rfl, hobj, hints, hlen⟩ := script_of hn hpre hwl
  refine enter_call (codeAny_mono (call w s₀ s₁ mg mb fa o pm cd doc a vs ns G Y ho (fd_plain hd) hcd hmg hobj hints hlen hg) fun r s' hq => ?_)
  obtain ⟨rfl, h2, h3, h4⟩ := hq
  exact ⟨.inl ⟨.bool true, .bool true, [], rfl, fun _ => rfl, .bool true, post_true l _, fun _ => ⟨List.Pairwise.nil, fun _ hm => (nomatch hm)⟩⟩, h2, h3, h4⟩
section
variable {prog : Program} {w : World} {A : Around} {E : Value → Shared → Prop} {s : Shared} {K : Frag}
def noObjs (h : Heap) : Heap := { h with objs := #[] }
def ledger (h : Heap) (L d : Addr) : List (Addr × Obj) := (List.range h.objs.size).filterMap fun a => if a = L ∨ a = d then none else (h.get? a).map fun o => (a, o)
end
end Att
namespace L2
open PySem PySem.Spec PyProof.Rows
theorem vals_ints : ∀ {vs : List Value} {ns : List Int}, IntsAre vs ns → Vals (ns.map V.int) vs
  | _, _, .nil => .nil
  | _, _, .cons n t h => .cons ⟨t, rfl⟩ (vals_ints h)
def Only (H : Hp) : Prop := ∀ b, H b = none ∨ ∃ o xs, H b = some (.frz o (.lst xs))
theorem law_call {P : Program} {w : World} {K : PySem.W.Frag} {mg mb : Str → Option Value} {CX : CXT} {k : Nat} {fa a : Addr} {fd : FuncData} {x : Str} {sp : Sp} {s₁ : Shared} {vs : List Value} {ns : List Int}
    (KX : K.In s₁.heap) (hns : s₁.heap.Ns mainGlobals mg) (hb : s₁.heap.Ns builtinsNs mb) (hbb : ∀ x : Str, x ≠ "__name__" → mb x = bootBuiltins x) (hlim : s₁.heap.NoLimit) (hg : s₁.gens = #[])
    (ha : s₁.heap.get? a = some { cls := .type "list", data := .seq vs.toArray }) (hi : IntsAre vs ns) (hl : ns.length ≤ sizeLine) (hr : Room k callerA)
    (F : ∀ base : Heap, K.In base → base.Ns mainGlobals mg → FnOk P w K mg base CX k fa fd [x] sp) (hbind : ∀ (s : Shared) (u : Value), BindsTo s fd ⟨[u], []⟩ [(x, u)])
    (hsp : ∀ H : Hp, Only H → SqL K H a (ns.map V.int) → sp [.ref a] H (fun v _ => v = .bl true) fun _ _ _ => False)
    (hCX : ∀ H e s', CX [] H s₁ (fun _ _ _ => False) e s' → False) :
    codeAny (model P w) callerA (.call (.ref fa) ⟨[.ref a], []⟩) (fun r s' => r = .ok (.ret (.bool true)) ∧ OldK s₁.heap s'.heap ∧ s'.os = s₁.os ∧ AllBare s'.gens) s₁ := by
  have rv := vals_ints hi
  have lenV := hi.length
  have core : ∀ H : Hp, Only H → SqL K H a (ns.map V.int) → HOk P w H s₁.heap → (∀ b, H b ≠ none → b = a) → (H a ≠ none → K.lookup a = none) →
      codeAny (model P w) callerA (.call (.ref fa) ⟨[.ref a], []⟩) (fun r s' => r = .ok (.ret (.bool true)) ∧ OldK s₁.heap s'.heap ∧ s'.os = s₁.os ∧ AllBare s'.gens) s₁ := by
    intro H hO hS hok hA hK
    have base_of : ∀ {b : Addr} {o : Obj}, s₁.heap.get? b = some o → H b = none → (hidT s₁.heap H).get? b = some o := fun e n => hidT_get e n
    have noA : ∀ {b : Addr} {o : Obj} {es : Array DictEntry} {ep : Nat}, s₁.heap.get? b = some o → o.data = .dict es ep → H b = none := fun {b o es ep} e d => by
      cases q : H b with
      | none => rfl
      | some u =>
        have e' : b = a := hA b (by rw [q]; simp)
        subst e'
        rw [ha] at e; cases e
        have d' : Data.seq vs.toArray _ = Data.dict es ep := d
        cases d'
    have nsK : ∀ {b : Addr} {m : Str → Option Value}, s₁.heap.Ns b m → (hidT s₁.heap H).Ns b m := fun {b m} ⟨o, es, ep, e, d, r⟩ => ⟨o, es, ep, base_of e (noA e d), d, r⟩
    have hKb : K.In (hidT s₁.heap H) := fun b o e => base_of (KX b o e) (by
      cases q : H b with
      | none => rfl
      | some u =>
        have e' : b = a := hA b (by rw [q]; simp)
        subst e'
        rw [hK (by rw [q]; simp)] at e; cases e)
    have hM : Mod K mg (hidT s₁.heap H) := ⟨hKb, nsK hns, ⟨mb, nsK hb, hbb⟩, let ⟨mc, h1, h2⟩ := hlim; ⟨mc, nsK h1, h2⟩⟩
    have e0 : Env0 P w K mg (hidT s₁.heap H) callerA [] s₁ H := ⟨rfl, hM, fun b o e => of_hidT e, Nat.le_of_eq (hidT_size _ _), trivial, fun b hb => absurd (show b ∈ ([] : List Addr) from hb) (by simp), hok, .of_eq hg⟩
    refine codeAny_mono ((F _ hKb (nsK hns)).run callerA [] s₁ H ⟨[.ref a], []⟩ [.ref a] [.ref a] _ _ hr e0 (hbind s₁ (.ref a)) (.cons rfl .nil) (hsp H hO hS)) fun r s' h => ?_
    cases r with
    | error e => exact (hCX H e s' h).elim
    | ok fl =>
      cases fl with
      | next => exact False.elim h
      | brk => exact False.elim h
      | cont => exact False.elim h
      | ret u =>
        obtain ⟨v, H', os, bare, un, hok', r', q⟩ := h
        have q' : v = .bl true := q
        subst q'
        obtain rfl : u = Value.bool true := r'
        refine ⟨rfl, OldK.of_keep fun b o e => ?_, os, bare⟩
        cases q : H b with
        | none => exact un.keep b o e q (by intro z; exact absurd (show b ∈ ([] : List Addr) from z) (by simp)) (by simp)
        | some u =>
          rcases hO b with z | ⟨ob, xs, z⟩
          · rw [q] at z; cases z
          · have z2 := un.frzs b ob _ z
            obtain ⟨e1, _⟩ := hok b _ z
            obtain ⟨e2, _⟩ := hok' b _ z2
            rw [e] at e1; cases e1
            exact e2
  cases hk : K.lookup a with
  | some o =>
    have e := KX a o hk
    rw [ha] at e
    cases e
    refine core (fun _ => none) (fun _ => .inl rfl) (.inr ⟨_, vs.toArray, _, hk, rfl, rfl, rfl, by rw [List.size_toArray, lenV]; exact hl, by simpa using rv⟩) (fun b u z => by have z' : (none : Option HO) = some u := z; cases z') (fun b z => absurd rfl z) fun z => absurd rfl z
  | none =>
    refine core (fun b => if b = a then some (.frz { cls := .type "list", data := .seq vs.toArray } (.lst (ns.map V.int))) else none) (fun b => ?_) (.inl (.inr ⟨{ cls := .type "list", data := .seq vs.toArray }, if_pos rfl⟩)) (fun b u z => ?_) (fun b z => ?_) fun _ => hk
    · by_cases hb : b = a
      · exact .inr ⟨_, _, if_pos hb⟩
      · exact .inl (if_neg hb)
    · by_cases hb : b = a
      · have z' := (if_pos hb).symm.trans z
        cases z'
        subst hb
        exact ⟨ha, by rw [List.length_map]; exact hl, vs, _, rv, ha⟩
      · have z' := (if_neg hb).symm.trans z
        cases z'
    · by_cases hb : b = a
      · exact hb
      · exact absurd (if_neg hb) z
end L2
namespace L2
open PySem PySem.Spec PyProof.Rows
abbrev KOf {K : PySem.W.Frag} {h : Heap} (_ : K.In h) : PySem.W.Frag := K
theorem walk_of {l : PySem.W.OpenLaw} {n k : Nat} {q : Program} {loose : List Str} {XP : (Str → Option Value) → Heap → Prop} {YP : World → Heap → Prop} {d : DefRec} {K : Params → PySem.W.Frag} {CX : World → CXT} {sp : World → Sp} {x : Str}
    (hn : l.most = some n) (hn2 : n ≤ sizeLine) (hdf : d.params.defaults = []) (hr : Room k callerA)
    (hY : ∀ (w : World) (h : Heap), YP w h → (K w.params).In h)
    (F : ∀ (w : World) (mg : Str → Option Value) (fa : Addr) (h : Heap), (K w.params).In h → h.Ns mainGlobals mg → mg d.name = some (.ref fa) →
      ∃ fd : FuncData, (∀ (s : Shared) (u : Value), BindsTo s fd ⟨[u], []⟩ [(x, u)]) ∧
        ∀ base : Heap, (K w.params).In base → base.Ns mainGlobals mg → FnOk l.prog w (K w.params) mg base (CX w) k fa fd [x] (sp w))
    (hsp : ∀ (w : World) (H : Hp) (a : Addr) (ns : List Int), ns.length ≤ n → Only H → SqL (K w.params) H a (ns.map V.int) → sp w [.ref a] H (fun v _ => v = .bl true) fun _ _ _ => False)
    (hCX : ∀ (w : World) (H : Hp) (s : Shared) (e : Value) (s' : Shared), CX w [] H s (fun _ _ _ => False) e s' → False) :
    PySem.W.WalkO q loose XP YP l.row.toRowW d [] (fun f vs => PySem.call f vs) := by
  refine Att.attach_call hn hdf fun w s₀ s₁ mg mb fa o pm cd doc a vs ns G Y ho hd hcd hmg hobj hints hlen hg => ?_
  have KX := hY w _ Y
  obtain ⟨fd, hb, hF⟩ := F w mg fa _ KX G.T.g hmg
  exact law_call KX G.T.g G.T.b G.T.builtins G.T.nolimit hg hobj hints (Nat.le_trans hlen hn2) hr hF hb (fun H hO hS => hsp w H a ns hlen hO hS) fun H e s' => hCX w H s₁ e s'
end L2
namespace L2
open PySem PySem.Spec PyProof.Rows
def inClass (s : Stmt) (j : Nat) : Stmt := match s with
  | .ClassDef _ _ _ body _ _ _ _ _ _ _ => body.getD j (.Pass ⟨0, 0, 0, 0⟩)
  | _ => .Pass ⟨0, 0, 0, 0⟩
def defArgs (s : Stmt) : Arguments := match s with
  | .FunctionDef _ a _ _ _ _ _ _ _ _ => a
  | _ => { posonlyargs := [], args := [], vararg := none, kwonlyargs := [], kw_defaults := [], kwarg := none, defaults := [] }
def defBody (s : Stmt) : List Stmt := match s with
  | .FunctionDef _ _ b _ _ _ _ _ _ _ => b
  | _ => []
def defScope (s : Stmt) : Scope := match s with
  | .FunctionDef _ _ _ _ _ _ sc _ _ _ => sc
  | _ => { kind := .function, names := [], isGenerator := false, isCoroutine := false }
abbrev CX0 : CXT := fun _ _ _ _ _ _ => False
abbrev E0 : XK := fun _ _ _ => False
theorem pass0 {X : Cx} : Passes CX0 X E0 := fun _ _ _ _ _ _ _ h => h.elim
structure Fun (K : PySem.W.Frag) (x qual : Str) (st : Stmt) (f : Addr) (fd : FuncData) : Prop where
  ex : ∃ (oc : Value) (od : Option Addr) (kV doc pm : Value) (an : Option Addr) (cdv ct : Value) (osl : Array (Option Value)),
    fd = PySem.W.fnOf x qual (defArgs st) (defBody st) (defScope st) .none kV doc pm an cdv ct ∧ K.lookup f = some ⟨oc, od, .func fd, osl⟩ ∧ PySem.W.codeIn K cdv qual = true
  kp : PySem.W.keepIn K (.ref f) = true
section
variable {P : Program} {w : World} {K : PySem.W.Frag} {mg : Str → Option Value} {base : Heap}
theorem Fun.ok {x qual : Str} {st : Stmt} {f : Addr} {fd : FuncData} {N ps : List Str} {k : Nat} {sp : Sp} (F : Fun K x qual st f fd) (S : FnScope N ps (defScope st)) (len : ∀ vs H Q E, sp vs H Q E → vs.length = ps.length)
    (hbody : ∀ (cdv : Value) (A : Around) (outer : List Env) (s : Shared) (H : Hp) (vs : List V) (Q : VK) (E : XK), Room k (A.deeper (envOfC qual (defScope st) s.heap.objs.size f cdv)) → sp vs H Q E →
      ∃ t, PSs (cxOf CX0 P w K mg base N qual (defScope st) f cdv A outer s H E).nox (defBody st) t ∧ t { nx := fun _ H' => Q .non H', rt := Q } (start N vs) H) : FnOk P w K mg base CX0 (k + 1) f fd ps sp := by
  obtain ⟨oc, od, kV, doc, pm, an, cdv, ct, osl, rfl, lk, hcd⟩ := F.ex
  refine fn_of lk hcd S len fun A outer s H vs Q E hr hsp => ?_
  obtain ⟨t, h, q⟩ := hbody cdv A outer s H vs Q E hr hsp
  exact ⟨t, h.nox, q⟩
theorem Fun.binds {x qual : Str} {st : Stmt} {f : Addr} {fd : FuncData} {ps : List Str} (F : Fun K x qual st f fd)
    (h : ∀ (kV doc pm : Value) (an : Option Addr) (cdv ct : Value) (us : List Value), us.length = ps.length → bindArgs (PySem.W.fnOf x qual (defArgs st) (defBody st) (defScope st) .none kV doc pm an cdv ct) ⟨us, []⟩ = pure (ps.zip us)) : Binds K fd ps [] := by
  obtain ⟨oc, od, kV, doc, pm, an, cdv, ct, osl, rfl, lk, hcd⟩ := F.ex
  exact .all (h kV doc pm an cdv ct)
theorem fun_mk {x qual : Str} {st : Stmt} {f : Addr} {oc : Value} {od an : Option Addr} {osl : Array (Option Value)} {kV doc pm cdv ct : Value} (l : K.lookup f = some ⟨oc, od, .func (PySem.W.fnOf x qual (defArgs st) (defBody st) (defScope st) .none kV doc pm an cdv ct), osl⟩)
    (c : PySem.W.codeIn K cdv qual = true) (k : PySem.W.keepIn K (.ref f) = true) : Fun K x qual st f (PySem.W.fnOf x qual (defArgs st) (defBody st) (defScope st) .none kV doc pm an cdv ct) := ⟨⟨oc, od, kV, doc, pm, an, cdv, ct, osl, rfl, l, c⟩, k⟩
end
theorem small1000 {n : Nat} (h : n ≤ 1000) : n < sizeLine := Nat.lt_of_le_of_lt h (by decide)
section
variable {X : Cx}
theorem pv (i : Nat) {x : Str} {pos : Pos} (hN : X.N[i]? = some x := by rfl) (hv : Vis X.env.scope x := by first | exact Or.inl rfl | exact Or.inr (Or.inl rfl) | exact Or.inr (Or.inr rfl)) (hd : (x == ("__debug__" : Str)) = false := by decide)
    (hcd : (x == ("__classdict__" : Str)) = false := by decide) : PE X (.Name x pos) (tVar i) := pe_var hN hv hd hcd
end
theorem iteF {A B : Prop} (h : B) : if false = true then A else B := by
  rw [if_neg Bool.false_ne_true]
  exact h
theorem iteT {A B : Prop} (h : A) : if true = true then A else B := by
  rw [if_pos rfl]
  exact h
theorem ite2 {c A B : Prop} [Decidable c] (h1 : c → A) (h2 : ¬ c → B) : if c then A else B := by
  by_cases h : c
  · rw [if_pos h]
    exact h1 h
  · rw [if_neg h]
    exact h2 h
theorem iteNS {c A B : Prop} [Decidable c] (hc : c) (h : B) : if (!decide c) = true then A else B := by
  rw [decide_eq_true hc]
  exact iteF h
def Same (H H' : Hp) : Prop := ∀ b o, H b = some o → H' b = some o
theorem Same.refl (H : Hp) : Same H H := fun _ _ h => h
theorem Same.trans {H H1 H2 : Hp} (a : Same H H1) (b : Same H1 H2) : Same H H2 := fun c o h => b c o (a c o h)
theorem Same.free {H H' : Hp} (e : Same H H') {l : Addr} (h : H' l = Option.none) : H l = Option.none := by
  cases q : H l with
  | none => rfl
  | some o =>
    rw [e l o q] at h
    cases h
theorem Same.seq {K : PySem.W.Frag} {H H' : Hp} {a : Addr} {xs : List V} (e : Same H H') (h : SqL K H a xs) : SqL K H' a xs := by
  rcases h with (h | ⟨o, h⟩) | h
  · exact .inl (.inl (e _ _ h))
  · exact .inl (.inr ⟨o, e _ _ h⟩)
  · exact .inr h
end L2
set_option Elab.async false
set_option linter.all false
set_option maxRecDepth 100000
namespace L2
open PySem PySem.Spec PyProof.Rows
def clOf (cells : List (Str × Addr)) : List (Str × NameKind) → List (Str × Addr) → List (Str × Addr)
  | [], acc => acc
  | (n, k) :: r, acc => if k == .free then clOf cells r ((n, (cells.lookup n).getD 0) :: acc) else clOf cells r acc
structure CompSc (N N' : List Str) (o c : Scope) : Prop where
  kind : c.kind = .function
  okind : o.kind = .function
  nocell : ∀ y ∈ c.names, y.2 ≠ .cell
  loc : ∀ y ∈ c.names, y.2 = .local → c.names.lookup y.1 = some .local
  free : ∀ y ∈ c.names, y.2 = .free → c.names.lookup y.1 = some .free ∧ (o.names.lookup y.1 = some .cell ∨ o.names.lookup y.1 = some .free)
  len : N.length ≤ N'.length
  same : ∀ i ∈ List.range N.length, ∀ x ∈ N'[i]?, c.names.lookup x = some .local ∨ c.names.lookup x = some .free → c.names.lookup x = some .free ∧ N[i]? = some x
  nd : N'.Nodup
def compCx (X : Cx) (c : Scope) (N' : List Str) (C : Addr) (s : Shared) (H : Hp) (fp : List Addr) : Cx :=
  { X with N := N', s₀ := s, H₀ := H, env := compEnvC c (clOf X.env.cells c.names []) C X.env, outer := X.stack, stack := X.stack, ex := fp, fn := fun _ => false, pn := [], xe := fun _ _ => False }
section
variable {X : Cx} {N N' : List Str} {o c : Scope}
end
end L2
set_option Elab.async false
set_option linter.all false
set_option maxRecDepth 100000
namespace L2
open PySem PySem.Spec PyProof.Rows
abbrev testsOf (ifs : List Expr) (env : Env) : Sem Bool :=
  forIn ifs true fun k r => if r = true then do let ok ← isTrue k env (eval k env); pure (ForInStep.yield ok) else pure (ForInStep.yield r)
def PTs (X : Cx) (ifs : List Expr) (t : TT) : Prop :=
  ∀ (pins : List (Addr × Obj)) (s : Shared) (σ : St) (H : Hp) (Q : Bool → Hp → Prop), Inv X pins σ H s → t σ H Q → wpAny (model X.prog X.w) X.A (testsOf ifs X.env) (TP X pins σ Q) X.xe s
def tYes : TT := fun _ H Q => Q true H
section
variable {prog : Program} {w : World} {A : Around} {R : Result → Shared → Prop} {s : Shared}
end
def CompGo (J : It) (D : Addr) (k : Nat) (σ : St) (H1 : Hp) (g : TG) (tc : TT) (te : TE) (Q : VK) : Prop :=
  ∃ W : Nat → Nat → List V → St → Hp → Prop, (∃ m, W 0 m [] (σ ++ List.replicate k none) (upd H1 D (.lst []))) ∧
    ∀ i m ys σ2 H2, W i m ys σ2 H2 → (J.stop i H2 ∧ Q (.ref D) H2) ∨
      (J.go i H2 ∧ ∃ N : List V → St → Hp → Prop, (∀ ys' σ' H', N ys' σ' H' → ∃ m', m' < m ∧ W (i + 1) m' ys' σ' H') ∧ ∀ x H3, J.yld i H2 x H3 → g x σ2 H3 fun σ4 H4 => tc σ4 H4 fun b H5 =>
        if b = true then te σ4 H5 fun y H6 => H6 D = some (.lst ys) ∧ ys.length < sizeLine ∧ N (ys ++ [y]) σ4 (upd H6 D (.lst (ys ++ [y]))) else N ys σ4 H5)
def tComp (n : Nat) (wi : TI) (g : TG) (tc : TT) (te : TE) : TE := fun σ H Q => wi σ H fun J H1 => ∀ D, H1 D = none → CompGo J D n σ H1 g tc te Q
section
variable {X : Cx} {N N' : List Str} {o c : Scope}
end
end L2
set_option Elab.async false
set_option linter.all false
set_option maxRecDepth 100000
namespace L2
open PySem PySem.Spec PyProof.Rows
section
variable {X : Cx}
def rIsi (K : PySem.W.Frag) : List V → Hp → VK → Prop := fun xs H Q => ∃ x c t b, xs = [x, .ty c] ∧ TyOf K H x t ∧ PySem.W.kitOne K t (.type c) = some b ∧ Q (.bl b) H
theorem call_isi : CallR X (.builtin "isinstance") (rIsi X.K) := by
  intro pins s σ H xs us Q I r h
  obtain ⟨x, c, t, b, rfl, ty, e, q⟩ := h
  obtain ⟨u, w', rfl, rx, rc⟩ := vals2 r
  cases rc
  exact isinst_ok I rx ty e fun tk => ⟨.bl b, H, I.tok _, rfl, q⟩
def rIsiT (K : PySem.W.Frag) : List V → Hp → VK → Prop := fun xs H Q => ∃ (x : V) (tp : Addr) (cs : List String) (t : Value) (b : Bool), xs = [x, .ref tp] ∧ H tp = some (.tup (cs.map V.ty)) ∧ TyOf K H x t ∧ PySem.W.kitAny K t (cs.map Value.type) = some b ∧ Q (.bl b) H
theorem call_sortedI : CallR X (.builtin "sorted") (fun xs H Q => ∃ (p : Addr) (ns : List Int), xs = [.ref p] ∧ SqL X.K H p (ns.map V.int) ∧ ns.length < 64 ∧
    ∀ (l : Addr) (ns' : List Int), H l = none → ns'.Perm ns → ns'.Pairwise (· ≤ ·) → Q (.ref l) (upd H l (.lst (ns'.map V.int)))) := by
  intro pins s σ H xs us Q I r h
  obtain ⟨p, ns, rfl, hq, h64, q⟩ := h
  obtain ⟨u, rfl, rx⟩ := vals1 r
  cases rx
  obtain ⟨its, rv, pl, hz⟩ := I.list hq
  have hlen := rv.length
  rw [List.length_map] at hlen hz
  refine sorted_ints pl.isList (intsAre_of rv) (by omega) fun out ns' a1 a2 a3 => ?_
  obtain ⟨e, he⟩ := sortedAll_at s.heap its out
  have hp := a2.length_eq
  refine ⟨.ref (s.heap.objs.size + 1), _, I.laid (t' := s.toks) (o := .lst (ns'.map V.int)) (fun _ _ => sortedAll_old) (Nat.le_succ _) ⟨by rw [List.length_map]; omega, out.toList, e, vals_ints a1, by simpa using he⟩, rfl, q _ ns' (I.hok.fresh (Nat.le_succ _)) a2 a3⟩
def rSlS : V → Option Int → Option Int → Hp → VK → Prop := fun x lo hi H Q => ∃ z, x = .str z ∧ z.length ≤ sizeLine ∧ Q (.str (Txt.slice z lo hi)) H
end
end L2
set_option Elab.async false
set_option linter.all false
set_option maxRecDepth 100000
namespace L2
open PySem PySem.Spec PyProof.Rows
inductive Src where
  | l (a : Addr) | t (a : Addr) | s (z : Str)
def Src.val : Src → V
  | .l a => .ref a
  | .t a => .ref a
  | .s z => .str z
def oneSign (c : Nat) : V := .str ⟨#[c]⟩
def Src.its (K : PySem.W.Frag) (H : Hp) : Src → List V → Prop
  | .l a, xs => SqL K H a xs
  | .t a, xs => SqT K H a xs
  | .s z, xs => xs = z.cps.toList.map oneSign
def Src.at (h : Heap) (i : Addr) : Src → Nat → Prop
  | .l a, k => h.IsListIter i a k
  | .t a, k => h.IsTupleIter i a k
  | .s z, k => ∃ tk, h.IsStrIter i (strIterType z) z tk k
def Src.raw (h : Heap) : Src → List Value → Prop
  | .l a, us => h.IsList a us.toArray
  | .t a, us => h.IsTuple a us.toArray
  | .s _, _ => True
def Src.fit : Src → List Value → Nat → Value → Prop
  | .l _, us, k, u => us[k]? = some u
  | .t _, us, k, u => us[k]? = some u
  | .s z, _, k, u => ∃ c tk, z.cps[k]? = some c ∧ u = .str ⟨#[c]⟩ tk
def Src.many : Src → List Value → Nat
  | .l _, us => us.length
  | .t _, us => us.length
  | .s z, _ => z.cps.size
def Src.off : Src → Addr → Prop
  | .l a, b => a ≠ b
  | .t a, b => a ≠ b
  | .s _, _ => True
section
variable {prog : Program} {w : World} {A : Around} {E : Value → Shared → Prop} {s : Shared}
structure ZipOff (z TI TO i1 i2 : Addr) (S1 S2 : Src) : Prop where
  TIz : TI ≠ z
  TOz : TO ≠ z
  i1z : i1 ≠ z
  i2z : i2 ≠ z
  TITO : TI ≠ TO
  TIi1 : TI ≠ i1
  TIi2 : TI ≠ i2
  TOi1 : TO ≠ i1
  TOi2 : TO ≠ i2
  i12 : i1 ≠ i2
  s1z : S1.off z
  s1TO : S1.off TO
  s1i1 : S1.off i1
  s1i2 : S1.off i2
  s2z : S2.off z
  s2TO : S2.off TO
  s2i1 : S2.off i1
  s2i2 : S2.off i2
end
end L2
set_option Elab.async false
set_option linter.all false
set_option maxRecDepth 100000
namespace L2
open PySem PySem.Spec PyProof.Rows
def Src.iter (tk : Tok) : Src → Obj
  | .l a => { cls := .type "list_iterator", data := .fields #[.ref a, .int 0 0] }
  | .t a => { cls := .type "tuple_iterator", data := .fields #[.ref a, .int 0 0] }
  | .s z => { cls := .type (strIterType z), data := .fields #[.str z tk, .int 0 0] }
def Src.value (tk : Tok) : Src → Value
  | .l a => .ref a
  | .t a => .ref a
  | .s z => .str z tk
abbrev zH1 (h : Heap) (S1 : Src) (t1 : Tok) : Heap := h.push (S1.iter t1)
abbrev zH2 (h : Heap) (S1 S2 : Src) (t1 t2 : Tok) : Heap := (zH1 h S1 t1).push (S2.iter t2)
abbrev zH3 (h : Heap) (S1 S2 : Src) (t1 t2 : Tok) : Heap := (zH2 h S1 S2 t1 t2).push { cls := .type "tuple", data := .seq #[.ref h.objs.size, .ref (zH1 h S1 t1).objs.size] }
abbrev zH4 (h : Heap) (S1 S2 : Src) (t1 t2 : Tok) : Heap := (zH3 h S1 S2 t1 t2).push { cls := .type "tuple", data := .seq #[.none, .none] }
abbrev zH5 (h : Heap) (S1 S2 : Src) (t1 t2 : Tok) : Heap := (zH4 h S1 S2 t1 t2).push { cls := .type "zip", data := .fields #[.none, .bool false, .bool false, .ref (zH2 h S1 S2 t1 t2).objs.size, .ref (zH3 h S1 S2 t1 t2).objs.size] }
section
variable {prog : Program} {w : World} {A : Around} {E : Value → Shared → Prop} {s : Shared}
end
def Itz (K : PySem.W.Frag) (S1 S2 : Src) : It :=
  ⟨fun i H => ∃ xs ys, S1.its K H xs ∧ S2.its K H ys ∧ i < xs.length ∧ i < ys.length,
   fun i H v H' => ∃ p, H p = none ∧ v = .ref p ∧ ∀ xs ys, S1.its K H xs → S2.its K H ys → ∀ x y, xs[i]? = some x → ys[i]? = some y → H' = upd H p (.tup [x, y]),
   fun i H => ∃ xs ys, S1.its K H xs ∧ S2.its K H ys ∧ (xs.length ≤ i ∨ ys.length ≤ i)⟩
section
variable {X : Cx} {pins : List (Addr × Obj)} {σ : St} {H : Hp} {s : Shared}
end
def iZip (K : PySem.W.Frag) (ta : TA) : TI := fun σ H R => ta σ H fun vs H1 => ∃ S1 S2 xs ys, vs = [Src.val S1, Src.val S2] ∧ S1.its K H1 xs ∧ S2.its K H1 ys ∧ R (Itz K S1 S2) H1
end L2
set_option Elab.async false
set_option linter.all false
set_option maxRecDepth 100000
namespace L2
open PySem PySem.Spec PyProof.Rows
section
variable {X : Cx} (K : PySem.W.Frag)
theorem ixL (h : X.K = K := by rfl) : IxR X (rIxL K) := by subst h; exact ix_list
theorem ixT (h : X.K = K := by rfl) : IxR X (rIxT K) := by subst h; exact ix_tup
theorem slL (h : X.K = K := by rfl) : SlR X (rSlL K) := by subst h; exact sl_list
def rLenQ : List V → Hp → VK → Prop := fun xs H Q => ∃ p ys, xs = [.ref p] ∧ (SqL K H p ys ∨ SqT K H p ys) ∧ Q (.int ys.length) H
theorem lenQ (h : X.K = K := by rfl) : CallR X (.builtin "len") (rLenQ K) := by subst h; exact call_len_seq
theorem isiQ (h : X.K = K := by rfl) : CallR X (.builtin "isinstance") (rIsi K) := by subst h; exact call_isi
def rAllQ : List V → Hp → VK → Prop := fun xs H Q => ∃ (p : Addr) (bs : List Bool), xs = [.ref p] ∧ SqL K H p (bs.map V.bl) ∧ Q (.bl (bs.all id)) H
def rSrtI : List V → Hp → VK → Prop := fun xs H Q => ∃ (p : Addr) (ns : List Int), xs = [.ref p] ∧ SqL K H p (ns.map V.int) ∧ ns.length < 64 ∧
    ∀ (l : Addr) (ns' : List Int), H l = none → ns'.Perm ns → ns'.Pairwise (· ≤ ·) → Q (.ref l) (upd H l (.lst (ns'.map V.int)))
theorem srtI (h : X.K = K := by rfl) : CallR X (.builtin "sorted") (rSrtI K) := by subst h; exact call_sortedI
def rSrtS : List V → Hp → VK → Prop := fun xs H Q => ∃ (p : Addr) (ss : List Str), xs = [.ref p] ∧ SqL K H p (ss.map V.str) ∧ ss.length < 64 ∧
    ∀ (l : Addr) (ss' : List Str), H l = none → ss'.Perm ss → sortedS ss' = true → Q (.ref l) (upd H l (.lst (ss'.map V.str)))
def rJoin : V → List V → Hp → VK → Prop := fun x vs H Q => ∃ (sep : Str) (p : Addr) (ys : List Str), x = .str sep ∧ vs = [.ref p] ∧ SqL K H p (ys.map V.str) ∧ (ys.map (·.length)).sum + ys.length * sep.length ≤ 16777216 ∧ Q (.str (Txt.join sep ys)) H
theorem iL {tg l : Expr} {tl : TE} (hl : PE X l tl) (h : X.K = K := by rfl) : PI X tg l (iList K tl) := by subst h; exact pi_list hl
theorem iT {tg l : Expr} {tl : TE} (hl : PE X l tl) (h : X.K = K := by rfl) : PI X tg l (iTup K tl) := by subst h; exact pi_tup hl
end
structure Df (P : Program) (w : World) (K : PySem.W.Frag) (mg : Str → Option Value) (base : Heap) (k : Nat) (x : Str) (ps : List Str) (sp : Sp) : Prop where
  ex : ∃ f fd, FnOk P w K mg base CX0 k f fd ps sp ∧ mg x = some (.ref f) ∧ PySem.W.keepIn K (.ref f) = true ∧ Binds K fd ps []
section
variable {P : Program} {w : World} {K : PySem.W.Frag} {mg : Str → Option Value} {base : Heap}
structure Top (K : PySem.W.Frag) (mg : Str → Option Value) (x : Str) (st : Stmt) (ps : List Str) : Prop where
  ex : ∃ f fd, Fun K x x st f fd ∧ mg x = some (.ref f) ∧ Binds K fd ps []
theorem Top.df {x : Str} {st : Stmt} {N ps : List Str} {k : Nat} {sp : Sp} (T : Top K mg x st ps) (S : FnScope N ps (defScope st)) (len : ∀ vs H Q E, sp vs H Q E → vs.length = ps.length)
    (hbody : ∀ (cdv : Value) (f : Addr) (A : Around) (outer : List Env) (s : Shared) (H : Hp) (vs : List V) (Q : VK) (E : XK), Room k (A.deeper (envOfC x (defScope st) s.heap.objs.size f cdv)) → sp vs H Q E →
      ∃ t, PSs (cxOf CX0 P w K mg base N x (defScope st) f cdv A outer s H E).nox (defBody st) t ∧ t { nx := fun _ H' => Q .non H', rt := Q } (start N vs) H) : Df P w K mg base (k + 1) x ps sp := by
  obtain ⟨f, fd, F, m, b⟩ := T.ex
  exact ⟨f, fd, F.ok S len (fun cdv A outer s H vs Q E hr h => hbody cdv f A outer s H vs Q E hr h), m, F.kp, b⟩
end
section
variable {X : Cx} {k j : Nat} {x : Str} {ps : List Str} {sp : Sp} {e : Expr} {es : List Expr} {t : TA} {p pos : Pos}
theorem pe_df (F : Df X.prog X.w X.K X.mg X.base k x ps sp) (hr : Room j X.A) (ha : PA X (e :: es) t) (hjk : k ≤ j := by decide) (hg : Gl X x := by rfl) (hdb : (x == ("__debug__" : Str)) = false := by decide)
    (he : starEach (e :: es) X.env = (false, eval e X.env) :: starEach es X.env := by rfl) (hpl : (backTo pos (starEach es X.env)).any (·.1) = false := by rfl) :
    PE X (.Call (.Name x p) (e :: es) [] pos) (tCall sp [] E0 t) := by
  obtain ⟨f, fd, F, m, kp, b⟩ := F.ex
  exact pe_call F (hr.mono hjk) hg m kp b .nil pass0 ha hdb he hpl
theorem pe_ty {T : String} (hm : X.mg x = none) (hv : bootBuiltins x = some (.type T)) (hg : Gl X x := by rfl) (hn : x ≠ "__name__" := by decide) (hd : (x == ("__debug__" : Str)) = false := by decide) : PE X (.Name x pos) (tC (.ty T)) :=
  pe_bltn hg hm hv rfl hn hd
end
end L2
set_option Elab.async false
set_option linter.all false
set_option maxRecDepth 100000
namespace L2
open PySem PySem.Spec PyProof.Rows
section
variable {X : Cx} {N N' : List Str} {o c : Scope} {x : Str} {pos : Pos} {C : Addr} {s : Shared} {H : Hp} {fp : List Addr}
end
end L2
set_option Elab.async false
set_option linter.all false
set_option maxRecDepth 100000
namespace L2
open PySem PySem.Spec PyProof.Rows
mutual
inductive DV (K : PySem.W.Frag) (H : Hp) : V → PyData → Prop where
  | non : DV K H .non .none
  | bl (b : Bool) : DV K H (.bl b) (.bool b)
  | int (i : Int) : DV K H (.int i) (.int i)
  | str (s : Str) : DV K H (.str s) (.str s)
  | lst {a : Addr} {xs : List V} {ds : List PyData} : SqL K H a xs → DVs K H xs ds → DV K H (.ref a) (.list ds)
  | tup {a : Addr} {xs : List V} {ds : List PyData} : SqT K H a xs → DVs K H xs ds → DV K H (.ref a) (.tuple ds)
inductive DVs (K : PySem.W.Frag) (H : Hp) : List V → List PyData → Prop where
  | nil : DVs K H [] []
  | cons {x : V} {d : PyData} {xs : List V} {ds : List PyData} : DV K H x d → DVs K H xs ds → DVs K H (x :: xs) (d :: ds)
end
section
variable {X : Cx} {pins : List (Addr × Obj)} {σ : St} {H : Hp} {s : Shared}
mutual
theorem Inv.reads (I : Inv X pins σ H s) : ∀ {x : V} {d : PyData} {u : Value}, DV X.K H x d → RelV x u → ∃ as, Reads s.heap u d as
  | _, _, _, .non, r => by cases r; exact ⟨_, .none⟩
  | _, _, _, .bl b, r => by cases r; exact ⟨_, .bool b⟩
  | _, _, _, .int i, r => by obtain ⟨t, rfl⟩ := r; exact ⟨_, .int i t⟩
  | _, _, _, .str z, r => by obtain ⟨t, rfl⟩ := r; exact ⟨_, .str z t⟩
  | _, _, _, .lst h hs, r => by
    cases r
    obtain ⟨its, rv, ⟨o, n, e, hc, _, hd⟩, _⟩ := I.list h
    obtain ⟨as, q⟩ := Inv.readsAll I hs rv
    exact ⟨_, reads_list_at e hc hd (by simpa using q)⟩
  | _, _, _, .tup h hs, r => by
    cases r
    obtain ⟨its, rv, ⟨o, e, hc, n, hd⟩, _⟩ := I.tuple h
    obtain ⟨as, q⟩ := Inv.readsAll I hs rv
    exact ⟨_, reads_tuple_at e hc hd (by simpa using q)⟩
theorem Inv.readsAll (I : Inv X pins σ H s) : ∀ {xs : List V} {ds : List PyData} {us : List Value}, DVs X.K H xs ds → Vals xs us → ∃ as, ReadsAll s.heap us ds as
  | _, _, _, .nil, r => by cases r; exact ⟨_, .nil⟩
  | _, _, _, .cons h hs, r => by
    cases r with
    | cons r1 r2 =>
      obtain ⟨as, q1⟩ := Inv.reads I h r1
      obtain ⟨bs, q2⟩ := Inv.readsAll I hs r2
      exact ⟨_, .cons q1 q2⟩
end
def rEqD (K : PySem.W.Frag) (neg : Bool) : R2 := fun x y H Q => ∃ d e, DV K H x d ∧ DV K H y e ∧ SeqAt.shaped d = true ∧ SeqAt.shaped e = true ∧ Q (.bl (if neg then !PyData.eqv d e else PyData.eqv d e)) H
theorem op_eqD (hu : X.A.units + 64 < cLine) : OpR X (compareOp .Eq) (rEqD X.K false) := by
  intro pins s σ H x y v u Q I rx ry h
  obtain ⟨d, e, h1, h2, s1, s2, q⟩ := h
  obtain ⟨as, r1⟩ := I.reads h1 rx
  obtain ⟨bs, r2⟩ := I.reads h2 ry
  exact eq_dataH r1 r2 s1 s2 hu ⟨.bl _, H, I, rfl, q⟩
theorem op_neD (hu : X.A.units + 64 < cLine) : OpR X (compareOp .NotEq) (rEqD X.K true) := by
  intro pins s σ H x y v u Q I rx ry h
  obtain ⟨d, e, h1, h2, s1, s2, q⟩ := h
  obtain ⟨as, r1⟩ := I.reads h1 rx
  obtain ⟨bs, r2⟩ := I.reads h2 ry
  exact ne_dataH r1 r2 s1 s2 hu ⟨.bl _, H, I, rfl, q⟩
end
theorem eqD {X : Cx} (K : PySem.W.Frag) {k : Nat} (hr : Room k X.A) (h : X.K = K := by rfl) : OpR X (compareOp .Eq) (rEqD K false) := by subst h; exact op_eqD hr.units
theorem neD {X : Cx} (K : PySem.W.Frag) {k : Nat} (hr : Room k X.A) (h : X.K = K := by rfl) : OpR X (compareOp .NotEq) (rEqD K true) := by subst h; exact op_neD hr.units
mutual
theorem DV.mono {K : PySem.W.Frag} {H H' : Hp} (s : Same H H') : ∀ {x : V} {d : PyData}, DV K H x d → DV K H' x d
  | _, _, .non => .non
  | _, _, .bl b => .bl b
  | _, _, .int i => .int i
  | _, _, .str z => .str z
  | _, _, .lst h hs => .lst (s.seq h) (DVs.mono s hs)
  | _, _, .tup h hs => .tup (by
      rcases h with (h | ⟨ob, h⟩) | h
      · exact .inl (.inl (s _ _ h))
      · exact .inl (.inr ⟨ob, s _ _ h⟩)
      · exact .inr h) (DVs.mono s hs)
theorem DVs.mono {K : PySem.W.Frag} {H H' : Hp} (s : Same H H') : ∀ {xs : List V} {ds : List PyData}, DVs K H xs ds → DVs K H' xs ds
  | _, _, .nil => .nil
  | _, _, .cons h hs => .cons (DV.mono s h) (DVs.mono s hs)
end
end L2
set_option Elab.async false
set_option linter.all false
set_option maxRecDepth 100000
namespace L2
open PySem PySem.Spec PyProof.Rows
def Ite (K : PySem.W.Frag) (a : Addr) : It :=
  ⟨fun i H => ∃ xs, SqL K H a xs ∧ i < xs.length,
   fun i H v H' => ∃ p, H p = none ∧ v = .ref p ∧ ∀ xs, SqL K H a xs → ∀ x, xs[i]? = some x → H' = upd H p (.tup [.int i, x]),
   fun i H => ∃ xs, SqL K H a xs ∧ xs.length ≤ i⟩
def iEnum (K : PySem.W.Frag) (ta : TA) : TI := fun σ H R => ta σ H fun vs H1 => ∃ a xs, vs = [V.ref a] ∧ SqL K H1 a xs ∧ R (Ite K a) H1
def rMinL (K : PySem.W.Frag) : List V → Hp → VK → Prop := fun vs H Q => ∃ (p : Addr) (ns : List Int), vs = [.ref p] ∧ SqL K H p (ns.map V.int) ∧ 0 < ns.length ∧ ∀ M, M ∈ ns → (∀ a ∈ ns, M ≤ a) → Q (.int M) H
def rListQ (K : PySem.W.Frag) : List V → Hp → VK → Prop := fun xs H Q => ∃ p ys, xs = [.ref p] ∧ (SqL K H p ys ∨ SqT K H p ys) ∧ ∀ l, H l = none → Q (.ref l) (upd H l (.lst ys))
theorem listQ {X : Cx} (K : PySem.W.Frag) (h : X.K = K := by rfl) : CallR X (.type "list") (rListQ K) := by subst h; exact call_list_of
end L2
set_option Elab.async false
set_option linter.all false
set_option maxRecDepth 100000
namespace L2
open PySem PySem.Spec PyProof.Rows
section
variable {prog : Program} {w : World} {A : Around} {E : Value → Shared → Prop} {s : Shared}
end
def gLst (K : PySem.W.Frag) (n : Nat) (t : TGs) : TG := fun v σ H Q => ∃ a xs, v = .ref a ∧ SqL K H a xs ∧ xs.length = n ∧ t xs σ H Q
def pickV (xs : List V) (lo hi : Option Int) (st : Int) : List V :=
  (sliceRange (sliceBounds lo hi (some st) xs.length).1 (sliceBounds lo hi (some st) xs.length).2.1 (sliceBounds lo hi (some st) xs.length).2.2).filterMap fun i => xs[i]?
theorem vals_pick {xs : List V} {us : List Value} (r : Vals xs us) : ∀ is : List Nat, Vals (is.filterMap fun i => xs[i]?) (is.filterMap fun i => us[i]?)
  | [] => .nil
  | i :: is => by
    have ih := vals_pick r is
    by_cases hi : i < xs.length
    · have e1 : xs[i]? = some xs[i] := List.getElem?_eq_getElem hi
      obtain ⟨u, hu, ru⟩ := r.get e1
      rw [List.filterMap_cons, List.filterMap_cons, e1, hu]
      exact .cons ru ih
    · have e1 : xs[i]? = none := List.getElem?_eq_none (by omega)
      have e2 : us[i]? = none := List.getElem?_eq_none (by rw [← r.length]; omega)
      rw [List.filterMap_cons, List.filterMap_cons, e1, e2]
      exact ih
def SlRS (X : Cx) (r : V → Option Int → Option Int → Int → Hp → VK → Prop) : Prop :=
  ∀ (pins : List (Addr × Obj)) (s : Shared) (σ : St) (H : Hp) (x : V) (v vl vu vs : Value) (lo hi : Option Int) (st : Int) (sl : Addr) (Q : VK), Inv X pins σ H s → RelV x v → s.heap.IsSliceOf sl vl vu vs → IsPart vl lo → IsPart vu hi → IsPart vs (some st) → r x lo hi st H Q →
    ∃ T id, typeLookup (.type T) "__getitem__" = pure (some (.builtin id)) ∧ s.TypeIs v T ∧ wpAny (model X.prog X.w) X.A (getItem v (.ref sl)) (EP X pins σ Q) X.xe s
def tSlS (r : V → Option Int → Option Int → Int → Hp → VK → Prop) (te : TE) (tl th ts : TO) : TE := fun σ H Q => te σ H fun x H1 => tl σ H1 fun l H2 => th σ H2 fun u H3 => ts σ H3 fun k H4 => ∃ i, k = some i ∧ r x l u i H4 Q
section
variable {X : Cx} {e st : Expr} {te : TE} {lo hi : Option Expr} {tl th ts : TO} {pos p2 : Pos}
theorem pe_sliceS {r : V → Option Int → Option Int → Int → Hp → VK → Prop} (hr : SlRS X r) (he : PE X e te) (hl : PO X lo tl) (hu : PO X hi th) (hst : PO X (some st) ts) : PE X (.Subscript e (.Slice lo hi (some st) p2) pos) (tSlS r te tl th ts) := by
  intro pins s σ H Q I h
  refine Subscript_ (thn (he pins s σ H _ I h) fun v s1 ⟨x, H1, I1, r1, q1⟩ => ?_)
  refine wpAny_Slice (thn (hl pins s1 σ H1 _ I1 q1) fun vl s2 ⟨l, H2, I2, pl, q2⟩ => thn (hu pins s2 σ H2 _ I2 q2) fun vu s3 ⟨u, H3, I3, pu, q3⟩ => thn (hst pins s3 σ H3 _ I3 q3) fun vs s4 ⟨k, H4, I4, pk, q4⟩ => ?_)
  obtain ⟨i, rfl, q4⟩ := q4
  have I5 : Inv X pins σ H4 { s4 with heap := s4.heap.push { cls := .type "slice", data := .fields #[vl, vu, vs] } } := I4.kept (t' := s4.toks) fun b ob q => Heap.get?_push_of_some _ q
  obtain ⟨T, id, hT, ht, hg⟩ := hr pins { s4 with heap := s4.heap.push { cls := .type "slice", data := .fields #[vl, vu, vs] } } σ H4 x v vl vu vs l u i s4.heap.objs.size Q I5 r1 (Heap.IsSliceOf.new ..) pl pu pk q4
  show wpAny (model X.prog X.w) X.A (subscriptTail e (.Slice lo hi (some st) p2) v (.ref s4.heap.objs.size)) (EP X pins σ Q) X.xe { s4 with heap := s4.heap.push { cls := .type "slice", data := .fields #[vl, vu, vs] } }
  exact tail_any (ops := [v, .ref s4.heap.objs.size]) ht hT hg (by with_unfolding_all rfl)
def rSlLS (K : PySem.W.Frag) : V → Option Int → Option Int → Int → Hp → VK → Prop := fun x lo hi st H Q => ∃ a xs, x = .ref a ∧ SqL K H a xs ∧ st ≠ 0 ∧ ∀ p, H p = none → Q (.ref p) (upd H p (.lst (pickV xs lo hi st)))
end
theorem filterMap_rev {α : Type} (xs : List α) : ((List.range xs.length).map fun i => xs.length - 1 - i).filterMap (fun i => xs[i]?) = xs.reverse := by
  rw [List.filterMap_map]
  have e : ∀ n, n ≤ xs.length → (List.range n).filterMap ((fun i => xs[i]?) ∘ fun i => xs.length - 1 - i) = xs.reverse.take n := by
    intro n
    induction n with
    | zero => intro _; rfl
    | succ n ih =>
      intro hn
      rw [List.range_succ, List.filterMap_append, ih (by omega)]
      have h1 : xs[xs.length - 1 - n]? = some xs[xs.length - 1 - n] := List.getElem?_eq_getElem (by omega)
      rw [List.filterMap_cons]
      simp only [Function.comp, h1, List.filterMap_nil]
      rw [List.take_add_one, List.getElem?_reverse (by omega), h1]
      rfl
  rw [e _ (Nat.le_refl _)]
  exact List.take_of_length_le (by simp)
theorem ins_ext {α : Type} (its : List α) (k : Nat) (u : α) (h : k ≤ its.length) : ((its.toArray.extract 0 k).push u ++ its.toArray.extract k).toList = its.take k ++ u :: its.drop k := by
  simp
  exact List.take_of_length_le (by rw [List.length_drop]; omega)
section
variable {X : Cx}
def rInsert : V → List V → Hp → VK → Prop := fun x vs H Q => ∃ l xs i y, x = .ref l ∧ vs = [.int i, y] ∧ H l = some (.lst xs) ∧ 0 ≤ i ∧ i ≤ xs.length ∧ xs.length < sizeLine ∧ Q .non (upd H l (.lst (xs.take i.toNat ++ y :: xs.drop i.toNat)))
theorem mt_insert : MtM X "list.insert" rInsert := by
  intro pins s σ H x vs v us Q I rx rv h
  obtain ⟨l, xs, i, y, rfl, rfl, hH, i0, i1, hz, q⟩ := h
  cases rx
  obtain ⟨ui, u, rfl, ri, ru⟩ := rv.two
  obtain ⟨t, rfl⟩ := ri
  obtain ⟨z, its, n, r, hl, e⟩ := I.lstM hH
  have hsl : sizeLine = 16777216 := sizeLine_eq
  refine call_meets F.slot_list_insert ⟨_, e, rfl⟩ F.entry_list_insert (F.args_list_insert_3 _ _ _) (AutoSeq1.list_insert_list_int_val_1 l its.toArray n i t u (by rw [fitsIndex_both (by omega) (by omega)]; decide) (by rw [List.size_toArray]; omega)) ⟨e, ?_⟩
  refine ⟨.non, _, I.lset (its' := its.take i.toNat ++ u :: its.drop i.toNat) hH e ?_ ((r.take i.toNat).append (.cons ru (r.drop i.toNat))) ?_, rfl, q⟩
  · have hmin : min i.toNat its.length = i.toNat := by omega
    simp only [List.size_toArray]
    rw [if_neg (by omega), hmin]
    apply Array.ext'
    exact ins_ext its i.toNat u (by omega)
  · rw [List.length_append, List.length_take, List.length_cons, List.length_drop]
    omega
def rBits : V → List V → Hp → VK → Prop := fun x vs H Q => ∃ i, x = .int i ∧ vs = [] ∧ Q (.int (Builtin.Int.intBits i : Nat)) H
def rTupQ (K : PySem.W.Frag) : List V → Hp → VK → Prop := fun xs H Q => ∃ p ys, xs = [.ref p] ∧ ((SqL K H p ys ∧ ∀ l, H l = none → Q (.ref l) (upd H l (.tup ys))) ∨ (SqT K H p ys ∧ Q (.ref p) H))
theorem tupQ (K : PySem.W.Frag) (h : X.K = K := by rfl) : CallR X (.type "tuple") (rTupQ K) := by subst h; exact call_tuple_of
end
end L2
set_option Elab.async false
set_option linter.all false
set_option maxRecDepth 100000
namespace L2
open PySem PySem.Spec PyProof.Rows
def Its (z : Str) : It := ⟨fun i _ => i < z.cps.size, fun i H v H' => H' = H ∧ ∃ c, z.cps[i]? = some c ∧ v = .str ⟨#[c]⟩, fun i _ => z.cps.size ≤ i⟩
section
variable {X : Cx} {tg : Expr}
def iStr (tl : TE) : TI := fun σ H R => tl σ H fun x H1 => ∃ z, x = .str z ∧ R (Its z) H1
end
end L2
set_option Elab.async false
set_option linter.all false
set_option maxRecDepth 100000
namespace L2
open PySem PySem.Spec PyProof.Rows
def strD : PyData → Str
  | .str z => z
  | d => d.shown
def rStrD (K : PySem.W.Frag) : List V → Hp → VK → Prop := fun xs H Q => ∃ x d, xs = [x] ∧ DV K H x d ∧ PyData.layable0 d = true ∧ d.intsShort 13 = true ∧ d.showable = true ∧ Q (.str (strD d)) H
end L2
set_option Elab.async false
set_option linter.all false
set_option maxRecDepth 100000
namespace L2
open PySem PySem.Spec PyProof.Rows
def lookK (kvs : List (List Key × V)) (k : List Key) : Option V := (kvs.find? fun kv => decide (kv.1 = k)).map (·.2)
abbrev PairT (H : Hp) : List (List Key × V) → List (List Key × Addr × Value) → Prop := Paired fun (p : List Key × V) (q : List Key × Addr × Value) => p.1 = q.1 ∧ H q.2.1 = some (.tup (p.1.map kV)) ∧ RelV p.2 q.2.2
section
variable {X : Cx} {pins : List (Addr × Obj)} {σ : St} {H : Hp} {s : Shared}
def tNewT : TE := fun _ H Q => ∀ p, H p = none → Q (.ref p) (upd H p (.dT []))
end
def rSetDef : V → List V → Hp → VK → Prop := fun x vs H Q => ∃ d kvs b ks y, x = .ref d ∧ vs = [.ref b, y] ∧ H d = some (.dT kvs) ∧ H b = some (.tup (ks.map kV)) ∧ kvs.length < sizeLine ∧
  (∀ v, lookK kvs ks = some v → Q v H) ∧ (lookK kvs ks = none → Q y (upd H d (.dT (kvs ++ [(ks, y)]))))
end L2
set_option Elab.async false
set_option linter.all false
set_option maxRecDepth 100000
namespace L2
open PySem PySem.Spec PyProof.Rows
def rRng1 : List V → Hp → VK → Prop := fun xs H Q => ∃ j : Int, xs = [.int j] ∧ ∀ p, H p = none → Q (.ref p) (upd H p (.rng 0 j))
theorem rng1 {X : Cx} : CallR X (.type "range") rRng1 := by
  intro pins s σ H xs us Q I r h
  obtain ⟨j, rfl, q⟩ := h
  obtain ⟨u, rfl, t, rfl⟩ := vals1 r
  refine call_range_1 ⟨.ref s.heap.objs.size, _, I.laid (a := s.heap.objs.size) (o := .rng 0 j) (fun b o e => Heap.get?_push_of_some _ e) (Nat.le_refl _) ?_, rfl, q _ (I.hok.fresh (Nat.le_refl _))⟩
  exact ⟨_, _, _, Heap.get?_push_size _ rfl⟩
def rRng2 : List V → Hp → VK → Prop := fun xs H Q => ∃ i j : Int, xs = [.int i, .int j] ∧ ∀ p, H p = none → Q (.ref p) (upd H p (.rng i j))
def upsI (lo : Int) (n : Nat) : List Int := (List.range n).map fun (k : Nat) => lo + k
theorem upsI_len (lo : Int) (n : Nat) : (upsI lo n).length = n := by simp [upsI]
theorem vals_items {lo : Int} : ∀ (n : Nat) (us : List Value), us.length = n → (∀ (j : Nat) (v : Value), us[j]? = some v → ∃ t, v = Value.int (lo + j * 1) t) → Vals ((upsI lo n).map V.int) us := by
  intro n us hl h
  subst hl
  induction us generalizing lo with
  | nil => exact .nil
  | cons u r ih =>
    have e : upsI lo (u :: r).length = lo :: upsI (lo + 1) r.length := by
      unfold upsI
      rw [List.length_cons, List.range_succ_eq_map, List.map_cons, List.map_map]
      refine congr (congrArg _ (by simp)) (List.map_congr_left fun a _ => ?_)
      simp only [Function.comp]
      omega
    rw [e, List.map_cons]
    refine .cons ?_ (ih fun j v hv => ?_)
    · obtain ⟨t, e⟩ := h 0 u rfl
      exact ⟨t, by rw [e]; simp⟩
    · obtain ⟨t, e⟩ := h (j + 1) v (by simpa using hv)
      exact ⟨t, by rw [e]; congr 1; omega⟩
def rListR : List V → Hp → VK → Prop := fun xs H Q => ∃ (p : Addr) (lo hi : Int), xs = [.ref p] ∧ H p = some (.rng lo hi) ∧ -(2 ^ 62) ≤ lo ∧ lo < 2 ^ 62 ∧ -(2 ^ 62) ≤ hi ∧ hi < 2 ^ 62 ∧ (hi - lo).toNat ≤ 1000 ∧
  ∀ l, H l = none → Q (.ref l) (upd H l (.lst ((upsI lo (hi - lo).toNat).map V.int)))
theorem listR {X : Cx} (hc : X.calm = true := by rfl) : CallR X (.type "list") rListR := by
  intro pins s σ H xs us Q I r h
  obtain ⟨p, lo, hi, rfl, hp, h1, h2, h3, h4, h5, q⟩ := h
  obtain ⟨u, rfl, rx⟩ := vals1 r
  cases rx
  obtain ⟨t, u, v, e⟩ := I.hok _ _ hp
  have sz : Builtin.Range.rangeSize lo hi 1 = (((hi - lo).toNat : Nat) : Int) := by rw [rangeSize_one]; split <;> omega
  refine call_list_range (I.ok.hd hc) e (small_one h1 h2 h3 h4) sz (by omega) fun h' tk acc' c' kp e' it => ?_
  refine ⟨.ref s.heap.objs.size, _, I.laid (t' := tk) kp (Nat.le_refl _) (show ObjOk X.prog X.w _ h' _ (.lst ((upsI lo (hi - lo).toNat).map V.int)) from ⟨?_, acc'.toList, c', vals_items _ _ (by simpa using it.1) (fun j v hv => it.2 j v (by simpa using hv)), by simpa using e'⟩), rfl, q _ (I.hok.fresh (Nat.le_refl _))⟩
  rw [List.length_map, upsI_len]
  exact Nat.le_of_lt (small1000 h5)
end L2
set_option Elab.async false
set_option linter.all false
set_option maxRecDepth 100000
namespace L2
open PySem PySem.Spec PyProof.Rows
theorem adjust_back (n : Nat) : Builtin.Slice.sliceAdjust none none (-1) (n : Int) = ((n : Int) - 1, -1) := by
  unfold Builtin.Slice.sliceAdjust
  simp
theorem places_back (n : Nat) : Builtin.Slice.slicePlaces ((n : Int) - 1) (-1) (-1) = n := by
  unfold Builtin.Slice.slicePlaces
  have h1 : ¬ ((-1 : Int) > 0) := by omega
  simp only [h1, if_false]
  by_cases h : (n : Int) - 1 > -1
  · simp only [h, if_true]; simp
  · simp only [h, if_false]; omega
section
variable {prog : Program} {w : World} {A : Around} {E : Value → Shared → Prop} {s : Shared}
theorem sliceApplied_back {sl : Addr} {t : Tok} {n : Nat} {Q : Int × Int × Nat → Shared → Prop} (hs : s.heap.IsSliceOf sl .none .none (.int (-1) t))
    (h : Q ((n : Int) - 1, -1, n) s) : wpAny (model prog w) A (Builtin.Slice.sliceApplied (.ref sl) (pure (n : Int))) Q E s := by
  obtain ⟨os, hos, hcs, hds⟩ := id hs
  unfold Builtin.Slice.sliceApplied Builtin.Slice.sliceFields
  refine wpAny_bind (wpAny_bind (wpAny_field hos hds (x := .none) rfl (wpAny_bind (wpAny_field hos hds (x := .none) rfl (wpAny_bind (wpAny_field hos hds (x := .int (-1) t) rfl (wpAny_pure ?_)))))))
  refine wpAny_bind (slicePart_int ?_)
  show wpAny _ _ (if ((-1 : Int) == 0) = true then _ else _) _ _ s
  rw [if_neg (by decide)]
  refine wpAny_bind (slicePart_none (wpAny_bind (slicePart_none (wpAny_bind (wpAny_pure ?_)))))
  show wpAny _ _ (match Builtin.Slice.sliceAdjust none none (-1) (n : Int) with | (lo, hi) => pure (lo, (-1 : Int), Builtin.Slice.slicePlaces lo hi (-1))) _ _ s
  rw [adjust_back n]
  show wpAny _ _ (pure ((n : Int) - 1, (-1 : Int), Builtin.Slice.slicePlaces ((n : Int) - 1) (-1) (-1))) _ _ s
  rw [places_back]
  exact wpAny_pure h
theorem fm_congr {α β : Type} {f g : α → Option β} : ∀ l : List α, (∀ m ∈ l, f m = g m) → l.filterMap f = l.filterMap g
  | [], _ => rfl
  | a :: r, h => by rw [List.filterMap_cons, List.filterMap_cons, h a (by simp), fm_congr r fun m hm => h m (List.mem_cons_of_mem _ hm)]
theorem pick_back (xs : Array Value) : ((List.range xs.size).filterMap fun (m : Nat) => xs[(((xs.size : Nat) : Int) - 1 + (m : Int) * (-1)).toNat]?).toArray = xs.toList.reverse.toArray := by
  have h := filterMap_rev xs.toList
  rw [List.filterMap_map] at h
  have e : ∀ m ∈ List.range xs.size, xs[(((xs.size : Nat) : Int) - 1 + (m : Int) * (-1)).toNat]? = ((fun i => xs.toList[i]?) ∘ fun i => xs.toList.length - 1 - i) m := fun m hm => by
    have hm' := List.mem_range.mp hm
    have e1 : (((xs.size : Nat) : Int) - 1 + (m : Int) * (-1)).toNat = xs.toList.length - 1 - m := by rw [Array.length_toList]; omega
    rw [e1]
    simp
  rw [fm_congr _ e]
  rw [show List.range xs.size = List.range xs.toList.length by rw [Array.length_toList], h]
theorem getItem_tuple_back {t sl : Addr} {items : Array Value} {tk : Tok} {Q : Value → Shared → Prop} (ht : IsTup s.heap t items) (hs : s.heap.IsSliceOf sl .none .none (.int (-1) tk))
    (h : Q (.ref s.heap.objs.size) { s with heap := s.heap.push { cls := .type "tuple", data := .seq items.toList.reverse.toArray } })
    (hsz : items.size ≤ sizeLine) : wpAny (model prog w) A (getItem (.ref t) (.ref sl)) Q E s := by
  have htake : sizeOk (.seq items.toList.reverse.toArray) := by
    show items.toList.reverse.toArray.size ≤ sizeLine
    rw [List.size_toArray, List.length_reverse, Array.length_toList]
    exact hsz
  obtain ⟨os, hos, hcs, hds⟩ := id hs
  have hTs : s.TypeIs (.ref sl) "slice" := ⟨os, hos, hcs⟩
  unfold getItem
  try with_reducible refine wpAny_holding ?_
  first | refine wpAny_bind (wpAny_pure ?_) | skip
  refine wpAny_bind (wpAny_sequenceKey ht.typeIs (by decide) ?_)
  refine wpAny_bind (wpAny_callSpecial?_slot (name := Str.ofString "__getitem__") ht.typeIs PyProof.Rows.slot_tuple_getitem
    (wpAny_call_entry PyProof.Rows.slot_tuple_getitem ht.typeIs entry_tuple_getitem ?_ (args_tuple_getitem _ _)))
  show wpAny _ _ (Builtin.Tuple.tupleItemsOf (.ref t) >>= _) _ _ s
  refine wpAny_bind (tupleItemsOf_ ht ?_)
  refine wpAny_bind (wpAny_typeOf hTs ?_)
  rw [if_pos (by decide)]
  refine wpAny_bind (sliceApplied_back hs ?_)
  have hno : ¬ ((((items.size : Nat) : Int) - 1 == 0 && (-1 : Int) == 1 && items.size == items.size) = true) := by
    intro q
    rw [Bool.and_eq_true, Bool.and_eq_true] at q
    exact absurd q.1.2 (by decide)
  show wpAny _ _ (if (((items.size : Nat) : Int) - 1 == 0 && (-1 : Int) == 1 && items.size == items.size) = true then _ else _) _ _ s
  rw [if_neg hno, pick_back]
  first
    | exact wpAny_bind (m := Builtin.Tuple.tupleExact _) (wpAny_newObj_type (wpAny_pure ⟨_, rfl, wpAny_pure h⟩) htake)
    | exact wpAny_bind (m := Builtin.Tuple.tupleExact _) (wpAny_newObj_type (wpAny_bind (wpAny_pure (wpAny_pure ⟨_, rfl, wpAny_pure h⟩))) htake)
    | exact wpAny_bind (wpAny_bind (m := Builtin.Tuple.tupleExact _) (wpAny_newObj_type (wpAny_pure (wpAny_pure ⟨_, rfl, wpAny_pure h⟩)) htake))
    | exact wpAny_bind (wpAny_bind (m := Builtin.Tuple.tupleExact _) (wpAny_newObj_type (wpAny_pure ⟨_, rfl, wpAny_pure h⟩) htake))
end
section
variable {X : Cx}
def rSlTS (K : PySem.W.Frag) : V → Option Int → Option Int → Int → Hp → VK → Prop := fun x lo hi st H Q => ∃ a xs, x = .ref a ∧ SqT K H a xs ∧ lo = none ∧ hi = none ∧ st = -1 ∧ ∀ p, H p = none → Q (.ref p) (upd H p (.tup xs.reverse))
theorem sl_tupS : SlRS X (rSlTS X.K) := by
  intro pins s σ H x v vl vu vs lo hi st sl Q I rx hs pl pu pk h
  obtain ⟨a, xs, rfl, hx, rfl, rfl, rfl, q⟩ := h
  cases rx
  cases pl
  cases pu
  cases pk
  obtain ⟨its, r, ht, hz⟩ := I.tuple hx
  have hlen : its.toArray.size = xs.length := by rw [List.size_toArray]; exact r.length.symm
  refine ⟨"tuple", _, PyProof.Rows.slot_tuple_getitem.lookup, ht.typeIs, ?_⟩
  refine getItem_tuple_back ht hs ?_ (by rw [hlen]; exact hz)
  refine ⟨.ref s.heap.objs.size, _, I.laid (t' := s.toks) (o := .tup xs.reverse) (fun b ob q => Heap.get?_push_of_some _ q) (Nat.le_refl _) ?_, rfl, q _ (I.hok.fresh (Nat.le_refl _))⟩
  refine ⟨by rw [List.length_reverse]; exact hz, its.reverse, ?_, ?_⟩
  · have hv := vals_pick r ((List.range xs.length).map fun i => xs.length - 1 - i)
    rw [filterMap_rev] at hv
    rw [r.length] at hv
    rw [filterMap_rev] at hv
    exact hv
  · simpa using IsTup.new s.heap its.reverse.toArray
theorem slTS (K : PySem.W.Frag) (h : X.K = K := by rfl) : SlRS X (rSlTS K) := by subst h; exact sl_tupS
def rExtendT (K : PySem.W.Frag) : V → List V → Hp → VK → Prop := fun x vs H Q => ∃ l b xs zs, x = .ref l ∧ vs = [.ref b] ∧ H l = some (.lst xs) ∧ H b = some (.tup zs) ∧ xs.length + zs.length ≤ sizeLine ∧ Q .non (upd H l (.lst (xs ++ zs)))
theorem listItems_at {prog : Program} {w : World} {A : Around} {E : Value → Shared → Prop} {s : Shared} {a : Addr} {o : Obj} {xs : Array Value} {n : Nat} {Q : Array Value → Shared → Prop} (ho : s.heap.get? a = some o) (hd : o.data = .seq xs n) (h : Q xs s) : wpAny (model prog w) A (Builtin.List.listItems (.ref a)) Q E s := by
  unfold Builtin.List.listItems
  exact wpAny_bind (wpAny_seqItems ho hd (wpAny_pure h))
theorem mt_extendT : MtM X "list.extend" (rExtendT X.K) := by
  intro pins s σ H x vs v us Q I rx rv h
  obtain ⟨l, b, xs, zs, rfl, rfl, hH, hB, hz, q⟩ := h
  cases rx
  obtain ⟨u, rfl, ru⟩ := rv.one
  cases ru
  obtain ⟨z, its, n, r, hl, e⟩ := I.lstM hH
  obtain ⟨its2, r2, ht2, hz2⟩ := I.tuple (SqT.of hB)
  have hl2 := r2.length
  have hsz : its.toArray.size + its2.toArray.size ≤ sizeLine := by rw [List.size_toArray, List.size_toArray]; omega
  have hlong : ¬ (!its.toArray.isEmpty && Builtin.List.listTooLong (its.toArray.size + its2.toArray.size)) = true := by
    rw [notLongL hsz, Bool.and_false]
    exact Bool.false_ne_true
  refine wpAny_call_entry F.slot_list_extend ⟨_, e, rfl⟩ F.entry_list_extend ?_ (F.args_list_extend_2 _ _)
  show wpAny _ _ (Builtin.List.listExtendWith (.ref l) (.ref b) .none) _ _ s
  unfold Builtin.List.listExtendWith
  refine wpAny_bind (wpAny_typeOf ht2.typeIs ?_)
  rw [if_pos (by simp)]
  obtain ⟨o2, ho2, hc2, n2, hd2⟩ := id ht2
  refine wpAny_bind (listItems_at ho2 hd2 (wpAny_bind (listItems_at e rfl ?_)))
  rw [if_neg hlong]
  refine wpAny_bind (wpAny_updateSeq e rfl ?_ ?_ ?_)
  · exact wpAny_pure ⟨_, rfl, .non, _, I.lset (its' := its ++ its2) hH e (by simp) (r.append r2) (by rw [List.length_append]; omega), rfl, q⟩
  · omega
  · show (its.toArray ++ its2.toArray).size ≤ _
    rw [Array.size_append]; omega
theorem extT (K : PySem.W.Frag) (h : X.K = K := by rfl) : MtM X "list.extend" (rExtendT K) := by subst h; exact mt_extendT
def gSlice (to : TE) (tl th : TO) : TG := fun v σ H Q => to σ H fun o H1 => tl σ H1 fun l H2 => th σ H2 fun u H3 => ∃ (p b : Addr) (xs ys : List V) (a c : Int), o = .ref p ∧ v = .ref b ∧ l = some a ∧ u = some c ∧ H3 p = some (.lst xs) ∧ H3 b = some (.lst ys) ∧ p ≠ b ∧ 0 ≤ a ∧ a ≤ c ∧ c ≤ xs.length ∧ xs.length + ys.length ≤ sizeLine ∧
  Q σ (upd H3 p (.lst (xs.take a.toNat ++ ys ++ xs.drop c.toNat)))
theorem pg_slice {o : Expr} {lo hi : Option Expr} {to : TE} {tl th : TO} {pos p2 : Pos} (ho : PE X o to) (hl : PO X lo tl) (hu : PO X hi th)
    (ha : ∀ v, assign (.Subscript o (.Slice lo hi none p2) pos) X.env v = (do
      let ov ← holding [v] (eval o X.env)
      let iv ← holding [v, ov] (eval (.Slice lo hi none p2) X.env)
      standAt pos
      holding [v, ov, iv] (setItem ov iv v)
      release [iv, v, ov] []) := by intro _; rfl) : PG X (.Subscript o (.Slice lo hi none p2) pos) (gSlice to tl th) := by
  intro pins s σ H v u Q I r h
  rw [ha]
  refine wpAny_bind (wpAny_holding (thn (ho pins s σ H _ I h) fun ov s1 ⟨x, H1, I1, r1, q1⟩ => ?_))
  refine wpAny_bind (wpAny_holding (wpAny_Slice (thn (hl pins s1 σ H1 _ I1 q1) fun vl s2 ⟨l, H2, I2, pl, q2⟩ => thn (hu pins s2 σ H2 _ I2 q2) fun vu s3 ⟨k, H3, I3, pu, q3⟩ => ?_)))
  refine wpAny_evalPart_none ?_
  obtain ⟨p, b, xs, ys, a, c, rfl, rfl, rfl, rfl, hp, hb, hne, h0, hac, hc, hz, q⟩ := q3
  cases r
  cases r1
  have I4 : Inv X pins σ H3 { s3 with heap := s3.heap.push { cls := .type "slice", data := .fields #[vl, vu, .none] } } := I3.kept (t' := s3.toks) fun b ob q => Heap.get?_push_of_some _ q
  cases pl with
  | int i t =>
    cases pu with
    | int j t' =>
      refine wpAny_bind (wpAny_standAt (wpAny_bind (wpAny_holding (set_slice I4 hp hb hne (Heap.IsSliceOf.new ..) ⟨t, rfl⟩ ⟨t', rfl⟩ h0 hac hc hz fun s' I5 => ?_))))
      exact wpAny_release ⟨σ, _, I5, q⟩
def rSumB (K : PySem.W.Frag) : List V → Hp → VK → Prop := fun vs H Q => ∃ (p : Addr) (ns : List Int), vs = [.ref p] ∧ SqL K H p (ns.map V.int) ∧ ns.length ≤ 1000 ∧ (∀ n ∈ ns, 0 ≤ n ∧ n ≤ 10000000000) ∧ Q (.int ns.sum) H
end
end L2
set_option Elab.async false
set_option linter.all false
set_option maxRecDepth 100000
namespace L2
open PySem PySem.Spec PyProof.Rows
section
variable {prog : Program} {w : World} {A : Around} {E : Value → Shared → Prop} {s : Shared} {κ : PyProof.Rows.KeyKind} {k0 : SortKind} {a₀ : Array Keyed} {st : SortSt}
def LtAt (prog : Program) (w : World) (A : Around) (s : Shared) (k0 : SortKind) (κ : PyProof.Rows.KeyKind) : Prop :=
  ∀ (E : Value → Shared → Prop) (x y : Value) (a b : κ.α) (Q : Bool → Shared → Prop), κ.keyOf x = some a → κ.keyOf y = some b → Q (κ.blt a b) s → wpAny (model prog w) A (keyLt' k0 x y) Q E s
structure SB (k0 : SortKind) (a₀ : Array Keyed) (st : SortSt) : Prop where
  perm : (arrOf st).Perm a₀
  kind : kindOf st = k0
  failed : failedOf st = none
  pend : pendingOf st = #[]
theorem arr_set (st : SortSt) (xs : Array Keyed) : arrOf (setArr st xs) = xs := rfl
end
end L2
set_option Elab.async false
set_option linter.all false
set_option maxRecDepth 100000
namespace L2
open PySem PySem.Spec PyProof.Rows
section
variable {prog : Program} {w : World} {A : Around} {E : Value → Shared → Prop} {s : Shared} {κ : PyProof.Rows.KeyKind}
end
end L2
set_option Elab.async false
set_option linter.all false
set_option maxRecDepth 100000
namespace L2
open PySem PySem.Spec PyProof.Rows
def kLt : Key → Key → Bool
  | .inl i, .inl j => decide (i < j)
  | .inr x, .inr y => decide (x.cps.toList < y.cps.toList)
  | .inl _, .inr _ => true
  | .inr _, .inl _ => false
theorem kLt_irrefl : ∀ a : Key, kLt a a = false
  | .inl i => decide_eq_false (by omega)
  | .inr x => decide_eq_false (List.lt_irrefl _)
theorem kLt_trans : ∀ a b c : Key, kLt a b = true → kLt b c = true → kLt a c = true
  | .inl i, .inl j, .inl k, h1, h2 => by have := of_decide_eq_true h1; have := of_decide_eq_true h2; exact decide_eq_true (by omega)
  | .inr x, .inr y, .inr z, h1, h2 => decide_eq_true (List.lt_trans (of_decide_eq_true h1) (of_decide_eq_true h2))
  | .inl _, .inl _, .inr _, _, _ => rfl
  | .inl _, .inr _, .inr _, _, _ => rfl
  | .inl _, .inr _, .inl _, _, h => by cases h
  | .inr _, .inl _, _, h, _ => by cases h
  | .inr _, .inr _, .inl _, _, h => by cases h
theorem kLt_total : ∀ a b : Key, kLt a b = false → kLt b a = false → a = b
  | .inl i, .inl j, h1, h2 => by have := of_decide_eq_false h1; have := of_decide_eq_false h2; congr 1; omega
  | .inr x, .inr y, h1, h2 => by
    have a1 : ¬ x.cps.toList < y.cps.toList := of_decide_eq_false h1
    have a2 : ¬ y.cps.toList < x.cps.toList := of_decide_eq_false h2
    have e : x.cps.toList = y.cps.toList := List.le_antisymm a2 a1
    obtain ⟨xs⟩ := x
    obtain ⟨ys⟩ := y
    congr 2
    exact Array.toList_inj.mp e
  | .inl _, .inr _, h, _ => by cases h
  | .inr _, .inl _, _, h => by cases h
def lexB : List Key → List Key → Bool
  | [], [] => false
  | [], _ :: _ => true
  | _ :: _, [] => false
  | x :: xs, y :: ys => if x = y then lexB xs ys else kLt x y
theorem lexB_cons (x y : Key) (xs ys : List Key) : lexB (x :: xs) (y :: ys) = if x = y then lexB xs ys else kLt x y := rfl
theorem lexB_irrefl : ∀ a : List Key, lexB a a = false
  | [] => rfl
  | x :: r => by unfold lexB; rw [if_pos rfl]; exact lexB_irrefl r
theorem lexB_trans : ∀ a b c : List Key, lexB a b = true → lexB b c = true → lexB a c = true
  | [], [], _, h, _ => by cases h
  | [], _ :: _, [], _, h => by cases h
  | [], _ :: _, _ :: _, _, _ => rfl
  | _ :: _, [], _, h, _ => by cases h
  | _ :: _, _ :: _, [], _, h => by cases h
  | x :: r, y :: s, z :: t, h1, h2 => by
    have ih := lexB_trans r s t
    unfold lexB at h1 h2 ⊢
    by_cases e1 : x = y
    · rw [if_pos e1] at h1
      by_cases e2 : y = z
      · rw [if_pos e2] at h2
        rw [if_pos (e1.trans e2)]
        exact ih h1 h2
      · rw [if_neg e2] at h2
        rw [if_neg (fun e => e2 (e1.symm.trans e)), e1]
        exact h2
    · rw [if_neg e1] at h1
      by_cases e2 : y = z
      · rw [if_neg (fun e => e1 (e.trans e2.symm)), ← e2]
        exact h1
      · rw [if_neg e2] at h2
        have h3 := kLt_trans _ _ _ h1 h2
        rw [if_neg (fun e => by rw [e, kLt_irrefl] at h3; cases h3)]
        exact h3
theorem lexB_total : ∀ a b : List Key, lexB a b = false → lexB b a = false → a = b
  | [], [], _, _ => rfl
  | [], _ :: _, h, _ => by cases h
  | _ :: _, [], _, h => by cases h
  | x :: r, y :: s, h1, h2 => by
    unfold lexB at h1 h2
    by_cases e : x = y
    · rw [if_pos e] at h1
      rw [if_pos e.symm] at h2
      rw [e, lexB_total r s h1 h2]
    · rw [if_neg e] at h1
      rw [if_neg fun z => e z.symm] at h2
      exact absurd (kLt_total _ _ h1 h2) e
theorem lexB_neg (a b c : List Key) (h : lexB a c = true) : lexB a b = true ∨ lexB b c = true := by
  by_cases h1 : lexB a b = true
  · exact .inl h1
  · by_cases h2 : lexB b a = true
    · exact .inr (lexB_trans _ _ _ h2 h)
    · have e := lexB_total a b (by simpa using h1) (by simpa using h2)
      rw [← e]; exact .inr h
def unV : V → Option Key
  | .int i => some (.inl i)
  | .str x => some (.inr x)
  | _ => none
def keysV : List V → Option (List Key)
  | [] => some []
  | x :: r => (unV x).bind fun k => (keysV r).map (k :: ·)
def shape (ks : List Key) : List Bool := ks.map fun k => k.isLeft
def tupOf (H : Hp) (sh : List Bool) : Value → Option (List Key)
  | .ref a => match H a with
    | some (.tup xs) => (keysV xs).bind fun ks => if shape ks = sh then some ks else none
    | _ => none
  | _ => none
def tupKind (H : Hp) (sh : List Bool) : PyProof.Rows.KeyKind := ⟨⟨List Key, lexB, lexB_irrefl, lexB_trans, fun a b c h => lexB_neg a b c h, lexB_total⟩, tupOf H sh, []⟩
section
variable {prog : Program} {w : World} {A : Around} {E : Value → Shared → Prop} {s : Shared}
end
end L2
set_option Elab.async false
set_option linter.all false
set_option maxRecDepth 100000
namespace L2
open PySem PySem.Spec PyProof.Rows
section
variable {prog : Program} {w : World} {A : Around} {E : Value → Shared → Prop} {s : Shared}
end
end L2
set_option Elab.async false
set_option linter.all false
set_option maxRecDepth 100000
namespace L2
open PySem PySem.Spec PyProof.Rows
abbrev TupL := List (Addr × List Key)
def refs (ts : TupL) : List V := ts.map fun t => V.ref t.1
def AtT (H : Hp) (ts : TupL) : Prop := ∀ t ∈ ts, H t.1 = some (.tup (t.2.map kV))
def rSrtT (K : PySem.W.Frag) : List V → Hp → VK → Prop := fun xs H Q => ∃ (p : Addr) (ts : TupL) (sh : List Bool), xs = [.ref p] ∧ SqL K H p (refs ts) ∧ AtT H ts ∧ sh ≠ [] ∧ (∀ t ∈ ts, shape t.2 = sh) ∧ ts.length < 64 ∧
  ∀ (l : Addr) (ts' : TupL), H l = none → ts'.Perm ts → ts'.Pairwise (fun a b => lexB b.2 a.2 = false) → Q (.ref l) (upd H l (.lst (refs ts')))
end L2
set_option Elab.async false
set_option linter.all false
set_option maxRecDepth 100000
namespace L2
open PySem PySem.Spec PyProof.Rows
section
open PySem.SeqAt
open PySem.AutoSeq1 (wpAny_loadPart')
open PySem.MeetsSeq PySem.MeetsSeq2 PySem.MeetsSeq3
end
section
variable {prog : Program} {w : World} {A : Around} {E : Value → Shared → Prop} {s : Shared}
end
end L2
set_option Elab.async false
set_option linter.all false
set_option maxRecDepth 100000
namespace L2
open PySem PySem.Spec PyProof.Rows
section
variable {prog : Program} {w : World}
end
end L2
set_option Elab.async false
set_option linter.all false
set_option maxRecDepth 100000
namespace L2
open PySem PySem.Spec PyProof.Rows
section
variable {X : Cx}
def rMinT (K : PySem.W.Frag) : List V → Hp → VK → Prop := fun vs H Q => ∃ (p : Addr) (ts : TupL) (sh : List Bool), vs = [.ref p] ∧ SqL K H p (refs ts) ∧ AtT H ts ∧ ts ≠ [] ∧ (∀ t ∈ ts, shape t.2 = sh) ∧
  ∀ t : Addr × List Key, t ∈ ts → (∀ u ∈ ts, lexB u.2 t.2 = false) → Q (.ref t.1) H
def tMinD (K : PySem.W.Frag) (te : TA) : TE := fun σ H Q => te σ H fun vs H1 => ∃ (p : Addr) (ts : TupL) (sh : List Bool), vs = [.ref p] ∧ SqL K H1 p (refs ts) ∧ AtT H1 ts ∧ (∀ t ∈ ts, shape t.2 = sh) ∧ (ts = [] → Q .non H1) ∧
  ∀ t : Addr × List Key, t ∈ ts → (∀ u ∈ ts, lexB u.2 t.2 = false) → Q (.ref t.1) H1
end
end L2
set_option Elab.async false
set_option linter.all false
set_option maxRecDepth 100000
namespace L2
open PySem PySem.Spec PyProof.Rows
def EqS (s : Shared) (items : List Value) (v : Value) (e : Nat → Bool) : Prop := ∀ (prog : Program) (w : World) (A : Around) (E : Value → Shared → Prop) (Q : Bool → Shared → Prop) (m : Nat) (x : Value), A.units + 2 < cLine → items[m]? = some x → Q (e m) s → wpAny (model prog w) A (eqBool x v) Q E s
section
variable {X : Cx}
def rRemI : V → List V → Hp → VK → Prop := fun x vs H Q => ∃ (l : Addr) (ns : List Int) (n : Int), x = .ref l ∧ vs = [.int n] ∧ H l = some (.lst (ns.map V.int)) ∧ n ∈ ns ∧ ns.length ≤ 1000 ∧ Q .non (upd H l (.lst ((ns.erase n).map V.int)))
def rRemT : V → List V → Hp → VK → Prop := fun x vs H Q => ∃ (l : Addr) (ts : TupL) (t : Addr × List Key), x = .ref l ∧ vs = [.ref t.1] ∧ H l = some (.lst (refs ts)) ∧ AtT H ts ∧ t ∈ ts ∧ ts.length ≤ 1000 ∧ ∀ (i : Nat) (hi : i < ts.length), ts[i].2 = t.2 → Q .non (upd H l (.lst (refs (ts.eraseIdx i))))
end
end L2
set_option Elab.async false
set_option linter.all false
set_option maxRecDepth 100000
namespace L2
open PySem PySem.Spec PyProof.Rows
section
open PySem.SeqAt
open PySem.AutoSeq1 (wpAny_loadPart')
open PySem.MeetsSeq PySem.MeetsSeq2 PySem.MeetsSeq3
end
section
variable {prog : Program} {w : World} {A : Around} {E : Value → Shared → Prop} {s : Shared}
end
section
variable {X : Cx}
def rGeK (K : PySem.W.Frag) : R2 := fun x y H Q => ∃ (a b : Addr) (ks ms : List Key), x = .ref a ∧ y = .ref b ∧ SqT K H a (ks.map kV) ∧ SqT K H b (ms.map kV) ∧ shape ks = shape ms ∧ Q (.bl (!lexB ks ms)) H
end
end L2
set_option Elab.async false
set_option linter.all false
set_option maxRecDepth 100000
namespace L2
open PySem PySem.Spec PyProof.Rows
def rMaxL (K : PySem.W.Frag) : List V → Hp → VK → Prop := fun vs H Q => ∃ (p : Addr) (ns : List Int), vs = [.ref p] ∧ SqL K H p (ns.map V.int) ∧ 0 < ns.length ∧ ∀ M, M ∈ ns → (∀ a ∈ ns, a ≤ M) → Q (.int M) H
def isNum (n : Int) : Value → Bool
  | .int a _ => a == n
  | _ => false
section
variable {X : Cx}
def rCountI : V → List V → Hp → VK → Prop := fun x vs H Q => ∃ (l : Addr) (ns : List Int) (n : Int), x = .ref l ∧ vs = [.int n] ∧ H l = some (.lst (ns.map V.int)) ∧ Q (.int ((ns.count n : Nat) : Int)) H
end
section
variable {X : Cx} {T name id : String} {r : V → List V → Hp → VK → Prop} {o e : Expr} {es : List Expr} {to : TE} {t : TA} {apos cpos : Pos}
end
end L2
set_option Elab.async false
set_option linter.all false
set_option maxRecDepth 100000
namespace L2
open PySem PySem.Spec PyProof.Rows
def EqS6 (s : Shared) (items : List Value) (v : Value) (e : Nat → Bool) : Prop := ∀ (prog : Program) (w : World) (A : Around) (E : Value → Shared → Prop) (Q : Bool → Shared → Prop) (m : Nat) (x : Value), A.units + 60 < cLine → items[m]? = some x → Q (e m) s → wpAny (model prog w) A (eqBool x v) Q E s
section
variable {X : Cx}
def rRemD (K : PySem.W.Frag) : V → List V → Hp → VK → Prop := fun x vs H Q => ∃ (l : Addr) (xs : List V) (ds : List PyData) (y : V) (d : PyData) (i : Nat), x = .ref l ∧ vs = [y] ∧ H l = some (.lst xs) ∧ DVs K H xs ds ∧ DV K H y d ∧ (∀ e ∈ ds, e.canLay0 = true) ∧ d.canLay0 = true ∧ d.depth ≤ 56 ∧ xs.length ≤ 1000 ∧
  i < ds.length ∧ (∀ e, ds[i]? = some e → PyData.eqv e d = true) ∧ (∀ m e, m < i → ds[m]? = some e → PyData.eqv e d = false) ∧ Q .non (upd H l (.lst (xs.eraseIdx i)))
def rInD (K : PySem.W.Frag) : R2 := fun x y H Q => ∃ (l : Addr) (xs : List V) (ds : List PyData) (d : PyData), y = .ref l ∧ SqL K H l xs ∧ DVs K H xs ds ∧ DV K H x d ∧ PyData.canLayAll0 ds = true ∧ SeqAt.shaped d = true ∧ d.depth ≤ 60 ∧ Q (.bl (ds.any fun e => PyData.eqv e d)) H
theorem op_inD (hu : X.A.units + 64 < cLine) : OpR X (compareOp .In) (rInD X.K) := by
  intro pins s σ H x y v u Q I rx ry h
  obtain ⟨l, xs, ds, d, rfl, hl, hds, hd, hc, hsd, hdep, q⟩ := h
  obtain ⟨as, ra⟩ := I.reads (.lst hl hds) ry
  obtain ⟨bs, rb⟩ := I.reads hd rx
  exact SeqAt.in_list_reads ra rb hc (SeqAt.canLay_of_shaped hsd) (by have := Nat.min_le_right (PyData.depthAll ds) d.depth; omega) ⟨.bl _, H, I, rfl, q⟩
def rSumC (K : PySem.W.Frag) : List V → Hp → VK → Prop := fun vs H Q => ∃ (p : Addr) (ns : List Int), vs = [.ref p] ∧ SqL K H p (ns.map V.int) ∧ ns.length ≤ 1000 ∧ (∀ n ∈ ns, 0 ≤ n ∧ n ≤ 10000000000000) ∧ Q (.int ns.sum) H
theorem slT {X : Cx} (K : PySem.W.Frag) (h : X.K = K := by rfl) : SlR X (rSlT K) := by subst h; exact sl_tup
theorem inD {X : Cx} (K : PySem.W.Frag) {k : Nat} (hr : Room k X.A) (h : X.K = K := by rfl) : OpR X (compareOp .In) (rInD K) := by subst h; exact op_inD hr.units
end
end L2
set_option Elab.async false
set_option linter.all false
set_option maxRecDepth 100000
namespace L2
open PySem PySem.Spec PyProof.Rows
section
variable {X : Cx}
def rIxD : R2 := fun x y H Q => ∃ d kvs b ks v, x = .ref d ∧ y = .ref b ∧ H d = some (.dT kvs) ∧ H b = some (.tup (ks.map kV)) ∧ lookK kvs ks = some v ∧ Q v H
def rSetDT : TSet := fun o i v H Q => ∃ d kvs b ks, o = .ref d ∧ i = .ref b ∧ H d = some (.dT kvs) ∧ H b = some (.tup (ks.map kV)) ∧ lookK kvs ks = none ∧ kvs.length < sizeLine ∧ Q (upd H d (.dT (kvs ++ [(ks, v)])))
end
end L2
set_option Elab.async false
set_option linter.all false
set_option maxRecDepth 100000
namespace L2
open PySem PySem.Spec PyProof.Rows
abbrev IsZipG (h : Heap) (z TI TO : Addr) (f0 : Value) (fl : Bool) : Prop :=
  h.get? z = some { cls := .type "zip", dict := none, data := .fields #[f0, .bool fl, .bool false, .ref TI, .ref TO], slots := #[] }
section
variable {prog : Program} {w : World} {A : Around} {E : Value → Shared → Prop} {s : Shared}
end
end L2
set_option Elab.async false
set_option linter.all false
set_option maxRecDepth 100000
namespace L2
open PySem PySem.Spec PyProof.Rows
section
variable {prog : Program} {w : World} {A : Around} {R : Result → Shared → Prop} {s : Shared}
end
def InnerGo (J : It) (D : Addr) (ys : List V) (σ : St) (H : Hp) (g : TG) (te : TE) (N : List V → St → Hp → Prop) : Prop :=
  ∃ W : Nat → Nat → List V → St → Hp → Prop, (∃ m, W 0 m ys σ H) ∧
    ∀ i m ys σ2 H2, W i m ys σ2 H2 → (J.stop i H2 ∧ N ys σ2 H2) ∨
      (J.go i H2 ∧ ∃ N2 : List V → St → Hp → Prop, (∀ ys' σ' H', N2 ys' σ' H' → ∃ m', m' < m ∧ W (i + 1) m' ys' σ' H') ∧ ∀ x H3, J.yld i H2 x H3 → g x σ2 H3 fun σ4 H4 =>
        te σ4 H4 fun y H6 => H6 D = some (.lst ys) ∧ ys.length < sizeLine ∧ N2 (ys ++ [y]) σ4 (upd H6 D (.lst (ys ++ [y]))))
def Comp2Go (J : It) (D : Addr) (k : Nat) (σ : St) (H1 : Hp) (g : TG) (wi2 : TI) (g2 : TG) (te : TE) (Q : VK) : Prop :=
  ∃ W : Nat → Nat → List V → St → Hp → Prop, (∃ m, W 0 m [] (σ ++ List.replicate k none) (upd H1 D (.lst []))) ∧
    ∀ i m ys σ2 H2, W i m ys σ2 H2 → (J.stop i H2 ∧ Q (.ref D) H2) ∨
      (J.go i H2 ∧ ∃ N : List V → St → Hp → Prop, (∀ ys' σ' H', N ys' σ' H' → ∃ m', m' < m ∧ W (i + 1) m' ys' σ' H') ∧ ∀ x H3, J.yld i H2 x H3 → g x σ2 H3 fun σ4 H4 => wi2 σ4 H4 fun J2 H5 => InnerGo J2 D ys σ4 H5 g2 te N)
def tComp2 (n : Nat) (wi : TI) (g : TG) (wi2 : TI) (g2 : TG) (te : TE) : TE := fun σ H Q => wi σ H fun J H1 => ∀ D, H1 D = none → Comp2Go J D n σ H1 g wi2 g2 te Q
section
variable {X : Cx} {N N' : List Str} {o c : Scope}
end
end L2
set_option Elab.async false
set_option linter.all false
set_option maxRecDepth 100000
namespace L2
open PySem PySem.Spec PyProof.Rows
end L2
set_option Elab.async false
set_option linter.all false
namespace Hf
open L2
abbrev PW := List (Int × Nat)
def val (P : PW) : Int := (P.map fun p => p.1 * (p.2 : Int)).sum
def ws (P : PW) : List Int := P.map (·.1)
def ds (P : PW) : List Nat := P.map (·.2)
def zs (z : Nat) : List Int := List.replicate z 0
def kr (w E : Nat) (D : List Nat) : Nat := (D.map fun d => w ^ (E - d)).sum
def Kr (w : Nat) (D : List Nat) : Prop := ∃ E, (∀ d ∈ D, d ≤ E) ∧ kr w E D = w ^ E
inductive Hu (w : Nat) : List Int → Nat → Int → Prop
  | stop {e : Int} {m : Nat} : Hu w [e] m 0
  | step {E L : List Int} {m : Nat} {C : Int} : 1 < L.length → E.Perm L → L.Pairwise (· ≤ ·) → Hu w (L.drop m ++ [(L.take m).sum]) w C → Hu w E m (C + (L.take m).sum)
def Fit (w n m : Nat) : Prop := n = 1 ∨ ∃ t, n = m + t * (w - 1)
structure Fits (w n m : Nat) : Prop where
  w2 : 2 ≤ w
  m2 : 2 ≤ m
  mw : m ≤ w
  ok : Fit w n m
end Hf
set_option Elab.async false
set_option linter.all false
set_option maxRecDepth 100000
namespace L2
open PySem PySem.Spec PyProof.Rows
section
variable {prog : Program} {w : World} {A : Around} {R : Result → Shared → Prop} {s : Shared}
end
def DictGo (J : It) (D : Addr) (k : Nat) (σ : St) (H1 : Hp) (g : TG) (tc : TT) (tk te : TE) (Q : VK) : Prop :=
  ∃ W : Nat → Nat → List (List Key × V) → St → Hp → Prop, (∃ m, W 0 m [] (σ ++ List.replicate k none) (upd H1 D (.dT []))) ∧
    ∀ i m ys σ2 H2, W i m ys σ2 H2 → (J.stop i H2 ∧ Q (.ref D) H2) ∨
      (J.go i H2 ∧ ∃ N : List (List Key × V) → St → Hp → Prop, (∀ ys' σ' H', N ys' σ' H' → ∃ m', m' < m ∧ W (i + 1) m' ys' σ' H') ∧ ∀ x H3, J.yld i H2 x H3 → g x σ2 H3 fun σ4 H4 => tc σ4 H4 fun b H5 =>
        if b = true then tk σ4 H5 fun kv H6 => te σ4 H6 fun y H7 => ∃ (b : Addr) (ks : List Key), kv = .ref b ∧ H7 D = some (.dT ys) ∧ H7 b = some (.tup (ks.map kV)) ∧ lookK ys ks = none ∧ ys.length < sizeLine ∧ N (ys ++ [(ks, y)]) σ4 (upd H7 D (.dT (ys ++ [(ks, y)]))) else N ys σ4 H5)
def tDComp (n : Nat) (wi : TI) (g : TG) (tc : TT) (tk te : TE) : TE := fun σ H Q => wi σ H fun J H1 => ∀ D, H1 D = none → DictGo J D n σ H1 g tc tk te Q
section
variable {X : Cx} {N N' : List Str} {o c : Scope}
end
end L2
set_option Elab.async false
set_option linter.all false
set_option maxRecDepth 100000
namespace L2
open PySem PySem.Spec PyProof.Rows
section
variable {κ : Type} [DecidableEq κ]
def valV (kvs : List (κ × V)) (k : κ) : Option V := (kvs.find? fun kv => decide (kv.1 = k)).map (·.2)
def putK (kvs : List (κ × V)) (k : κ) (v : V) : List (κ × V) :=
  if (kvs.any fun kv => decide (kv.1 = k)) = true then kvs.map (fun kv => if kv.1 = k then (kv.1, v) else kv) else kvs ++ [(k, v)]
def dropK (kvs : List (κ × V)) (k : κ) : List (κ × V) := kvs.filter fun kv => decide (kv.1 ≠ k)
theorem valV_nil {k : κ} : valV ([] : List (κ × V)) k = none := rfl
end
abbrev KT (H : Hp) : List (List Key × V) → List (List Key × Addr × Value) → Prop := Paired fun p q => p.1 = q.1 ∧ H q.2.1 = some (.tup (p.1.map kV)) ∧ RelV p.2 q.2.2
section
variable {P : Program} {w : World} {H : Hp} {h : Heap} {a : Addr}
end
def DGet (H : Hp) (a : Addr) (y : V) (r : Option V) : Prop :=
  (∃ kvs k, Rd H a (.dK kvs) ∧ y = kV k ∧ r = valV kvs k) ∨ ∃ kvs k b, Rd H a (.dT kvs) ∧ y = .ref b ∧ H b = some (.tup (k.map kV)) ∧ r = valV kvs k
def DPut (H : Hp) (a : Addr) (y v : V) (H' : Hp) : Prop :=
  (∃ kvs k, H a = some (.dK kvs) ∧ y = kV k ∧ kvs.length < sizeLine ∧ H' = upd H a (.dK (putK kvs k v))) ∨
  ∃ kvs k b, H a = some (.dT kvs) ∧ y = .ref b ∧ H b = some (.tup (k.map kV)) ∧ kvs.length < sizeLine ∧ H' = upd H a (.dT (putK kvs k v))
section
variable {X : Cx} {pins : List (Addr × Obj)} {σ : St} {H : Hp} {s : Shared} {a : Addr} {y v : V} {u r : Value} {o : Option V} {A : Around} {E : Value → Shared → Prop}
end
section
variable {X : Cx} {pins : List (Addr × Obj)} {σ : St} {H : Hp} {s : Shared} {a : Addr} {kvs : List (Key × V)} {k : Key} {u : Value} {A : Around} {E : Value → Shared → Prop}
end
def NoSl (i : Expr) : Prop := ∀ ov iv, subscripted i false ov iv = operate [ov, iv] (getItem ov iv)
def tDGet (td ty : TE) : TE := fun σ H Q => td σ H fun x H1 => ty σ H1 fun y H2 => ∃ a v, x = .ref a ∧ DGet H2 a y (some v) ∧ Q v H2
def tDIn (ty td : TE) : TE := fun σ H Q => ty σ H fun y H1 => td σ H1 fun x H2 => ∃ a o, x = .ref a ∧ DGet H2 a y o ∧ Q (.bl o.isSome) H2
def tDNotIn (ty td : TE) : TE := fun σ H Q => ty σ H fun y H1 => td σ H1 fun x H2 => ∃ a o, x = .ref a ∧ DGet H2 a y o ∧ Q (.bl (!o.isSome)) H2
def sDPut (td ty tv : TE) : TS := fun D σ H => tv σ H fun v H1 => td σ H1 fun x H2 => ty σ H2 fun y H3 => ∃ a H4, x = .ref a ∧ DPut H3 a y v H4 ∧ D.nx σ H4
def sDAug (td ty tv : TE) (rd : V → V → Hp → VK → Prop) : TS := fun D σ H => td σ H fun x H1 => ty σ H1 fun y H2 => ∃ a v, x = .ref a ∧ DGet H2 a y (some v) ∧
  tv σ H2 fun y2 H3 => rd v y2 H3 fun z H4 => ∃ H5, DPut H4 a y z H5 ∧ D.nx σ H5
def sDDel (td ty : TE) : TS := fun D σ H => td σ H fun x H1 => ty σ H1 fun y H2 => ∃ a kvs k, x = .ref a ∧ H2 a = some (.dK kvs) ∧ y = kV k ∧ (valV kvs k).isSome = true ∧ D.nx σ (upd H2 a (.dK (dropK kvs k)))
section
variable {X : Cx} {o i e value : Expr} {pos pos' tpos : Pos} {td ty tv : TE}
end
def tDNewK : TE := fun _ H Q => ∀ p, H p = none → Q (.ref p) (upd H p (.dK []))
def tDNewT : TE := fun _ H Q => ∀ p, H p = none → Q (.ref p) (upd H p (.dT []))
section
variable {X : Cx} {pos : Pos}
end
def tPairs : List (TE × TE) → St → Hp → (List (V × V) → Hp → Prop) → Prop
  | [], _, H, Q => Q [] H
  | (tk, tv) :: r, σ, H, Q => tk σ H fun x H1 => tv σ H1 fun y H2 => tPairs r σ H2 fun ps H3 => Q ((x, y) :: ps) H3
abbrev VV : List (V × V) → List (Value × Value) → Prop := Paired fun p q => RelV p.1 q.1 ∧ RelV p.2 q.2
def PPs (X : Cx) (pos : Pos) (keys : List (Option Expr)) (values : List Expr) (trs : List (TE × TE)) : Prop :=
  ∀ (pins : List (Addr × Obj)) (s : Shared) (σ : St) (H : Hp) (Q : List (V × V) → Hp → Prop), Inv X pins σ H s → tPairs trs σ H Q →
    wpAny (model X.prog X.w) X.A (evalPairs (pairTrees keys values X.env pos)) (fun vs s' => ∃ ps H', Inv X pins σ H' s' ∧ VV ps vs ∧ Q ps H') X.xe s
def mergeK (kvs more : List (Key × V)) : List (Key × V) := more.foldl (fun acc kv => putK acc kv.1 kv.2) kvs
def tDisp (trs : List (TE × TE)) : TE := fun σ H Q => ∀ p, H p = none → tPairs trs σ (upd H p (.dK [])) fun ps H2 => H2 p = some (.dK []) ∧ ∃ kvs : List (Key × V), ps = kvs.map (fun kv => (kV kv.1, kv.2)) ∧ kvs.length ≤ 15 ∧ Q (.ref p) (upd H2 p (.dK (mergeK [] kvs)))
structure M1 (X : Cx) (o : Expr) (m : Str) (apos : Pos) (e : Expr) (cpos : Pos) : Prop where
  base : attributeBase o m X.env (eval o X.env) = eval o X.env
  few : ((backTo cpos (starEach [e] X.env)).all (fun x => !x.1) && (backToKw cpos (keywordEach [] X.env)).all (fun x => x.1.isSome)
    && decide (([e] : List Expr).length + ([] : List Keyword).length + (if ([] : List Keyword).isEmpty then 0 else 1) < 30)) = true
  line : (apos.endLine == cpos.line) = true
  trees : backTo cpos (starEach [e] X.env) = [(false, eval e X.env)]
structure M2 (X : Cx) (o : Expr) (m : Str) (apos : Pos) (e f : Expr) (cpos : Pos) : Prop where
  base : attributeBase o m X.env (eval o X.env) = eval o X.env
  few : ((backTo cpos (starEach [e, f] X.env)).all (fun x => !x.1) && (backToKw cpos (keywordEach [] X.env)).all (fun x => x.1.isSome)
    && decide (([e, f] : List Expr).length + ([] : List Keyword).length + (if ([] : List Keyword).isEmpty then 0 else 1) < 30)) = true
  line : (apos.endLine == cpos.line) = true
  trees : backTo cpos (starEach [e, f] X.env) = [(false, eval e X.env), (false, eval f X.env)]
def IsD (H : Hp) (a : Addr) : Prop := (∃ kvs, Rd H a (.dK kvs)) ∨ ∃ kvs, Rd H a (.dT kvs)
section
variable {X : Cx} {pins : List (Addr × Obj)} {σ : St} {H : Hp} {s : Shared} {a : Addr} {y d : V} {u r : Value} {o : Option V} {A : Around} {E : Value → Shared → Prop}
end
def tDGet1 (td ty : TE) : TE := fun σ H Q => td σ H fun x H1 => ∃ a, x = .ref a ∧ IsD H1 a ∧ ty σ H1 fun y H2 => ∃ o, DGet H2 a y o ∧ Q (o.getD .non) H2
def tDGet2 (td ty tx : TE) : TE := fun σ H Q => td σ H fun x H1 => ∃ a, x = .ref a ∧ IsD H1 a ∧ ty σ H1 fun y H2 => tx σ H2 fun z H3 => ∃ o, DGet H3 a y o ∧ Q (o.getD z) H3
def tDPop1 (td ty : TE) : TE := fun σ H Q => td σ H fun x H1 => ∃ a, x = .ref a ∧ IsD H1 a ∧ ty σ H1 fun y H2 => ∃ kvs k v, H2 a = some (.dK kvs) ∧ y = kV k ∧ valV kvs k = some v ∧ Q v (upd H2 a (.dK (dropK kvs k)))
def tDPop2 (td ty tx : TE) : TE := fun σ H Q => td σ H fun x H1 => ∃ a, x = .ref a ∧ IsD H1 a ∧ ty σ H1 fun y H2 => tx σ H2 fun z H3 => ∃ kvs k, H3 a = some (.dK kvs) ∧ y = kV k ∧
  (∀ v, valV kvs k = some v → Q v (upd H3 a (.dK (dropK kvs k)))) ∧ (valV kvs k = none → Q z H3)
section
variable {X : Cx} {o e f : Expr} {apos cpos : Pos} {td ty tx : TE}
end
section
variable {X : Cx} {pins : List (Addr × Obj)} {σ : St} {H : Hp} {s : Shared} {a : Addr} {kvs : List (Key × V)} {A : Around} {E : Value → Shared → Prop}
end
section
variable {X : Cx} {pins : List (Addr × Obj)} {σ : St} {H : Hp} {s : Shared} {a : Addr} {y : V} {u : Value} {A : Around} {E : Value → Shared → Prop}
end
end L2
namespace L2
open PySem PySem.Spec PyProof.Rows
section
variable {X : Cx}
end
section
variable {κ : Type} [DecidableEq κ]
end
end L2
set_option Elab.async false
set_option linter.all false
set_option maxRecDepth 100000
namespace L2
open PySem PySem.Spec PyProof.Rows
structure Mf (P : Program) (w : World) (K : PySem.W.Frag) (mg : Str → Option Value) (base : Heap) (k : Nat) (C : Addr) (m : Str) (ps : List Str) (sp : Sp) : Prop where
  ex : ∃ f fd, FnOk P w K mg base CX0 k f fd ps sp ∧ Meth K C m f ∧ Binds K fd ps []
structure Cf (P : Program) (w : World) (K : PySem.W.Frag) (mg : Str → Option Value) (base : Heap) (k : Nat) (C : Addr) (x : Str) (ps : List Str) (sp : Sp) : Prop where
  ex : ∃ f fd, FnOk P w K mg base CX0 k f fd ps sp ∧ Mk K C f ∧ Binds K fd ps [] ∧ mg x = some (.ref C)
structure TopM (K : PySem.W.Frag) (C : Addr) (m qual : Str) (st : Stmt) (ps : List Str) : Prop where
  ex : ∃ f fd, Fun K m qual st f fd ∧ Meth K C m f ∧ Binds K fd ps []
structure TopI (K : PySem.W.Frag) (mg : Str → Option Value) (C : Addr) (x qual : Str) (st : Stmt) (ps : List Str) : Prop where
  ex : ∃ f fd, Fun K "__init__" qual st f fd ∧ Mk K C f ∧ Binds K fd ps [] ∧ mg x = some (.ref C)
section
variable {P : Program} {w : World} {K : PySem.W.Frag} {mg : Str → Option Value} {base : Heap}
end
section
variable {X : Cx} {k j : Nat} {C : Addr} {m x : Str} {ps : List Str} {sp : Sp} {o e : Expr} {es : List Expr} {ta : TE} {t : TA} {p apos pos : Pos} {pl : Sem Bool}
end
end L2
set_option Elab.async false
set_option linter.all false
set_option maxRecDepth 100000
namespace L2
open PySem PySem.Spec PyProof.Rows
section
variable {X : Cx} {pins : List (Addr × Obj)} {σ : St} {H : Hp} {s : Shared} {d : Addr} {o : Obj} {u : HO}
end
def tThaw (t : TE) : TE := fun σ H Q => ∃ d u, H d = some u ∧ Mut (some u) ∧ t σ H fun v H' => ∃ o, H' d = some (.frz o u) ∧ Q v (upd H' d u)
def rListD : List V → Hp → VK → Prop := fun xs H Q => ∃ d kvs, xs = [.ref d] ∧ H d = some (.dK kvs) ∧ ∀ l, H l = none → Q (.ref l) (upd H l (.lst (kvs.map fun kv => kV kv.1)))
end L2
set_option Elab.async false
set_option linter.all false
set_option maxRecDepth 100000
namespace L2
open PySem PySem.Spec PyProof.Rows
def Itv (d : Addr) (o : Obj) (kvs : List (Key × V)) : It :=
  ⟨fun i H => H d = some (.frz o (.dK kvs)) ∧ i < kvs.length, fun i H v H' => H' = H ∧ ∃ k, kvs[i]? = some (k, v), fun i H => H d = some (.frz o (.dK kvs)) ∧ kvs.length ≤ i⟩
def Itk (d : Addr) (o : Obj) (kvs : List (Key × V)) : It :=
  ⟨fun i H => H d = some (.frz o (.dK kvs)) ∧ i < kvs.length, fun i H v H' => H' = H ∧ ∃ k x, kvs[i]? = some (k, x) ∧ v = kV k, fun i H => H d = some (.frz o (.dK kvs)) ∧ kvs.length ≤ i⟩
def iKeys (tl : TE) : TI := fun σ H R => tl σ H fun x H1 => ∃ d kvs, x = .ref d ∧ H1 d = some (.dK kvs) ∧ ∀ o, R (Itk d o kvs) (upd H1 d (.frz o (.dK kvs)))
end L2
set_option Elab.async false
set_option linter.all false
set_option maxRecDepth 100000
namespace L2
open PySem PySem.Spec PyProof.Rows
def rSortedD : List V → Hp → VK → Prop := fun xs H Q => ∃ d kvs ns, xs = [.ref d] ∧ H d = some (.dK kvs) ∧ kvs.map (·.1) = ns.map Sum.inl ∧ ns.length < 64 ∧
  ∀ (l : Addr) (ns' : List Int), H l = none → ns'.Perm ns → ns'.Pairwise (· ≤ ·) → Q (.ref l) (upd H l (.lst (ns'.map V.int)))
def rSumL (K : PySem.W.Frag) : List V → Hp → VK → Prop := fun vs H Q => ∃ (p : Addr) (ns : List Int), vs = [.ref p] ∧ SqL K H p (ns.map V.int) ∧ ns.length ≤ 1000 ∧ (∀ n ∈ ns, 0 ≤ n ∧ n ≤ 1000000) ∧ Q (.int ns.sum) H
def iVals (tl : TE) : TI := fun σ H R => tl σ H fun x H1 => ∃ d kvs, x = .ref d ∧ H1 d = some (.dK kvs) ∧ ∀ o, R (Itv d o kvs) (upd H1 d (.frz o (.dK kvs)))
end L2
set_option Elab.async false
set_option linter.all false
set_option maxRecDepth 100000
namespace L2
open PySem PySem.Spec PyProof.Rows
def Iti (d : Addr) (o : Obj) (kvs : List (Key × V)) : It :=
  ⟨fun i H => H d = some (.frz o (.dK kvs)) ∧ i < kvs.length,
   fun i H v H' => ∃ p k x, H p = none ∧ v = .ref p ∧ kvs[i]? = some (k, x) ∧ H' = upd H p (.tup [kV k, x]),
   fun i H => H d = some (.frz o (.dK kvs)) ∧ kvs.length ≤ i⟩
def iItems (tl : TE) : TI := fun σ H R => tl σ H fun x H1 => ∃ d kvs, x = .ref d ∧ H1 d = some (.dK kvs) ∧ ∀ o, R (Iti d o kvs) (upd H1 d (.frz o (.dK kvs)))
end L2
set_option Elab.async false
set_option linter.all false
set_option maxRecDepth 100000
namespace L2
open PySem PySem.Spec PyProof.Rows
def DictGoK (J : It) (D : Addr) (k : Nat) (σ : St) (H1 : Hp) (g : TG) (tc : TT) (tk te : TE) (Q : VK) : Prop :=
  ∃ W : Nat → Nat → List (Key × V) → St → Hp → Prop, (∃ m, W 0 m [] (σ ++ List.replicate k none) (upd H1 D (.dK []))) ∧
    ∀ i m ys σ2 H2, W i m ys σ2 H2 → (J.stop i H2 ∧ Q (.ref D) H2) ∨
      (J.go i H2 ∧ ∃ N : List (Key × V) → St → Hp → Prop, (∀ ys' σ' H', N ys' σ' H' → ∃ m', m' < m ∧ W (i + 1) m' ys' σ' H') ∧ ∀ x H3, J.yld i H2 x H3 → g x σ2 H3 fun σ4 H4 => tc σ4 H4 fun b H5 =>
        if b = true then tk σ4 H5 fun kv H6 => te σ4 H6 fun y H7 => ∃ k : Key, kv = kV k ∧ H7 D = some (.dK ys) ∧ ys.length < sizeLine ∧ N (putK ys k y) σ4 (upd H7 D (.dK (putK ys k y))) else N ys σ4 H5)
def tKComp (n : Nat) (wi : TI) (g : TG) (tc : TT) (tk te : TE) : TE := fun σ H Q => wi σ H fun J H1 => ∀ D, H1 D = none → DictGoK J D n σ H1 g tc tk te Q
section
variable {X : Cx} {N N' : List Str} {o c : Scope}
end
section
variable {X : Cx}
def rIxK : R2 := fun x y H Q => ∃ d kvs k v, x = .ref d ∧ y = kV k ∧ H d = some (.dK kvs) ∧ valV kvs k = some v ∧ Q v H
end
end L2
set_option Elab.async false
set_option linter.all false
set_option maxRecDepth 100000
namespace L2
open PySem PySem.Spec PyProof.Rows
set_option maxHeartbeats 4000000 in
section
variable {prog : Program} {w : World} {A : Around} {R : Result → Shared → Prop} {I : Addr} {fp wr : List Addr} {G : Array GenState → Array GenState → Prop} {n : Nat} {P : Nat → Value → Prop} {St : Nat → Shared → Prop} {K : Type} [DecidableEq K] {knd : KeyKind prog w K}
end
section
variable {prog : Program} {w : World} {A : Around} {E : Value → Shared → Prop} {s : Shared} {K : Type} [DecidableEq K] {knd : KeyKind prog w K}
end
def rDictP (K : PySem.W.Frag) : List V → Hp → VK → Prop := fun xs H Q => ∃ (a : Addr) (ts : List (Addr × Key × V)), xs = [.ref a] ∧ SqL K H a (ts.map fun t => V.ref t.1) ∧ (∀ t ∈ ts, H t.1 = some (.tup [kV t.2.1, t.2.2])) ∧ ts.length ≤ 1000 ∧
  ∀ D, H D = none → Q (.ref D) (upd H D (.dK (mergeK [] (ts.map (·.2)))))
def rInG : R2 := fun y x H Q => ∃ a o, x = .ref a ∧ DGet H a y o ∧ Q (.bl o.isSome) H
def rNotInG : R2 := fun y x H Q => ∃ a o, x = .ref a ∧ DGet H a y o ∧ Q (.bl (!o.isSome)) H
def rIxG : R2 := fun x y H Q => ∃ a v, x = .ref a ∧ DGet H a y (some v) ∧ Q v H
section
variable {X : Cx} {k : Nat}
def rSetG : TSet := fun o i v H Q => ∃ a H', o = .ref a ∧ DPut H a i v H' ∧ Q H'
def rEqE (neg : Bool) : R2 := fun x y H Q => ∃ a b kvs, x = .ref a ∧ y = .ref b ∧ H a = some (.dK kvs) ∧ H b = some (.dK []) ∧ Q (.bl (if neg then !kvs.isEmpty else kvs.isEmpty)) H
end
end L2
set_option Elab.async false
set_option linter.all false
set_option maxRecDepth 100000
namespace L2
open PySem PySem.Spec PyProof.Rows
mutual
inductive DH (H : Hp) : V → PyData → Prop where
  | non : DH H .non .none
  | bl (b : Bool) : DH H (.bl b) (.bool b)
  | int (i : Int) : DH H (.int i) (.int i)
  | str (s : Str) : DH H (.str s) (.str s)
  | lst {a : Addr} {xs : List V} {ds : List PyData} : H a = some (.lst xs) → DHs H xs ds → DH H (.ref a) (.list ds)
  | tup {a : Addr} {xs : List V} {ds : List PyData} : H a = some (.tup xs) → DHs H xs ds → DH H (.ref a) (.tuple ds)
inductive DHs (H : Hp) : List V → List PyData → Prop where
  | nil : DHs H [] []
  | cons {x : V} {d : PyData} {xs : List V} {ds : List PyData} : DH H x d → DHs H xs ds → DHs H (x :: xs) (d :: ds)
end
mutual
theorem DH.mono {H H' : Hp} (s : Same H H') : ∀ {x : V} {d : PyData}, DH H x d → DH H' x d
  | _, _, .non => .non
  | _, _, .bl b => .bl b
  | _, _, .int i => .int i
  | _, _, .str z => .str z
  | _, _, .lst h hs => .lst (s _ _ h) (DHs.mono s hs)
  | _, _, .tup h hs => .tup (s _ _ h) (DHs.mono s hs)
theorem DHs.mono {H H' : Hp} (s : Same H H') : ∀ {xs : List V} {ds : List PyData}, DHs H xs ds → DHs H' xs ds
  | _, _, .nil => .nil
  | _, _, .cons h hs => .cons (DH.mono s h) (DHs.mono s hs)
end
mutual
theorem DH.dv {K : PySem.W.Frag} {H : Hp} : ∀ {x : V} {d : PyData}, DH H x d → DV K H x d
  | _, _, .non => .non
  | _, _, .bl b => .bl b
  | _, _, .int i => .int i
  | _, _, .str z => .str z
  | _, _, .lst h hs => .lst (SqL.of h) (DHs.dv hs)
  | _, _, .tup h hs => .tup (SqT.of h) (DHs.dv hs)
theorem DHs.dv {K : PySem.W.Frag} {H : Hp} : ∀ {xs : List V} {ds : List PyData}, DHs H xs ds → DVs K H xs ds
  | _, _, .nil => .nil
  | _, _, .cons h hs => .cons (DH.dv h) (DHs.dv hs)
end
theorem DHs.length {H : Hp} : ∀ {xs : List V} {ds : List PyData}, DHs H xs ds → xs.length = ds.length
  | _, _, .nil => rfl
  | _, _, .cons _ hs => by rw [List.length_cons, List.length_cons, hs.length]
theorem DHs.get {H : Hp} : ∀ {xs : List V} {ds : List PyData}, DHs H xs ds → ∀ {i : Nat} {x : V}, xs[i]? = some x → ∃ d, ds[i]? = some d ∧ DH H x d
  | _, _, .nil, i, x, h => by simp at h
  | _, _, .cons hd _, 0, x, h => by
    simp only [List.getElem?_cons_zero, Option.some.injEq] at h
    subst h
    exact ⟨_, rfl, hd⟩
  | _, _, .cons _ hs, i + 1, x, h => by
    obtain ⟨d, e, hd⟩ := hs.get (i := i) (by simpa using h)
    exact ⟨d, by simpa using e, hd⟩
theorem DHs.app {H : Hp} : ∀ {xs ys : List V} {ds es : List PyData}, DHs H xs ds → DHs H ys es → DHs H (xs ++ ys) (ds ++ es)
  | _, _, _, _, .nil, h => h
  | _, _, _, _, .cons a b, h => .cons a (b.app h)
theorem DHs.take {H : Hp} : ∀ {xs : List V} {ds : List PyData}, DHs H xs ds → ∀ i, DHs H (xs.take i) (ds.take i)
  | _, _, .nil, i => by rw [List.take_nil, List.take_nil]; exact .nil
  | _, _, .cons a b, 0 => .nil
  | _, _, .cons a b, i + 1 => .cons a (b.take i)
theorem DHs.drop {H : Hp} : ∀ {xs : List V} {ds : List PyData}, DHs H xs ds → ∀ i, DHs H (xs.drop i) (ds.drop i)
  | _, _, .nil, i => by rw [List.drop_nil, List.drop_nil]; exact .nil
  | _, _, .cons a b, 0 => .cons a b
  | _, _, .cons a b, i + 1 => b.drop i
def tyD : PyData → String
  | .none => "NoneType"
  | .bool _ => "bool"
  | .int _ => "int"
  | .str _ => "str"
  | .tuple _ => "tuple"
  | _ => "list"
def isIntD : PyData → Bool
  | .int _ => true
  | _ => false
def isBoolD : PyData → Bool
  | .bool _ => true
  | _ => false
def isLstD : PyData → Bool
  | .list _ => true
  | _ => false
def isTupD : PyData → Bool
  | .tuple _ => true
  | _ => false
def isStrD : PyData → Bool
  | .str _ => true
  | _ => false
theorem DH.ty {K : PySem.W.Frag} {H : Hp} {x : V} {d : PyData} (h : DH H x d) : TyOf K H x (.type (tyD d)) := by
  cases h with
  | non => exact .non
  | bl b => exact .bl b
  | int i => exact .int i
  | str z => exact .str z
  | lst h _ => exact .lst h
  | tup h _ => exact .tup h
section
open PySem.W
theorem DH.kT {H : Hp} {x : V} {d : PyData} (h : DH H x d) (K : Frag) : kitOne K (.type (tyD d)) (.type "tuple") = some (isTupD d) := by cases h <;> (unfold kitOne kitCls; rfl)
theorem DH.kI {H : Hp} {x : V} {d : PyData} (h : DH H x d) (K : Frag) : kitOne K (.type (tyD d)) (.type "int") = some (isIntD d || isBoolD d) := by cases h <;> (unfold kitOne kitCls; rfl)
theorem DH.kB {H : Hp} {x : V} {d : PyData} (h : DH H x d) (K : Frag) : kitOne K (.type (tyD d)) (.type "bool") = some (isBoolD d) := by cases h <;> (unfold kitOne kitCls; rfl)
end
theorem DH.tup_inv {H : Hp} {x : V} {d : PyData} (h : DH H x d) (e : isTupD d = true) : ∃ a xs ds, x = .ref a ∧ d = .tuple ds ∧ H a = some (.tup xs) ∧ DHs H xs ds := by
  cases h with
  | tup h hs => exact ⟨_, _, _, rfl, rfl, h, hs⟩
  | non => cases e
  | bl b => cases e
  | int i => cases e
  | str z => cases e
  | lst h hs => cases e
theorem DH.int_inv {H : Hp} {x : V} {d : PyData} (h : DH H x d) (e : isIntD d = true) : ∃ i, x = .int i ∧ d = .int i := by
  cases h with
  | int i => exact ⟨_, rfl, rfl⟩
  | non => cases e
  | bl b => cases e
  | tup h hs => cases e
  | str z => cases e
  | lst h hs => cases e
theorem DHs.ints {H : Hp} : ∀ ns : List Int, DHs H (ns.map V.int) (ns.map PyData.int)
  | [] => .nil
  | n :: r => .cons (.int n) (DHs.ints r)
end L2
set_option Elab.async false
set_option linter.all false
set_option maxRecDepth 100000
namespace L2
open PySem PySem.Spec PyProof.Rows
def tOrK (K : PySem.W.Frag) (ta tb : TE) : TE := fun σ H Q => ta σ H fun x H1 => ∃ k, TruV K x H1 k ∧ if k = true then Q x H1 else tb σ H1 Q
end L2
set_option Elab.async false
set_option linter.all false
set_option maxRecDepth 100000
namespace L2
open PySem PySem.Spec PyProof.Rows
end L2
set_option Elab.async false
set_option linter.all false
set_option maxRecDepth 100000
namespace L2
open PySem PySem.Spec PyProof.Rows
def off (p : Addr) (H : Hp) : Hp := fun b => if b = p then none else H b
theorem off_at {p b : Addr} {H : Hp} {o : HO} (h : H b = some o) (n : b ≠ p) : off p H b = some o := by unfold off; rw [if_neg n]; exact h
theorem off_on {p : Addr} {H : Hp} : Same (off p H) H := fun b o h => by
  unfold off at h
  split at h
  · cases h
  · exact h
theorem off_but {p : Addr} {H H' : Hp} (B : ∀ b o, H b = some o → b ≠ p → H' b = some o) : Same (off p H) (off p H') := fun b o h => by
  unfold off at h ⊢
  split at h
  · cases h
  · rw [if_neg (by assumption)]; exact B b o h (by assumption)
theorem off_same {p : Addr} {H H' : Hp} (s : Same H H') : Same (off p H) (off p H') := off_but fun b o h _ => s b o h
theorem DH.on {p : Addr} {H : Hp} {x : V} {d : PyData} (h : DH (off p H) x d) : DH H x d := h.mono off_on
end L2
set_option Elab.async false
set_option linter.all false
set_option maxRecDepth 100000
namespace L2
open PySem PySem.Spec PyProof.Rows
section
variable {prog : Program} {w : World} {A : Around} {R : Result → Shared → Prop} {I : Addr} {fp wr : List Addr} {G : Array GenState → Array GenState → Prop} {n : Nat} {P : Nat → Value → Prop} {St : Nat → Shared → Prop} {K : Type} [DecidableEq K] {knd : KeyKind prog w K}
end
def rDPop : V → List V → Hp → VK → Prop := fun x vs H Q => ∃ a kvs k v, x = .ref a ∧ vs = [kV k] ∧ H a = some (.dK kvs) ∧ valV kvs k = some v ∧ Q v (upd H a (.dK (dropK kvs k)))
def rDUpd (K : PySem.W.Frag) : V → List V → Hp → VK → Prop := fun x vs H Q => ∃ (D a : Addr) (kvs : List (Key × V)) (ts : List (Addr × Key × V)), x = .ref D ∧ vs = [.ref a] ∧ H D = some (.dK kvs) ∧ H a = some (.lst (ts.map fun t => V.ref t.1)) ∧ (∀ t ∈ ts, H t.1 = some (.tup [kV t.2.1, t.2.2])) ∧ ts.length ≤ 1000 ∧ kvs.length ≤ 100000 ∧
  Q .non (upd H D (.dK (mergeK kvs (ts.map (·.2)))))
end L2
set_option Elab.async false
set_option linter.all false
set_option maxRecDepth 100000
namespace L2
open PySem PySem.Spec PyProof.Rows
def pairsAt (ts : List (Addr × Key × V)) (l : Addr) (H : Hp) : Hp := fun b => if b = l then some (.lst (ts.map fun t => V.ref t.1)) else
  match ts.find? fun t => decide (t.1 = b) with
  | some t => some (.tup [kV t.2.1, t.2.2])
  | none => H b
def tLstItems (to : TE) : TE := fun σ H Q => to σ H fun x H1 => ∃ d kvs, x = .ref d ∧ H1 d = some (.dK kvs) ∧
  ∀ (l : Addr) (ts : List (Addr × Key × V)) (H2 : Hp), H1 l = none → ts.map (·.2) = kvs → (∀ t ∈ ts, H1 t.1 = none ∧ H2 t.1 = some (.tup [kV t.2.1, t.2.2])) → (∀ b o, H1 b = some o → H2 b = some o) → H2 l = some (.lst (ts.map fun t => V.ref t.1)) → Q (.ref l) H2
end L2
set_option Elab.async false
set_option linter.all false
set_option maxRecDepth 100000
namespace L2
open PySem PySem.Spec PyProof.Rows
end L2
set_option Elab.async false
set_option linter.all false
set_option maxRecDepth 100000
namespace L2
open PySem PySem.Spec PyProof.Rows
section
variable {prog : Program} {w : World} {A : Around} {E : Value → Shared → Prop} {s : Shared} {l : Addr} {xs : Array (Int × Tok)}
end
def rMinQ (K : PySem.W.Frag) : List V → Hp → VK → Prop := fun vs H Q => ∃ (p : Addr) (ns : List Int), vs = [.ref p] ∧ SqT K H p (ns.map V.int) ∧ 0 < ns.length ∧ ∀ M, M ∈ ns → (∀ a ∈ ns, M ≤ a) → Q (.int M) H
end L2
set_option Elab.async false
set_option linter.all false
set_option maxRecDepth 100000
namespace L2
open PySem PySem.Spec PyProof.Rows
section
variable {X : Cx}
end
end L2
set_option Elab.async false
set_option linter.all false
set_option maxRecDepth 100000
namespace L2
open PySem PySem.Spec PyProof.Rows
section
variable {X : Cx}
end
end L2
set_option Elab.async false
set_option linter.all false
set_option maxRecDepth 100000
namespace L2
open PySem PySem.Spec PyProof.Rows
def tThawS (t : TS) : TS := fun D σ H => ∃ d u, H d = some u ∧ Mut (some u) ∧ t ⟨fun σ' H' => ∃ o, H' d = some (.frz o u) ∧ D.nx σ' (upd H' d u), fun _ _ => False, fun _ _ => False, fun _ _ => False⟩ σ H
def tCut (t u : TS) : TS := fun D σ H => ∃ M : St → Hp → Prop, t { D with nx := M } σ H ∧ ∀ σ' H', M σ' H' → u D σ' H'
theorem pss_cut {X : Cx} {st : Stmt} {rest : List Stmt} {t u : TS} (h1 : PS X st t) (h2 : PSs X rest u) : PSs X (st :: rest) (tCut t u) := by
  intro pins s σ H D I h
  obtain ⟨M, h, hm⟩ := h
  refine wpAny_execs_cons (thn (h1 pins s σ H { D with nx := M } I h) fun f s1 q => ?_)
  cases f with
  | next =>
    obtain ⟨σ', H', I', q⟩ := q
    exact h2 pins s1 σ' H' D I' (hm σ' H' q)
  | ret v => exact q
  | brk => exact q
  | cont => exact q
end L2
set_option Elab.async false
set_option linter.all false
set_option maxRecDepth 100000
namespace L2
open PySem PySem.Spec PyProof.Rows
section
variable {prog : Program} {w : World} {A : Around} {E : Value → Shared → Prop} {s : Shared} {K : Type} [DecidableEq K] {knd : KeyKind prog w K}
end
def rDictC : List V → Hp → VK → Prop := fun xs H Q => ∃ (a : Addr) (kvs : List (Key × V)), xs = [.ref a] ∧ H a = some (.dK kvs) ∧ ∀ D, H D = none → Q (.ref D) (upd H D (.dK kvs))
section
variable {prog : Program} {w : World} {A : Around} {E : Value → Shared → Prop} {s : Shared} {K : Type} [DecidableEq K] {knd : HeapKind prog w K}
end
def rDictT : List V → Hp → VK → Prop := fun xs H Q => ∃ (a : Addr) (kvs : List (List Key × V)), xs = [.ref a] ∧ H a = some (.dT kvs) ∧ (∀ (P : Program) (w : World), ∀ x ∈ kvs.map (·.1), ∀ y ∈ kvs.map (·.1), (tupleKind (mixKind P w)).hash x = (tupleKind (mixKind P w)).hash y → x = y) ∧ ∀ D, H D = none → Q (.ref D) (upd H D (.dT kvs))
def pairH (a b : Nat) : Int := reduceHash (Builtin.Tuple.tupleHashOf [hashInt (a : Int), hashInt (b : Int)])
def pairs36 : List (Nat × Nat) := (List.range 36).flatMap fun b => (List.range b).map fun a => (a, b)
def apart : List Int → Bool
  | [] => true
  | x :: r => r.all (fun y => x != y) && apart r
end L2
set_option Elab.async false
set_option linter.all false
set_option maxRecDepth 100000
namespace L2
open PySem PySem.Spec PyProof.Rows
structure CompScC (N N' : List Str) (o c : Scope) : Prop where
  kind : c.kind = .function
  okind : o.kind = .function
  cel : ∀ y ∈ c.names, y.2 = .cell → c.names.lookup y.1 = some .cell
  loc : ∀ y ∈ c.names, y.2 = .local → c.names.lookup y.1 = some .local
  free : ∀ y ∈ c.names, y.2 = .free → c.names.lookup y.1 = some .free ∧ (o.names.lookup y.1 = some .cell ∨ o.names.lookup y.1 = some .free)
  len : N.length ≤ N'.length
  same : ∀ i ∈ List.range N.length, ∀ x ∈ N'[i]?, c.names.lookup x = some .local ∨ c.names.lookup x = some .free ∨ c.names.lookup x = some .cell → c.names.lookup x = some .free ∧ N[i]? = some x
  nd : N'.Nodup
def clsC (X : Cx) (c : Scope) (C : Addr) : List (Str × Addr) := cellsFrom (C + 1) c.names (clOf X.env.cells c.names [])
def compCxC (X : Cx) (c : Scope) (N' : List Str) (C : Addr) (s : Shared) (H : Hp) (fp : List Addr) : Cx :=
  { X with N := N', s₀ := s, H₀ := H, env := compEnvC c (clsC X c C) C X.env, outer := X.stack, stack := X.stack, ex := fp, fn := fun x => c.names.lookup x == some .cell, pn := [], xe := fun _ _ => False }
section
variable {X : Cx} {N N' : List Str} {o c : Scope}
variable {x : Str} {pos : Pos} {C : Addr} {s : Shared} {H : Hp} {fp : List Addr}
end
end L2
set_option Elab.async false
set_option linter.all false
set_option maxRecDepth 100000
namespace L2
open PySem PySem.Spec PyProof.Rows
section
variable {prog : Program} {w : World} {A : Around} {E : Value → Shared → Prop} {s : Shared}
theorem collect_code {R : Result → Shared → Prop} {r : Addr} {a b c : Int} {t u v : Tok} {n : Nat} (hh : A.handled = none) (hr : IsRange s.heap r a b c t u v) (hsmall : Builtin.Range.small a b c = true)
    (hn : Builtin.Range.rangeSize a b c = n) (hlen : n ≤ 2 ^ 24)
    (hR : ∀ h' tk acc' c', (∀ b o, s.heap.get? b = some o → h'.get? b = some o) → h'.get? s.heap.objs.size = some { cls := .type "list", dict := none, data := .seq acc' c', slots := #[] } →
      ItemsOf (fun i v => ∃ t, v = .int (a + i * c) t) acc' n → R (.ok (.ret (.ref s.heap.objs.size))) { s with heap := h', toks := tk }) :
    codeAny (model prog w) A (.builtin "proto.collect" ⟨[.ref r], []⟩) R s := by
  refine codeAny_builtin F.entry_proto_collect ?_
  rw [Around.under_plainId F.plain_proto_collect _]
  show wpAny _ A.in1 (newList [] >>= fun l => again (.builtin "list.__iadd__" ⟨[l, .ref r], []⟩)) _ _ s
  refine wpAny_bind (wpAny_newObj_type ?_)
  refine wpAny_pure ⟨plainId_quiet F.plain_list_iadd _, codeAny_builtin F.entry_list_iadd ?_⟩
  rw [Around.under_plainId F.plain_list_iadd _]
  show wpAny _ A.in1 (Builtin.List.listExtendWith (.ref s.heap.objs.size) (.ref r) (.ref s.heap.objs.size)) _ _ _
  have hS : (s.heap.push { cls := .type "list", data := .seq ([] : List Value).toArray }).get? s.heap.objs.size = some { cls := .type "list", data := .seq #[] } := Heap.get?_push_size _ rfl
  exact wpAny_extend_range (R := R) (s := { s with heap := s.heap.push { cls := .type "list", data := .seq ([] : List Value).toArray } }) (A := A) hh (Heap.get?_push_of_some _ hr) hsmall hn hlen _ _ _ hS fun h' tk acc' c' hk hS' hacc =>
    hR h' tk acc' c' (fun b o e => hk b o (Nat.ne_of_lt (Heap.lt_size e)) (Heap.get?_push_of_some _ e)) hS' hacc
theorem collect_range {Q : List Value → Shared → Prop} {r : Addr} {a b c : Int} {t u v : Tok} {n : Nat} (hh : A.handled = none) (hr : IsRange s.heap r a b c t u v) (hsmall : Builtin.Range.small a b c = true)
    (hn : Builtin.Range.rangeSize a b c = n) (hlen : n ≤ 2 ^ 24)
    (hQ : ∀ h' tk acc, (∀ b o, s.heap.get? b = some o → h'.get? b = some o) → ItemsOf (fun i v => ∃ t, v = .int (a + i * c) t) acc n → Q acc.toList { s with heap := h', toks := tk }) :
    wpAny (model prog w) A (collect (.ref r)) Q E s := by
  unfold collect
  refine wpAny_bind (wpAny_runValue (collect_code hh hr hsmall hn hlen fun h' tk acc' c' hk hS' hacc => ?_))
  show wpAny _ A (load s.heap.objs.size >>= _) _ _ _
  refine wpAny_bind (wpAny_load hS' ?_)
  exact wpAny_pure (hQ h' tk acc' hk hacc)
theorem meets_tuple_new_range (r : Addr) (a b c : Int) (t u v : Tok) (n : Nat) (hsmall : Builtin.Range.small a b c = true) (hn : Builtin.Range.rangeSize a b c = n) (hlen : n ≤ 2 ^ 24) (hsz : n ≤ sizeLine) :
    Meets (Builtin.«tuple.__new__» ⟨[.type "tuple", .ref r], []⟩)
      (fun A R s => A.handled = none ∧ IsRange s.heap r a b c t u v ∧ ∀ (h' : Heap) (tk : Nat) (acc : Array Value), (∀ b o, s.heap.get? b = some o → h'.get? b = some o) → ItemsOf (fun i v => ∃ t, v = .int (a + i * c) t) acc n →
        R (.ok (.ret (.ref h'.objs.size))) { s with heap := h'.push { cls := .type "tuple", data := .seq acc }, toks := tk }) :=
  .of_wp fun prog w A R s h => by
    obtain ⟨hh, hr, h⟩ := h
    have hsub := sub_tuple_self
    have hinit := init_tuple_lookup
    have hmh := madeHere_tuple
    have hT : s.TypeIs (.ref r) "range" := ⟨_, hr, rfl⟩
    have hh1 : A.in1.handled = none := hh
    wp_walk using wpAny_typeOf hT, collect_range hh1 hr hsmall hn hlen
    intro h' tk acc hk hacc
    show wpAny _ _ (Builtin.Tuple.tupleExact acc.toList.toArray >>= fun v => ret v) _ _ _
    unfold Builtin.Tuple.tupleExact
    refine wpAny_bind (wpAny_newObj_type ?_ (show acc.toList.toArray.size ≤ sizeLine by simp only [Array.toArray_toList]; rw [hacc.1]; exact hsz))
    refine wpAny_pure ⟨_, rfl, ?_⟩
    have e : acc.toList.toArray = acc := by simp
    rw [e]
    exact h h' tk acc hk hacc
theorem call_tuple_range {Q : Value → Shared → Prop} {r : Addr} {a b c : Int} {t u v : Tok} {n : Nat} (hh : A.handled = none) (hr : IsRange s.heap r a b c t u v) (hsmall : Builtin.Range.small a b c = true) (hn : Builtin.Range.rangeSize a b c = n) (hlen : n ≤ 2 ^ 24) (hsz : n ≤ sizeLine)
    (h : ∀ (h' : Heap) (tk : Nat) (acc : Array Value), (∀ b o, s.heap.get? b = some o → h'.get? b = some o) → ItemsOf (fun i v => ∃ t, v = .int (a + i * c) t) acc n → Q (.ref h'.objs.size) { s with heap := h'.push { cls := .type "tuple", data := .seq acc }, toks := tk }) :
    wpAny (model prog w) A (call (.type "tuple") [.ref r]) Q E s :=
  callType_new F.called_tuple (by decide) (F.typeCall_tuple_1 _) (F.newCall_tuple_1 _) (fun obj => F.args_object_init_2 obj _) F.entry_tuple_new
    (meets_tuple_new_range r a b c t u v n hsmall hn hlen hsz) ⟨hh, hr, fun h' tk acc hk hacc => ⟨⟨_, Heap.get?_push_size _ rfl, rfl⟩, h h' tk acc hk hacc⟩⟩
end
def rTupR : List V → Hp → VK → Prop := fun xs H Q => ∃ (p : Addr) (lo hi : Int), xs = [.ref p] ∧ H p = some (.rng lo hi) ∧ -(2 ^ 62) ≤ lo ∧ lo < 2 ^ 62 ∧ -(2 ^ 62) ≤ hi ∧ hi < 2 ^ 62 ∧ (hi - lo).toNat ≤ 1000 ∧
  ∀ l, H l = none → Q (.ref l) (upd H l (.tup ((upsI lo (hi - lo).toNat).map V.int)))
theorem tupR {X : Cx} (hc : X.calm = true := by rfl) : CallR X (.type "tuple") rTupR := by
  intro pins s σ H xs us Q I r h
  obtain ⟨p, lo, hi, rfl, hp, h1, h2, h3, h4, h5, q⟩ := h
  obtain ⟨u, rfl, rx⟩ := vals1 r
  cases rx
  obtain ⟨t, u, v, e⟩ := I.hok _ _ hp
  have sz : Builtin.Range.rangeSize lo hi 1 = (((hi - lo).toNat : Nat) : Int) := by rw [rangeSize_one]; split <;> omega
  refine call_tuple_range (I.ok.hd hc) e (small_one h1 h2 h3 h4) sz (by omega) (Nat.le_of_lt (small1000 h5)) fun h' tk acc' kp it => ?_
  have I1 : Inv X pins σ H { s with heap := h', toks := tk } := I.kept kp
  have I2 := I1.laid (t' := tk) (a := h'.objs.size) (h' := h'.push { cls := .type "tuple", data := .seq acc' }) (fun b o e => Heap.get?_push_of_some _ e) (Nat.le_refl _) (show ObjOk X.prog X.w _ _ _ (.tup ((upsI lo (hi - lo).toNat).map V.int)) from ⟨?_, acc'.toList, vals_items _ _ (by simpa using it.1) (fun j v hv => it.2 j v (by simpa using hv)), by simpa using IsTup.new _ _⟩)
  · exact ⟨.ref h'.objs.size, _, I2, rfl, q _ (I1.hok.fresh (Nat.le_refl _))⟩
  · rw [List.length_map, upsI_len]
    exact Nat.le_of_lt (small1000 h5)
end L2
set_option Elab.async false
set_option linter.all false
set_option maxRecDepth 100000
namespace L2
open PySem PySem.Spec PyProof.Rows
section
variable {prog : Program} {w : World} {A : Around} {R : Result → Shared → Prop} {I : Addr} {fp wr : List Addr} {G : Array GenState → Array GenState → Prop} {n : Nat} {P : Nat → Value → Prop} {St : Nat → Shared → Prop}
variable {K : Type} [DecidableEq K] {knd : KeyKind prog w K}
end
section
variable {prog : Program} {w : World} {A : Around} {E : Value → Shared → Prop} {s : Shared} {K : Type} [DecidableEq K] {knd : KeyKind prog w K}
end
end L2
namespace L2
open PySem PySem.Spec PyProof.Rows
def rDictU (K : PySem.W.Frag) : List V → Hp → VK → Prop := fun xs H Q => ∃ (a : Addr) (ts : List (Addr × Addr × List Key × V)), xs = [.ref a] ∧ SqL K H a (ts.map fun t => V.ref t.1) ∧ (∀ t ∈ ts, H t.1 = some (.tup [.ref t.2.1, t.2.2.2]) ∧ H t.2.1 = some (.tup (t.2.2.1.map kV))) ∧ ts.length ≤ 1000 ∧ (ts.map (·.2.2.1)).Nodup ∧
  ∀ D, H D = none → Q (.ref D) (upd H D (.dT (ts.map (·.2.2))))
end L2
set_option Elab.async false
set_option linter.all false
set_option maxRecDepth 100000
namespace L2
open PySem PySem.Spec PyProof.Rows
def gallop' : Bool → Keyed → Array Keyed → Nat → Nat → Nat → StateT SortSt Sem (Option Nat) := sortPriv% PySem.Builtin.gallop
def Has (κ : PyProof.Rows.KeyKind) (p : Keyed) : Prop := ∃ a, κ.keyOf p.1 = some a
def kyd (κ : PyProof.Rows.KeyKind) (p : Keyed) : κ.α := (κ.keyOf p.1).getD κ.dflt
def gAsk (left : Bool) (key : Keyed) (arr : Array Keyed) (base i : Nat) : StateT SortSt Sem (Option Bool) :=
  elem' arr (base + i) >>= fun x => if left = true then lt' x key else lt' key x >>= fun r => pure (r.map (!·))
def gB (κ : PyProof.Rows.KeyKind) (left : Bool) (key p : Keyed) : Bool := if left then κ.blt (kyd κ p) (kyd κ key) else !κ.blt (kyd κ key) (kyd κ p)
section
variable {prog : Program} {w : World} {A : Around} {E : Value → Shared → Prop} {s : Shared} {κ : PyProof.Rows.KeyKind} {k0 : SortKind} {a₀ : Array Keyed} {st : SortSt}
end
end L2
set_option Elab.async false
set_option linter.all false
set_option maxRecDepth 100000
namespace L2
open PySem PySem.Spec PyProof.Rows
section
variable {κ : PyProof.Rows.KeyKind}
def kS (κ : PyProof.Rows.KeyKind) (l : List Keyed) : Prop := l.Pairwise fun p q => κ.kle (kyd κ p) (kyd κ q)
def kLe (κ : PyProof.Rows.KeyKind) (l m : List Keyed) : Prop := ∀ x ∈ l, ∀ y ∈ m, κ.kle (kyd κ x) (kyd κ y)
structure Mg (κ : PyProof.Rows.KeyKind) (all out l m : List Keyed) : Prop where
  perm : (out ++ (l ++ m)).Perm all
  so : kS κ out
  sl : kS κ l
  sm : kS κ m
  ol : kLe κ out l
  om : kLe κ out m
structure Mh (κ : PyProof.Rows.KeyKind) (all l m out : List Keyed) : Prop where
  perm : ((l ++ m) ++ out).Perm all
  so : kS κ out
  sl : kS κ l
  sm : kS κ m
  lo : kLe κ l out
  mo : kLe κ m out
structure LoPre (κ : PyProof.Rows.KeyKind) (a b : Array Keyed) : Prop where
  ha : ∀ p ∈ a.toList, Has κ p
  hb : ∀ p ∈ b.toList, Has κ p
  sa : kS κ a.toList
  sb : kS κ b.toList
  a0 : 0 < a.size
  b0 : 0 < b.size
  fst : ∀ i, i < a.size → κ.kle (KK κ b 0) (KK κ a i)
  lst : ∀ i, i < b.size → κ.kle (KK κ b i) (KK κ a (a.size - 1))
def MEnd (κ : PyProof.Rows.KeyKind) (a b r : Array Keyed) : Prop := r.toList.Perm (a.toList ++ b.toList) ∧ kS κ r.toList
def Lo (κ : PyProof.Rows.KeyKind) (a b out : Array Keyed) (ia ib : Nat) : Prop := Mg κ (a.toList ++ b.toList) out.toList (a.toList.drop ia) (b.toList.drop ib)
variable {a b out : Array Keyed} {ia ib : Nat}
def Hi (κ : PyProof.Rows.KeyKind) (a b out : Array Keyed) (na nb : Nat) : Prop := Mh κ (a.toList ++ b.toList) (a.toList.take na) (b.toList.take nb) out.toList.reverse
variable {na nb : Nat}
end
end L2
set_option Elab.async false
set_option linter.all false
set_option maxRecDepth 100000
namespace L2
open PySem PySem.Spec PyProof.Rows
def mergeLo' : Array Keyed → Array Keyed → StateT SortSt Sem (Array Keyed) := sortPriv% PySem.Builtin.mergeLo
def mergeHi' : Array Keyed → Array Keyed → StateT SortSt Sem (Array Keyed) := sortPriv% PySem.Builtin.mergeHi
def Sm (st st' : SortSt) : Prop := kindOf st' = kindOf st ∧ arrOf st' = arrOf st ∧ pendingOf st' = pendingOf st ∧ failedOf st' = failedOf st
section
variable {prog : Program} {w : World} {A : Around} {E : Value → Shared → Prop} {s : Shared} {κ : PyProof.Rows.KeyKind} {k0 : SortKind} {st : SortSt} {α β γ : Type}
def LoIn (κ : PyProof.Rows.KeyKind) (a b : Array Keyed) (t : Nat) (out : Array Keyed) (ia ib : Nat) : Prop := Lo κ a b out ia ib ∧ ia + 1 < a.size ∧ ib < b.size ∧ t ≤ ia + ib
end
end L2
set_option Elab.async false
set_option linter.all false
set_option maxRecDepth 100000
namespace L2
open PySem PySem.Spec PyProof.Rows
section
variable {prog : Program} {w : World} {A : Around} {E : Value → Shared → Prop} {s : Shared} {κ : PyProof.Rows.KeyKind} {k0 : SortKind} {st : SortSt} {α β γ : Type} {a b out : Array Keyed} {na nb : Nat}
def HiIn (κ : PyProof.Rows.KeyKind) (a b : Array Keyed) (t : Nat) (out : Array Keyed) (na nb : Nat) : Prop := Hi κ a b out na nb ∧ 0 < na ∧ 1 < nb ∧ na ≤ a.size ∧ nb ≤ b.size ∧ na + nb + t ≤ a.size + b.size
end
end L2
set_option Elab.async false
set_option linter.all false
set_option maxRecDepth 100000
namespace L2
open PySem PySem.Spec PyProof.Rows
def offs : Nat → List (List Keyed) → List (Nat × Nat)
  | _, [] => []
  | o, r :: rs => (o, r.length) :: offs (o + r.length) rs
def fst2 (p : Nat × Nat × Nat) : Nat × Nat := (p.1, p.2.1)
section
variable {prog : Program} {w : World} {A : Around} {E : Value → Shared → Prop} {s : Shared} {κ : PyProof.Rows.KeyKind} {k0 : SortKind} {st : SortSt} {a₀ : Array Keyed}
structure Rn (κ : PyProof.Rows.KeyKind) (k0 : SortKind) (a₀ : Array Keyed) (st : SortSt) (rs : List (List Keyed)) (rest : List Keyed) : Prop where
  kind : kindOf st = k0
  failed : failedOf st = none
  arr : (arrOf st).toList = rs.flatten ++ rest
  perm : (arrOf st).Perm a₀
  srt : ∀ r ∈ rs, kS κ r
  ne : ∀ r ∈ rs, r ≠ []
  pend : (pendingOf st).toList.map fst2 = offs 0 rs
end
end L2
set_option Elab.async false
set_option linter.all false
set_option maxRecDepth 100000
namespace L2
open PySem PySem.Spec PyProof.Rows
section
variable {prog : Program} {w : World} {A : Around} {E : Value → Shared → Prop} {s : Shared} {κ : PyProof.Rows.KeyKind} {k0 : SortKind} {st st0 : SortSt} {a₀ : Array Keyed} {α : Type} {lo : Nat}
structure Ph (k0 : SortKind) (a₀ : Array Keyed) (lo : Nat) (st0 st : SortSt) : Prop where
  kind : kindOf st = k0
  failed : failedOf st = none
  pend : pendingOf st = pendingOf st0
  perm : (arrOf st).Perm a₀
  pre : ∀ k, k < lo → (arrOf st)[k]? = (arrOf st0)[k]?
def SgK (κ : PyProof.Rows.KeyKind) (xs : Array Keyed) (lo n : Nat) : Prop := ∀ i j, lo ≤ i → i ≤ j → j < lo + n → κ.kle (KK κ xs i) (KK κ xs j)
def NiK (κ : PyProof.Rows.KeyKind) (xs : Array Keyed) (lo n : Nat) : Prop := ∀ i j, lo ≤ i → i ≤ j → j < lo + n → κ.kle (KK κ xs j) (KK κ xs i)
end
end L2
set_option Elab.async false
set_option linter.all false
set_option maxRecDepth 100000
namespace L2
open PySem PySem.Spec PyProof.Rows
section
variable {prog : Program} {w : World} {A : Around} {E : Value → Shared → Prop} {s : Shared} {κ : PyProof.Rows.KeyKind} {k0 : SortKind} {st st0 : SortSt} {a₀ : Array Keyed} {lo : Nat} {rs : List (List Keyed)} {rest : List Keyed}
end
end L2
set_option Elab.async false
set_option linter.all false
set_option maxRecDepth 100000
namespace L2
open PySem PySem.Spec PyProof.Rows
section
variable {prog : Program} {w : World} {A : Around} {E : Value → Shared → Prop} {s : Shared} {κ : PyProof.Rows.KeyKind}
end
def rSrtTA (K : PySem.W.Frag) : List V → Hp → VK → Prop := fun xs H Q => ∃ (p : Addr) (ts : TupL) (sh : List Bool), xs = [.ref p] ∧ SqL K H p (refs ts) ∧ AtT H ts ∧ sh ≠ [] ∧ (∀ t ∈ ts, shape t.2 = sh) ∧
  ∀ (l : Addr) (ts' : TupL), H l = none → ts'.Perm ts → ts'.Pairwise (fun a b => lexB b.2 a.2 = false) → Q (.ref l) (upd H l (.lst (refs ts')))
def rSrtSA (K : PySem.W.Frag) : List V → Hp → VK → Prop := fun xs H Q => ∃ (p : Addr) (ss : List Str), xs = [.ref p] ∧ SqL K H p (ss.map V.str) ∧ ∀ (l : Addr) (ss' : List Str), H l = none → ss'.Perm ss → sortedS ss' = true → Q (.ref l) (upd H l (.lst (ss'.map V.str)))
end L2
set_option Elab.async false
set_option linter.all false
set_option maxRecDepth 100000
set_option maxHeartbeats 4000000
namespace L2
open PySem PySem.Spec PyProof.Rows
section
variable {X : Cx}
def rCatA (K : PySem.W.Frag) : R2 := fun x y H Q => ∃ a b xs ys, x = .ref a ∧ y = .ref b ∧ SqT K H a xs ∧ SqT K H b ys ∧ xs.length + ys.length ≤ sizeLine ∧
  (xs = [] → Q (.ref b) H) ∧ (xs ≠ [] → ys = [] → Q (.ref a) H) ∧ (xs ≠ [] → ys ≠ [] → ∀ p, H p = none → Q (.ref p) (upd H p (.tup (xs ++ ys))))
theorem op_catA : OpR X (binaryOp .Add) (rCatA X.K) := by
  intro pins s σ H x y v u Q I rx ry h
  obtain ⟨a, b, xs, ys, rfl, rfl, ha, hb, hz, q0, q1, q2⟩ := h
  by_cases hx : xs = []
  · cases rx
    cases ry
    obtain ⟨its, r1, p1, _⟩ := I.tuple ha
    obtain ⟨its2, r2, p2, _⟩ := I.tuple hb
    obtain ⟨⟨cls, dd, data, sl⟩, ho, hc, n, hd⟩ := id p1
    obtain ⟨⟨cls2, dd2, data2, sl2⟩, ho2, hc2, n2, hd2⟩ := id p2
    simp only at hc hd hc2 hd2
    subst hc hd hc2 hd2
    have e0 : its = [] := r1.nil_iff.mpr hx
    exact concat_meets ⟨_, ho, rfl⟩ ⟨_, ho2, rfl⟩ noFill_tuple_add seq_tuple_add PySem.F.slot_tuple_add PySem.F.entry_tuple_add (PySem.F.args_tuple_add_2 _ _)
      (tuple_addW0 a b its.toArray its2.toArray n n2 dd dd2 sl sl2 (by simp [e0])) ⟨ho, ho2, ⟨.ref b, H, I, rfl, q0 hx⟩⟩
  · exact op_catT pins s σ H _ _ v u Q I rx ry ⟨a, b, xs, ys, rfl, rfl, ha, hb, hx, hz, q1 hx, q2 hx⟩
theorem catA (K : PySem.W.Frag) (h : X.K = K := by rfl) : OpR X (binaryOp .Add) (rCatA K) := by subst h; exact op_catA
theorem catA_go {K : PySem.W.Frag} {H : Hp} {Q : VK} {a b : Addr} {xs ys : List V} (ha : H a = some (.tup xs)) (hb : H b = some (.tup ys)) (hz : xs.length + ys.length ≤ sizeLine)
    (q : ∀ r H', (∀ b o, H b = some o → H' b = some o) → H' r = some (.tup (xs ++ ys)) → Q (.ref r) H') : rCatA K (.ref a) (.ref b) H Q := by
  refine ⟨a, b, xs, ys, rfl, rfl, SqT.of ha, SqT.of hb, hz, fun e => q b H (fun _ _ h => h) (by rw [e]; exact hb), fun _ e => q a H (fun _ _ h => h) (by rw [e, List.append_nil]; exact ha), fun _ _ p hp => q p _ (fun b o h => by rw [upd_ne (fun e => by rw [e, hp] at h; cases h)]; exact h) upd_same⟩
end
section
variable {prog : Program} {w : World} {A : Around} {E : Value → Shared → Prop} {s : Shared} {a kS : Addr} {vs : List Value} {kz : List Int} {keys : Array Value} {e e1 : Nat} {P : PySem.Fin → Shared → Prop}
def Kp2 (a k : Addr) (h h' : Heap) : Prop := ∀ b o, b ≠ a → b ≠ k → h.get? b = some o → h'.get? b = some o
end
abbrev TL := List (Addr × List V)
def tRefs (ts : TL) : List V := ts.map fun t => V.ref t.1
def tSrtLen (K : PySem.W.Frag) (t : TA) : TE := fun σ H Q => t σ H fun xs H1 => ∃ (p : Addr) (ts : TL), xs = [.ref p] ∧ SqL K H1 p (tRefs ts) ∧ (∀ t ∈ ts, SqT K H1 t.1 t.2) ∧ ts.length < 64 ∧
  ∀ (l : Addr) (ts' : TL), H1 l = none → ts'.Perm ts → ts'.Pairwise (fun a b => a.2.length ≤ b.2.length) → Q (.ref l) (upd H1 l (.lst (tRefs ts')))
variable {X : Cx}
end L2
set_option Elab.async false
set_option linter.all false
set_option maxRecDepth 100000
set_option maxHeartbeats 4000000
namespace L2
open PySem PySem.Spec PyProof.Rows
section
variable {X : Cx}
def rIxDR : R2 := fun x y H Q => ∃ d kvs b ks v, x = .ref d ∧ y = .ref b ∧ Rd H d (.dT kvs) ∧ H b = some (.tup (ks.map kV)) ∧ lookK kvs ks = some v ∧ Q v H
def rNotInD (K : PySem.W.Frag) : R2 := fun x y H Q => ∃ (l : Addr) (xs : List V) (ds : List PyData) (d : PyData), y = .ref l ∧ SqL K H l xs ∧ DVs K H xs ds ∧ DV K H x d ∧ PyData.canLayAll0 ds = true ∧ SeqAt.shaped d = true ∧ d.depth ≤ 60 ∧ Q (.bl (!ds.any fun e => PyData.eqv e d)) H
end
section
variable {prog : Program} {w : World} {A : Around} {E : Value → Shared → Prop} {s : Shared} {it d : Addr} {i ep : Nat} {es : Array DictEntry} {od : Obj} {ok ov : Value}
end
def ItiT (d : Addr) (o : Obj) (kvs : List (List Key × V)) : It :=
  ⟨fun i H => H d = some (.frz o (.dT kvs)) ∧ i < kvs.length,
   fun i H v H' => ∃ p b ks x, H p = none ∧ v = .ref p ∧ kvs[i]? = some (ks, x) ∧ H b = some (.tup (ks.map kV)) ∧ H' = upd H p (.tup [.ref b, x]),
   fun i H => H d = some (.frz o (.dT kvs)) ∧ kvs.length ≤ i⟩
def iItemsT (tl : TE) : TI := fun σ H R => tl σ H fun x H1 => ∃ d kvs, x = .ref d ∧ H1 d = some (.dT kvs) ∧ ∀ o, R (ItiT d o kvs) (upd H1 d (.frz o (.dT kvs)))
end L2
set_option Elab.async false
set_option linter.all false
set_option maxRecDepth 100000
set_option maxHeartbeats 4000000
namespace L2
open PySem PySem.Spec PyProof.Rows
section
variable {prog : Program} {w : World} {A : Around} {E : Value → Shared → Prop} {s : Shared}
theorem tup_whole {t sl : Addr} {items : Array Value} {vl vu : Value} {lo hi : Option Int} {Q : Value → Shared → Prop} (ht : IsTup s.heap t items) (hs : s.heap.IsSliceOf sl vl vu .none) (pl : IsPart vl lo) (pu : IsPart vu hi)
    (h1 : HT.sIx items.size 0 lo = 0) (h2 : HT.sIx items.size items.size hi = items.size) (h : Q (.ref t) s) : wpAny (model prog w) A (getItem (.ref t) (.ref sl)) Q E s := by
  obtain ⟨os, hos, hcs, hds⟩ := id hs
  have hTs : s.TypeIs (.ref sl) "slice" := ⟨os, hos, hcs⟩
  unfold getItem
  try with_reducible refine wpAny_holding ?_
  first | refine wpAny_bind (wpAny_pure ?_) | skip
  refine wpAny_bind (wpAny_sequenceKey ht.typeIs (by decide) ?_)
  refine wpAny_bind (wpAny_callSpecial?_slot (name := Str.ofString "__getitem__") ht.typeIs PyProof.Rows.slot_tuple_getitem
    (wpAny_call_entry PyProof.Rows.slot_tuple_getitem ht.typeIs entry_tuple_getitem ?_ (args_tuple_getitem _ _)))
  show wpAny _ _ (Builtin.Tuple.tupleItemsOf (.ref t) >>= _) _ _ s
  refine wpAny_bind (tupleItemsOf_ ht (wpAny_bind (wpAny_typeOf hTs ?_)))
  rw [if_pos (by decide)]
  refine wpAny_bind (HT.sliceApplied_gen hs pl pu ?_)
  have hyes : (((HT.sIx items.size 0 lo : Nat) : Int) == 0 && (1 : Int) == 1 && (HT.sIx items.size items.size hi - HT.sIx items.size 0 lo) == items.size) = true := by
    rw [h1, h2, Nat.sub_zero]; simp
  show wpAny _ _ (if (((HT.sIx items.size 0 lo : Nat) : Int) == 0 && (1 : Int) == 1 && (HT.sIx items.size items.size hi - HT.sIx items.size 0 lo) == items.size) = true then _ else _) _ _ s
  rw [if_pos hyes]
  refine wpAny_bind ?_
  unfold Builtin.Tuple.tupleIsExact
  refine wpAny_bind (wpAny_typeOf ht.typeIs (wpAny_pure ?_))
  rw [if_pos (by decide)]
  exact wpAny_bind (wpAny_rule (wpAny_pure ⟨_, rfl, wpAny_pure h⟩))
end
section
variable {X : Cx}
def rSlA (K : PySem.W.Frag) : V → Option Int → Option Int → Hp → VK → Prop := fun x lo hi H Q => ∃ a xs, x = .ref a ∧ SqT K H a xs ∧
  (cutV xs lo hi = xs → Q (.ref a) H) ∧ ∀ p, H p = none → Q (.ref p) (upd H p (.tup (cutV xs lo hi)))
theorem sl_tupA : SlR X (rSlA X.K) := by
  intro pins s σ H x v vl vu lo hi sl Q I rx hs pl pu h
  obtain ⟨a, xs, rfl, hx, q0, q⟩ := h
  by_cases hw : HT.sIx xs.length 0 lo = 0 ∧ HT.sIx xs.length xs.length hi = xs.length
  · cases rx
    obtain ⟨its, r, ht, hz⟩ := I.tuple hx
    have hlen : its.toArray.size = xs.length := by rw [List.size_toArray]; exact r.length.symm
    refine ⟨"tuple", _, PyProof.Rows.slot_tuple_getitem.lookup, ht.typeIs, ?_⟩
    refine tup_whole ht hs pl pu (by rw [hlen]; exact hw.1) (by rw [hlen]; exact hw.2) ⟨.ref a, H, I, rfl, q0 ?_⟩
    unfold cutV
    rw [hw.1, hw.2, List.drop_zero, Nat.sub_zero, List.take_of_length_le (Nat.le_refl _)]
  · exact sl_tup pins s σ H _ v vl vu lo hi sl Q I rx hs pl pu ⟨a, xs, rfl, hx, hw, q⟩
theorem slA (K : PySem.W.Frag) (h : X.K = K := by rfl) : SlR X (rSlA K) := by subst h; exact sl_tupA
def rStrA (K : PySem.W.Frag) : List V → Hp → VK → Prop := fun xs H Q => ∃ x d, xs = [x] ∧ DV K H x d ∧ d.canLay0 = true ∧ d.depth ≤ 64 ∧ d.shown.length ≤ sizeLine ∧ d.showable = true ∧ Q (.str (strD d)) H
theorem call_strA (hg : X.A.guards = some []) (hu : X.A.units + 64 + 30 < cLine) : CallR X (.type "str") (rStrA X.K) := by
  intro pins s σ H xs us Q I r h
  obtain ⟨x, d, rfl, hd, hcl, hdp, hsh, hs, q⟩ := h
  obtain ⟨u, rfl, rx⟩ := vals1 r
  have ref : ∀ a, u = .ref a → strD d = d.shown → wpAny (model X.prog X.w) X.A (call (.type "str") [u]) (EP X pins σ Q) X.xe s := fun a e1 e2 => by
    subst e1
    obtain ⟨as, rd⟩ := I.reads hd rx
    rw [e2] at q
    exact callType_new F.called_str (by decide) (F.typeCall_str_1 _) (F.newCall_str_1 _) (fun obj => F.args_object_init_2 obj _) F.entry_str_new
      (meets_str_new (v := .ref a) (S := fun A R s' => s' = s ∧ A = X.A.in1 ∧ ∀ h' u tk, (∀ b o, s.heap.get? b = some o → h'.get? b = some o) → R (.ok (.ret (.str d.shown u))) { s with heap := h', toks := tk }) fun prog w A R s' hq => by
        obtain ⟨rfl, rfl, hq⟩ := hq
        exact strOf_of_reads rd hs (PyData.noDict_hsm (PyData.hasDict_of_canLay d hcl)) hg (by show X.A.units + 1 + 1 + (d.depth + 1) < cLine; omega) (fun _ _ e => e) (fun h' u tk hk => hq h' u tk hk) hsh)
      ⟨rfl, rfl, fun h' u tk hk => ⟨typeIs_str _ _ _, .str _, H, I.kept hk, ⟨_, rfl⟩, q⟩⟩
  cases hd with
  | non => cases rx; exact PySem.P.str_of_none ⟨.str _, H, I.tok _, ⟨_, rfl⟩, q⟩
  | bl b => cases rx; exact PySem.P.str_of_bool ⟨.str _, H, I.tok _, ⟨_, rfl⟩, q⟩
  | int i =>
    obtain ⟨t, rfl⟩ := rx
    exact PySem.P.str_of_int (of_decide_eq_true hs) ⟨.str _, H, I.tok _, ⟨_, rfl⟩, q⟩
  | str z =>
    obtain ⟨t, rfl⟩ := rx
    exact PySem.P.str_of_str ⟨.str _, H, I, ⟨_, rfl⟩, q⟩
  | lst h1 h2 => cases rx; exact ref _ rfl rfl
  | tup h1 h2 => cases rx; exact ref _ rfl rfl
theorem strA (K : PySem.W.Frag) {k : Nat} (hr : Room k X.A) (h : X.K = K := by rfl) : CallR X (.type "str") (rStrA K) := by
  subst h
  exact call_strA hr.gd (by have := hr.un; omega)
end
end L2
set_option Elab.async false
set_option linter.all false
set_option maxRecDepth 100000
set_option maxHeartbeats 4000000
namespace My
open PySem L2 PyProof.Rows
def hdS : List Stmt → Stmt
  | a :: _ => a
  | [] => .Pass ⟨0, 0, 0, 0⟩
abbrev body0 : List Stmt := PySem.Challenge.pw_mergetree_k37_what_is_a_tree.main.body
abbrev st_is_number : Stmt := hdS (List.tail body0)
abbrev st_is_plan : Stmt := hdS (List.tail (List.tail (List.tail body0)))
abbrev st_finds_rows : Stmt := hdS (List.tail (List.tail (List.tail (List.tail body0))))
abbrev st_l_mix : Stmt := hdS (List.tail (List.tail (List.tail (List.tail (List.tail (List.tail body0))))))
abbrev st_l_left : Stmt := hdS (List.tail (List.tail (List.tail (List.tail (List.tail (List.tail (List.tail body0)))))))
abbrev st_l_pick : Stmt := hdS (List.tail (List.tail (List.tail (List.tail (List.tail (List.tail (List.tail (List.tail body0))))))))
abbrev st_l_many : Stmt := hdS (List.tail (List.tail (List.tail (List.tail (List.tail (List.tail (List.tail (List.tail (List.tail body0)))))))))
abbrev st_l_sizes : Stmt := hdS (List.tail (List.tail (List.tail (List.tail (List.tail (List.tail (List.tail (List.tail (List.tail (List.tail body0))))))))))
abbrev st_l_ways : Stmt := hdS (List.tail (List.tail (List.tail (List.tail (List.tail (List.tail (List.tail (List.tail (List.tail (List.tail (List.tail body0)))))))))))
abbrev st_l_joined : Stmt := hdS (List.tail (List.tail (List.tail (List.tail (List.tail (List.tail (List.tail (List.tail (List.tail (List.tail (List.tail (List.tail body0))))))))))))
abbrev st_l_mixed : Stmt := hdS (List.tail (List.tail (List.tail (List.tail (List.tail (List.tail (List.tail (List.tail (List.tail (List.tail (List.tail (List.tail (List.tail body0)))))))))))))
abbrev st_l_is_plan : Stmt := hdS (List.tail (List.tail (List.tail (List.tail (List.tail (List.tail (List.tail (List.tail (List.tail (List.tail (List.tail (List.tail (List.tail (List.tail body0))))))))))))))
abbrev st_l_put : Stmt := hdS (List.tail (List.tail (List.tail (List.tail (List.tail (List.tail (List.tail (List.tail (List.tail (List.tail (List.tail (List.tail (List.tail (List.tail (List.tail body0)))))))))))))))
abbrev st_l_spoilt : Stmt := hdS (List.tail (List.tail (List.tail (List.tail (List.tail (List.tail (List.tail (List.tail (List.tail (List.tail (List.tail (List.tail (List.tail (List.tail (List.tail (List.tail body0))))))))))))))))
abbrev st_l_deep : Stmt := hdS (List.tail (List.tail (List.tail (List.tail (List.tail (List.tail (List.tail (List.tail (List.tail (List.tail (List.tail (List.tail (List.tail (List.tail (List.tail (List.tail (List.tail body0)))))))))))))))))
abbrev st_l_things : Stmt := hdS (List.tail (List.tail (List.tail (List.tail (List.tail (List.tail (List.tail (List.tail (List.tail (List.tail (List.tail (List.tail (List.tail (List.tail (List.tail (List.tail (List.tail (List.tail body0))))))))))))))))))
abbrev st_law : Stmt := hdS (List.tail (List.tail (List.tail (List.tail (List.tail (List.tail (List.tail (List.tail (List.tail (List.tail (List.tail (List.tail (List.tail (List.tail (List.tail (List.tail (List.tail (List.tail (List.tail body0)))))))))))))))))))
theorem sc_l_mix : FnScope ["_law_cell", "_law_k", "_law_m"] ["_law_cell", "_law_k"] (defScope st_l_mix) := ⟨rfl, rfl, rfl, by decide +kernel, rfl, by decide +kernel, by decide +kernel⟩
theorem sc_l_left : FnScope ["_law_script", "_law_k", "_law_cell"] ["_law_script", "_law_k"] (defScope st_l_left) := ⟨rfl, rfl, rfl, by decide +kernel, rfl, by decide +kernel, by decide +kernel⟩
theorem sc_l_pick : FnScope ["_law_left_here", "_law_many_here", "_law_digit"] ["_law_left_here", "_law_many_here"] (defScope st_l_pick) := ⟨rfl, rfl, rfl, by decide +kernel, rfl, by decide +kernel, by decide +kernel⟩
theorem sc_l_many : FnScope ["_law_left_here", "_law_way"] ["_law_left_here"] (defScope st_l_many) := ⟨rfl, rfl, rfl, by decide +kernel, rfl, by decide +kernel, by decide +kernel⟩
theorem sc_l_ways : FnScope ["_law_left_here"] ["_law_left_here"] (defScope st_l_ways) := ⟨rfl, rfl, rfl, by decide +kernel, rfl, by decide +kernel, by decide +kernel⟩
theorem sc_l_sizes : FnScope ["_law_left_here", "_law_most", "_law_many_here", "_law_way", "_law_found", "_law_k", "_law_some"] ["_law_left_here", "_law_most"] (defScope st_l_sizes) := ⟨rfl, rfl, rfl, by decide +kernel, rfl, by decide +kernel, by decide +kernel⟩
theorem sc_l_joined : FnScope ["_law_left_here", "_law_items", "_law_ways_here", "_law_many_here", "_law_at"] ["_law_left_here", "_law_items", "_law_ways_here"] (defScope st_l_joined) := ⟨rfl, rfl, rfl, by decide +kernel, rfl, by decide +kernel, by decide +kernel⟩
theorem sc_l_mixed : FnScope ["_law_left_here", "_law_many_here", "_law_found", "_law_k"] ["_law_left_here", "_law_many_here"] (defScope st_l_mixed) := ⟨rfl, rfl, rfl, by decide +kernel, rfl, by decide +kernel, by decide +kernel⟩
theorem sc_is_number : FnScope ["thing"] ["thing"] (defScope st_is_number) := ⟨rfl, rfl, rfl, by decide +kernel, rfl, by decide +kernel, by decide +kernel⟩
theorem sc_finds_rows : FnScope ["sizes", "ways", "thing", "found", "part"] ["sizes", "ways", "thing", "found"] (defScope st_finds_rows) := ⟨rfl, rfl, rfl, by decide +kernel, rfl, by decide +kernel, by decide +kernel⟩
theorem sc_is_plan : FnScope ["sizes", "ways", "thing", "found"] ["sizes", "ways", "thing"] (defScope st_is_plan) := ⟨rfl, rfl, rfl, by decide +kernel, rfl, by decide +kernel, by decide +kernel⟩
theorem sc_l_is_plan : FnScope ["_law_sizes_here", "_law_ways_here", "_law_thing", "_law_numbers", "_law_waiting", "_law_one"] ["_law_sizes_here", "_law_ways_here", "_law_thing"] (defScope st_l_is_plan) := ⟨rfl, rfl, rfl, by decide +kernel, rfl, by decide +kernel, by decide +kernel⟩
theorem sc_l_put : FnScope ["_law_tree", "_law_path", "_law_new", "_law_at"] ["_law_tree", "_law_path", "_law_new"] (defScope st_l_put) := ⟨rfl, rfl, rfl, by decide +kernel, rfl, by decide +kernel, by decide +kernel⟩
theorem sc_l_spoilt : FnScope ["_law_left_here", "_law_tree", "_law_many_here", "_law_path", "_law_part", "_law_odd", "_law_new", "_law_some"] ["_law_left_here", "_law_tree", "_law_many_here"] (defScope st_l_spoilt) := ⟨rfl, rfl, rfl, by decide +kernel, rfl, by decide +kernel, by decide +kernel⟩
theorem sc_l_deep : FnScope ["_law_left_here", "_law_tree", "_law_turn"] ["_law_left_here", "_law_tree"] (defScope st_l_deep) := ⟨rfl, rfl, rfl, by decide +kernel, rfl, by decide +kernel, by decide +kernel⟩
theorem sc_l_things : FnScope ["_law_left_here", "_law_sizes_here", "_law_ways_here", "_law_many_here", "_law_tree", "_law_wide", "_law_things_here", "_law_turn"] ["_law_left_here", "_law_sizes_here", "_law_ways_here"] (defScope st_l_things) := ⟨rfl, rfl, rfl, by decide +kernel, rfl, by decide +kernel, by decide +kernel⟩
theorem sc_law : FnScope ["_law_script", "_law_k", "_law_left_here", "_law_sizes_here", "_law_ways_here", "_law_thing", "_law_kept", "_law_found"] ["_law_script"] (defScope st_law) := ⟨rfl, rfl, rfl, by decide +kernel, rfl, by decide +kernel, by decide +kernel⟩
abbrev zsc (l : List (Str × NameKind)) : Scope := { kind := .function, names := l, isGenerator := false, isCoroutine := false, more := [] }
structure Bt (mg : Str → Option Value) : Prop where
  n_abs : mg "abs" = none
  n_bool : mg "bool" = none
  n_int : mg "int" = none
  n_isinstance : mg "isinstance" = none
  n_len : mg "len" = none
  n_list : mg "list" = none
  n_max : mg "max" = none
  n_min : mg "min" = none
  n_range : mg "range" = none
  n_sorted : mg "sorted" = none
  n_str : mg "str" = none
  n_tuple : mg "tuple" = none
structure Tops (K : PySem.W.Frag) (mg : Str → Option Value) : Prop where
  b : Bt mg
  t_is_number : Top K mg "is_number" st_is_number ["thing"]
  t_is_plan : Top K mg "is_plan" st_is_plan ["sizes", "ways", "thing"]
  t_finds_rows : Top K mg "finds_rows" st_finds_rows ["sizes", "ways", "thing", "found"]
  t_l_mix : Top K mg "_law_mix" st_l_mix ["_law_cell", "_law_k"]
  t_l_left : Top K mg "_law_left" st_l_left ["_law_script", "_law_k"]
  t_l_pick : Top K mg "_law_pick" st_l_pick ["_law_left_here", "_law_many_here"]
  t_l_many : Top K mg "_law_many" st_l_many ["_law_left_here"]
  t_l_sizes : Top K mg "_law_sizes" st_l_sizes ["_law_left_here", "_law_most"]
  t_l_ways : Top K mg "_law_ways" st_l_ways ["_law_left_here"]
  t_l_joined : Top K mg "_law_joined" st_l_joined ["_law_left_here", "_law_items", "_law_ways_here"]
  t_l_mixed : Top K mg "_law_mixed" st_l_mixed ["_law_left_here", "_law_many_here"]
  t_l_is_plan : Top K mg "_law_is_plan" st_l_is_plan ["_law_sizes_here", "_law_ways_here", "_law_thing"]
  t_l_put : Top K mg "_law_put" st_l_put ["_law_tree", "_law_path", "_law_new"]
  t_l_spoilt : Top K mg "_law_spoilt" st_l_spoilt ["_law_left_here", "_law_tree", "_law_many_here"]
  t_l_deep : Top K mg "_law_deep" st_l_deep ["_law_left_here", "_law_tree"]
  t_l_things : Top K mg "_law_things" st_l_things ["_law_left_here", "_law_sizes_here", "_law_ways_here"]
def Left (H : Hp) (p : Addr) (c : Int) : Prop := ∃ a b : Int, H p = some (.lst [.int a, .int b, .int c]) ∧ 0 ≤ c
def But (p : Addr) (H H' : Hp) : Prop := ∀ b o, H b = some o → b ≠ p → H' b = some o
theorem But.trans {p : Addr} {H H1 H2 : Hp} (a : But p H H1) (b : But p H1 H2) : But p H H2 := fun c o h n => b c o (a c o h n) n
theorem But.same {p : Addr} {H H1 : Hp} (a : Same H H1) : But p H H1 := fun c o h _ => a c o h
theorem same_new {H : Hp} {p : Addr} (h : H p = none) (o : HO) : Same H (upd H p o) := fun b u q => by rw [upd_ne (ne_of_none q h)]; exact q
theorem small {n : Nat} (h : n ≤ 1000) : n ≤ sizeLine := Nat.le_of_lt (small1000 h)
def spMix : Sp := fun vs H Q _ => ∃ a k : Int, vs = [.int a, .int k] ∧ -(2 ^ 62) < k ∧ k < 2 ^ 62 ∧ ∀ r : Int, 0 ≤ r → r < 2000000000 → Q (.int r) H
def spLeft (K : PySem.W.Frag) : Sp := fun vs H Q _ => ∃ (a : Addr) (ns : List Int) (k : Int), vs = [.ref a, .int k] ∧ SqL K H a (ns.map V.int) ∧ ns.length ≤ 63 ∧ 0 ≤ k ∧ k < 100 ∧
  ∀ (p : Addr) (H' : Hp), H p = none → Left H' p 0 → Same H H' → Q (.ref p) H'
def spPick : Sp := fun vs H Q _ => ∃ (p : Addr) (c m : Int), vs = [.ref p, .int m] ∧ Left H p c ∧ c < 2 ^ 60 ∧ 0 < m ∧ m < 1073741824 ∧
  ∀ (r : Int) (H' : Hp), 0 ≤ r → r < m → Left H' p (c + 1) → But p H H' → Q (.int r) H'
theorem at_int {ns : List Int} {k : Int} (h0 : 0 ≤ k) (h : k < (ns.length : Int)) : ∃ v : Int, atI (ns.map V.int) k = some (.int v) := by
  have hk : k.toNat < ns.length := by omega
  have ek : k = ((k.toNat : Nat) : Int) := by omega
  have q : atI (ns.map V.int) ((k.toNat : Nat) : Int) = some (.int ns[k.toNat]) := atI_nat (by rw [List.getElem?_map, List.getElem?_eq_getElem hk] <;> rfl)
  rw [← ek] at q
  exact ⟨_, q⟩
theorem bit01 (b : Bool) : -(2 ^ 64) < (if b = true then (1 : Int) else 0) ∧ (if b = true then (1 : Int) else 0) < 2 ^ 64 := by cases b <;> decide
def lcp : List Nat → List Nat → Nat
  | a :: r, b :: s => if a = b then lcp r s + 1 else 0
  | _, _ => 0
abbrev cds (z : Str) : List Nat := z.cps.toList
def AZ (z : Str) : Prop := ∀ c ∈ cds z, 97 ≤ c ∧ c ≤ 122
def spAlike : Sp := fun vs H Q _ => ∃ x y : Str, vs = [.str x, .str y] ∧ x.length ≤ 1000 ∧ y.length ≤ 1000 ∧ Q (.int (lcp (cds x) (cds y))) H
def spAlikeFrom : Sp := fun vs H Q _ => ∃ (x y : Str) (far : Nat), vs = [.str x, .str y, .int far] ∧ x.length ≤ 1000 ∧ y.length ≤ 1000 ∧ far ≤ lcp (cds x) (cds y) ∧ Q (.int (lcp (cds x) (cds y))) H
def IsD (H : Hp) : Nat → V → V → Prop
  | 0, _, _ => False
  | n + 1, x, y => (x = y ∧ (x = .non ∨ (∃ b, x = .bl b) ∨ (∃ i, x = .int i) ∨ ∃ s, x = .str s)) ∨
      (∃ (p q : Addr) (xs ys : List V), x = .ref p ∧ y = .ref q ∧ ((H p = some (.lst xs) ∧ H q = some (.lst ys)) ∨ (H p = some (.tup xs) ∧ H q = some (.tup ys))) ∧ xs.length = ys.length ∧ xs.length ≤ 1000 ∧ ∀ (i : Nat) (x y : V), xs[i]? = some x → ys[i]? = some y → IsD H n x y)
def spSame (n : Nat) : Sp := fun vs H Q _ => ∃ x y : V, vs = [x, y] ∧ IsD H n x y ∧ ∀ H', Same H H' → Q (.bl true) H'
section
variable (K : PySem.W.Frag)
open PySem.W
theorem k_int_bl : kitOne K (.type "int") (.type "bool") = some false := by unfold kitOne kitCls; rfl
theorem k_bl_bl : kitOne K (.type "bool") (.type "bool") = some true := by unfold kitOne kitCls; rfl
end
section
variable {P : Program} {w : World} {K : PySem.W.Frag} {mg : Str → Option Value} {base : Heap}
theorem ok_mix (T : Tops K mg) : Df P w K mg base 1 "_law_mix" ["_law_cell", "_law_k"] spMix := by
  refine T.t_l_mix.df sc_l_mix (fun vs H Q E h => ?_) (fun cdv f A outer s H vs Q E hr h => ?_)
  · obtain ⟨a, k, rfl, _⟩ := h
    rfl
  obtain ⟨a, k, rfl, k1, k2, q⟩ := h
  refine ⟨_, (@pss_cons _ _ _ _ _ (@ps_set _ _ 2 _ _ _ _ sc_l_mix.nd rfl (Or.inl rfl) (@pe_op _ _ _ _ _ _ _ _ op_mod (@pe_op _ _ _ _ _ _ _ _ op_mul (@pe_op _ _ _ _ _ _ _ _ op_add (@pe_op _ _ _ _ _ _ _ _ op_add (@pe_op _ _ _ _ _ _ _ _ op_mod (@pv _ 0 _ _ (by rfl) (Or.inl rfl) (by decide) (by decide)) (@pe_int _ _ _ _)) (@pe_op _ _ _ _ _ _ _ _ op_mul (@pe_op _ _ _ _ _ _ _ _ op_mul (@pv _ 1 _ _ (by rfl) (Or.inl rfl) (by decide) (by decide)) (@pv _ 1 _ _ (by rfl) (Or.inl rfl) (by decide) (by decide))) (@pe_int _ _ _ _))) (@pe_int _ _ _ _)) (@pe_int _ _ _ _)) (@pe_int _ _ _ _)) (by rfl) (by first | exact .inl rfl | exact .inr rfl)) (@pss_one _ _ _ (@ps_ret _ _ _ _ (@pe_op _ _ _ _ _ _ _ _ op_mod (@pe_op _ _ _ _ _ _ _ _ op_mul (@pv _ 2 _ _ (by rfl) (Or.inl rfl) (by decide) (by decide)) (@pv _ 2 _ _ (by rfl) (Or.inl rfl) (by decide) (by decide))) (@pe_int _ _ _ _))))), ?_⟩
  refine ⟨_, rfl, _, _, rfl, rfl, (by show (0 : Int) < _; decide), _, rfl, _, rfl, _, _, rfl, rfl, .inl ⟨by omega, by omega⟩, _, _, rfl, rfl, .inr ⟨by decide, by decide⟩, _, _, rfl, rfl, _, _, rfl, rfl, _, _, rfl, rfl, .inr ⟨by decide, by decide⟩, _, _, rfl, rfl, (by show (0 : Int) < _; decide), ?_⟩
  have m0 := Int.emod_nonneg ((a % 2147483629 + k * k * 7919 + 11) * 48271) (show (2147483647 : Int) ≠ 0 by decide)
  have m1 := Int.emod_lt_of_pos ((a % 2147483629 + k * k * 7919 + 11) * 48271) (show (0 : Int) < 2147483647 by decide)
  refine ⟨_, rfl, _, rfl, _, _, rfl, rfl, .inl ⟨by omega, by omega⟩, _, _, rfl, rfl, (by show (0 : Int) < _; decide), ?_⟩
  exact q _ (Int.emod_nonneg _ (by decide)) (Int.lt_trans (Int.emod_lt_of_pos _ (by decide)) (by decide))
theorem ok_left (T : Tops K mg) : Df P w K mg base 1 "_law_left" ["_law_script", "_law_k"] (spLeft K) := by
  refine T.t_l_left.df sc_l_left (fun vs H Q E h => ?_) (fun cdv f A outer s H vs Q E hr h => ?_)
  · obtain ⟨a, ns, k, rfl, _⟩ := h
    rfl
  obtain ⟨a, ns, k, rfl, hS, h63, k0, k1, q⟩ := h
  refine ⟨_, (@pss_cons _ _ _ _ _ (@ps_set _ _ 2 _ _ _ _ sc_l_left.nd rfl (Or.inl rfl) (@pe_ifExp _ _ _ _ _ _ _ _ (@pt_cmpR _ _ _ _ _ _ _ _ op_lt (@pv _ 1 _ _ (by rfl) (Or.inl rfl) (by decide) (by decide)) (@pe_callB _ _ _ _ _ _ _ _ _ (lenQ K) (by rfl) T.b.n_len PySem.boot_len (@pa_cons _ _ _ _ _ (@pv _ 0 _ _ (by rfl) (Or.inl rfl) (by decide) (by decide)) (@pa_nil _) (by rfl)) (by decide) (by decide) (by rfl) (by rfl)) (nomark _)) (@pe_ix _ _ _ _ _ _ _ (ixL K) (@pv _ 0 _ _ (by rfl) (Or.inl rfl) (by decide) (by decide)) (@pv _ 1 _ _ (by rfl) (Or.inl rfl) (by decide) (by decide)) (fun _ _ => rfl)) (@pe_int _ _ _ _)) (by rfl) (by first | exact .inl rfl | exact .inr rfl)) (@pss_one _ _ _ (@ps_ret _ _ _ _ (@pe_lst _ _ _ _ (@pa_cons _ _ _ _ _ (@pe_op _ _ _ _ _ _ _ _ op_mul (@pe_callB _ _ _ _ _ _ _ _ _ call_abs (by rfl) T.b.n_abs boot_abs (@pa_cons _ _ _ _ _ (@pv _ 2 _ _ (by rfl) (Or.inl rfl) (by decide) (by decide)) (@pa_nil _) (by rfl)) (by decide) (by decide) (by rfl) (by rfl)) (@pe_callTy _ _ _ _ _ _ _ _ _ call_int1 (by rfl) T.b.n_int boot_int (@pa_cons _ _ _ _ _ (@pe_cmpR _ _ _ _ _ _ _ _ op_ge (@pe_callB _ _ _ _ _ _ _ _ _ call_abs (by rfl) T.b.n_abs boot_abs (@pa_cons _ _ _ _ _ (@pv _ 2 _ _ (by rfl) (Or.inl rfl) (by decide) (by decide)) (@pa_nil _) (by rfl)) (by decide) (by decide) (by rfl) (by rfl)) (@pe_op _ _ _ _ _ _ _ _ op_pow (@pe_int _ _ _ _) (@pe_int _ _ _ _)) (nomark _)) (@pa_nil _) (by rfl)) (by decide) (by decide) (by rfl) (by rfl))) (@pa_cons _ _ _ _ _ (@pe_op _ _ _ _ _ _ _ _ op_add (@pv _ 2 _ _ (by rfl) (Or.inl rfl) (by decide) (by decide)) (@pe_op _ _ _ _ _ _ _ _ op_mul (@pe_int _ _ _ _) (@pv _ 1 _ _ (by rfl) (Or.inl rfl) (by decide) (by decide)))) (@pa_cons _ _ _ _ _ (@pe_int _ _ _ _) (@pa_nil _) (by rfl)) (by rfl)) (by rfl)))))), ?_⟩
  have hl : (ns.map V.int).length = ns.length := List.length_map _
  have pw : CPow 10 18 := ⟨by decide, by decide, by decide⟩
  refine ⟨_, rfl, _, rfl, a, _, rfl, .inl hS, _, _, rfl, rfl, _, rfl, ?_⟩
  refine ite2 (fun c => ?_) (fun c => ?_)
  · have c' : k < (((ns.map V.int).length : Nat) : Int) := of_decide_eq_true c
    rw [hl] at c'
    obtain ⟨v, hv⟩ := at_int (ns := ns) k0 c'
    refine ⟨_, rfl, _, rfl, a, _, _, _, rfl, rfl, hS, hv, ?_⟩
    refine ⟨_, rfl, _, rfl, _, rfl, _, rfl, _, _, rfl, rfl, pw, _, _, rfl, rfl, .inr ⟨_, rfl, _, _, rfl, rfl, .inr (bit01 _), _, rfl, _, rfl, _, _, rfl, rfl, .inl ⟨by decide, by decide⟩, _, _, rfl, rfl, (by show 3 ≤ sizeLine; decide), fun p hp => ?_⟩⟩
    exact q p _ hp ⟨_, _, upd_same, Int.le_refl _⟩ (same_new hp _)
  · refine ⟨_, rfl, _, rfl, _, rfl, _, rfl, _, _, rfl, rfl, pw, _, _, rfl, rfl, .inr ⟨_, rfl, _, _, rfl, rfl, .inr (bit01 _), _, rfl, _, rfl, _, _, rfl, rfl, .inl ⟨by decide, by decide⟩, _, _, rfl, rfl, (by show 3 ≤ sizeLine; decide), fun p hp => ?_⟩⟩
    exact q p _ hp ⟨_, _, upd_same, Int.le_refl _⟩ (same_new hp _)
theorem ok_pick (T : Tops K mg) (f_l_mix : Df P w K mg base 1 "_law_mix" ["_law_cell", "_law_k"] spMix) : Df P w K mg base 2 "_law_pick" ["_law_left_here", "_law_many_here"] spPick := by
  refine T.t_l_pick.df sc_l_pick (fun vs H Q E h => ?_) (fun cdv f A outer s H vs Q E hr h => ?_)
  · obtain ⟨p, c, m, rfl, _⟩ := h
    rfl
  obtain ⟨p, c, m, rfl, ⟨a, b, hp, c0⟩, c1, m0, m1, q⟩ := h
  refine ⟨_, (@pss_cons _ _ _ _ _ (@ps_asg _ _ _ _ _ _ (@pe_op _ _ _ _ _ _ _ _ op_add (@pe_ix _ _ _ _ _ _ _ (ixL K) (@pv _ 0 _ _ (by rfl) (Or.inl rfl) (by decide) (by decide)) (@pe_int _ _ _ _) (fun _ _ => rfl)) (@pe_int _ _ _ _)) (@pg_sub _ _ _ _ _ _ _ (@pv _ 0 _ _ (by rfl) (Or.inl rfl) (by decide) (by decide)) (@pe_int _ _ _ _) set_list (by intro _; rfl)) (by rfl) (by rfl) (by rfl)) (@pss_cons _ _ _ _ _ (@ps_if _ _ _ _ _ _ _ _ (@pt_cmpR _ _ _ _ _ _ _ _ op_gt (@pe_ix _ _ _ _ _ _ _ (ixL K) (@pv _ 0 _ _ (by rfl) (Or.inl rfl) (by decide) (by decide)) (@pe_int _ _ _ _) (fun _ _ => rfl)) (@pe_int _ _ _ _) (nomark _)) (@pss_cons _ _ _ _ _ (@ps_set _ _ 2 _ _ _ _ sc_l_pick.nd rfl (Or.inl rfl) (@pe_op _ _ _ _ _ _ _ _ op_mod (@pe_ix _ _ _ _ _ _ _ (ixL K) (@pv _ 0 _ _ (by rfl) (Or.inl rfl) (by decide) (by decide)) (@pe_int _ _ _ _) (fun _ _ => rfl)) (@pv _ 1 _ _ (by rfl) (Or.inl rfl) (by decide) (by decide))) (by rfl) (by first | exact .inl rfl | exact .inr rfl)) (@pss_cons _ _ _ _ _ (@ps_asg _ _ _ _ _ _ (@pe_op _ _ _ _ _ _ _ _ op_fdiv (@pe_ix _ _ _ _ _ _ _ (ixL K) (@pv _ 0 _ _ (by rfl) (Or.inl rfl) (by decide) (by decide)) (@pe_int _ _ _ _) (fun _ _ => rfl)) (@pv _ 1 _ _ (by rfl) (Or.inl rfl) (by decide) (by decide))) (@pg_sub _ _ _ _ _ _ _ (@pv _ 0 _ _ (by rfl) (Or.inl rfl) (by decide) (by decide)) (@pe_int _ _ _ _) set_list (by intro _; rfl)) (by rfl) (by rfl) (by rfl)) (@pss_one _ _ _ (@ps_ret _ _ _ _ (@pv _ 2 _ _ (by rfl) (Or.inl rfl) (by decide) (by decide)))))) (@pss_nil _)) (@pss_one _ _ _ (@ps_ret _ _ _ _ (@pe_op _ _ _ _ _ _ _ _ op_mod (@pe_op _ _ _ _ _ _ _ _ op_fdiv (@pe_df _ _ _ _ _ _ _ _ _ _ _ f_l_mix hr (@pa_cons _ _ _ _ _ (@pe_df _ _ _ _ _ _ _ _ _ _ _ f_l_mix hr (@pa_cons _ _ _ _ _ (@pe_ix _ _ _ _ _ _ _ (ixL K) (@pv _ 0 _ _ (by rfl) (Or.inl rfl) (by decide) (by decide)) (@pe_int _ _ _ _) (fun _ _ => rfl)) (@pa_cons _ _ _ _ _ (@pe_ix _ _ _ _ _ _ _ (ixL K) (@pv _ 0 _ _ (by rfl) (Or.inl rfl) (by decide) (by decide)) (@pe_int _ _ _ _) (fun _ _ => rfl)) (@pa_nil _) (by rfl)) (by rfl)) (by first | decide | exact Nat.le_refl _ | omega) (by rfl) (by decide) (by rfl) (by rfl)) (@pa_cons _ _ _ _ _ (@pe_op _ _ _ _ _ _ _ _ op_add (@pe_ix _ _ _ _ _ _ _ (ixL K) (@pv _ 0 _ _ (by rfl) (Or.inl rfl) (by decide) (by decide)) (@pe_int _ _ _ _) (fun _ _ => rfl)) (@pe_int _ _ _ _)) (@pa_nil _) (by rfl)) (by rfl)) (by first | decide | exact Nat.le_refl _ | omega) (by rfl) (by decide) (by rfl) (by rfl)) (@pe_int _ _ _ _)) (@pv _ 1 _ _ (by rfl) (Or.inl rfl) (by decide) (by decide))))))), ?_⟩
  have u1 : (upd H p (.lst [.int a, .int b, .int (c + 1)])) p = some (.lst [.int a, .int b, .int (c + 1)]) := upd_same
  refine ⟨_, rfl, p, _, _, _, rfl, rfl, SqL.of hp, rfl, _, _, rfl, rfl, _, rfl, p, _, _, 2, rfl, rfl, hp, rfl, ?_⟩
  refine ⟨_, rfl, p, _, _, _, rfl, rfl, SqL.of u1, rfl, _, _, rfl, rfl, _, rfl, ?_⟩
  refine ite2 (fun d => ?_) (fun d => ?_)
  · refine ⟨_, rfl, p, _, _, _, rfl, rfl, SqL.of u1, rfl, _, rfl, _, _, rfl, rfl, m0, ?_⟩
    refine ⟨_, rfl, p, _, _, _, rfl, rfl, SqL.of u1, rfl, _, rfl, _, _, rfl, rfl, ⟨m0, by omega⟩, _, rfl, p, _, _, 0, rfl, rfl, u1, rfl, ?_⟩
    refine ⟨_, rfl, ?_⟩
    refine q _ _ (Int.emod_nonneg _ (by omega)) (Int.emod_lt_of_pos _ m0) ⟨a / m, b, upd_same, by omega⟩ fun e o h n => ?_
    rw [upd_ne n, upd_ne n]
    exact h
  · refine ⟨_, rfl, p, _, _, _, rfl, rfl, SqL.of u1, rfl, _, rfl, p, _, _, _, rfl, rfl, SqL.of u1, rfl, _, _, rfl, by omega, by omega, fun r r0 r1 => ?_⟩
    refine ⟨_, rfl, p, _, _, _, rfl, rfl, SqL.of u1, rfl, _, _, rfl, rfl, _, _, rfl, by omega, by omega, fun r' r0' r1' => ?_⟩
    refine ⟨_, _, rfl, rfl, ⟨by decide, by decide⟩, _, rfl, _, _, rfl, rfl, m0, ?_⟩
    refine q _ _ (Int.emod_nonneg _ (by omega)) (Int.emod_lt_of_pos _ m0) ⟨a, b, upd_same, by omega⟩ fun e o h n => ?_
    rw [upd_ne n]
    exact h
theorem iteD {c A B : Prop} [Decidable c] (hc : c) (h : A) : if decide c = true then A else B := by
  rw [if_pos (decide_eq_true hc)]
  exact h
theorem iteDN {c A B : Prop} [Decidable c] (hc : ¬ c) (h : B) : if decide c = true then A else B := by
  rw [if_neg (by rw [decide_eq_false hc]; exact Bool.false_ne_true)]
  exact h
theorem Left.new {H : Hp} {p l : Addr} {c : Int} {o : HO} (h : Left H p c) (n : H l = none) : Left (upd H l o) p c := by
  obtain ⟨a, b, hp, c0⟩ := h
  exact ⟨a, b, by rw [upd_ne (ne_of_none hp n)]; exact hp, c0⟩
theorem Left.ge {H : Hp} {p : Addr} {c : Int} (h : Left H p c) : 0 ≤ c := by obtain ⟨a, b, hp, c0⟩ := h; exact c0
theorem Left.here {H : Hp} {p : Addr} {c : Int} (h : Left H p c) : ∃ o, H p = some o := by obtain ⟨a, b, hp, c0⟩ := h; exact ⟨_, hp⟩
theorem Left.at {H : Hp} {p l : Addr} {c : Int} {o : HO} (h : Left H p c) (n : p ≠ l) : Left (upd H l o) p c := by
  obtain ⟨a, b, hp, c0⟩ := h
  exact ⟨a, b, by rw [upd_ne n]; exact hp, c0⟩
theorem Left.same {H H' : Hp} {p : Addr} {c : Int} (h : Left H p c) (s : Same H H') : Left H' p c := by obtain ⟨b1, b2, hb, c0⟩ := h; exact ⟨b1, b2, s _ _ hb, c0⟩
theorem cutV_nat (xs : List V) (i j : Nat) (h : i ≤ xs.length) (h2 : j ≤ xs.length) : cutV xs (some i) (some j) = (xs.drop i).take (j - i) := by
  have e : ∀ (k d : Nat), k ≤ xs.length → HT.sIx xs.length d (some (k : Int)) = k := fun k d hk => by
    unfold HT.sIx
    simp only []
    rw [if_neg (by omega)]
    omega
  unfold cutV
  rw [e i _ h, e j _ h2]
theorem free_of {p : Addr} {H H1 : Hp} {l : Addr} (B : But p H H1) (n : p ≠ l) (h : H1 l = none) : H l = none := by
  cases w' : H l with
  | none => rfl
  | some u => rw [B l u w' n.symm] at h; cases h
theorem at_intM {ns : List Int} {k : Int} (h0 : 0 ≤ k) (h : k < (ns.length : Int)) : ∃ v ∈ ns, atI (ns.map V.int) k = some (.int v) := by
  have hk : k.toNat < ns.length := by omega
  have ek : k = ((k.toNat : Nat) : Int) := by omega
  have q : atI (ns.map V.int) ((k.toNat : Nat) : Int) = some (.int ns[k.toNat]) := atI_nat (by rw [List.getElem?_map, List.getElem?_eq_getElem hk] <;> rfl)
  rw [← ek] at q
  exact ⟨_, List.getElem_mem hk, q⟩
theorem lay_ints : ∀ ns : List Int, PyData.canLayAll0 (ns.map PyData.int) = true
  | [] => rfl
  | x :: r => by simp [PyData.canLayAll0, PyData.canLay0, lay_ints r]
theorem depth_ints : ∀ ns : List Int, PyData.depthAll (ns.map PyData.int) = 0
  | [] => rfl
  | _ :: r => by simp [PyData.depthAll, PyData.depth, depth_ints r]
theorem shaped_ints (ns : List Int) : SeqAt.shaped (.list (ns.map PyData.int)) = true := by simp [SeqAt.shaped, PyData.canLay0, PyData.depth, lay_ints ns, depth_ints]
theorem dv_ints {K : PySem.W.Frag} {H : Hp} : ∀ ns : List Int, DVs K H (ns.map V.int) (ns.map PyData.int)
  | [] => .nil
  | s :: r => .cons (.int s) (dv_ints r)
theorem iteNE {c A B : Prop} [Decidable c] (hc : c) (h : B) : if (!decide c) = true then A else B := by
  rw [if_neg (by rw [decide_eq_true hc]; simp)]
  exact h
inductive PT where
  | leaf (k : Int)
  | node (l : List PT)
mutual
inductive TV (H : Hp) : V → PT → Prop where
  | leaf (k : Int) : TV H (.int k) (.leaf k)
  | node {a : Addr} {xs : List V} {l : List PT} : H a = some (.tup xs) → TVs H xs l → TV H (.ref a) (.node l)
inductive TVs (H : Hp) : List V → List PT → Prop where
  | nil : TVs H [] []
  | cons {x : V} {t : PT} {xs : List V} {l : List PT} : TV H x t → TVs H xs l → TVs H (x :: xs) (t :: l)
end
mutual
theorem TV.mono {H H' : Hp} (s : ∀ a xs, H a = some (.tup xs) → H' a = some (.tup xs)) : ∀ {x : V} {t : PT}, TV H x t → TV H' x t
  | _, _, .leaf k => .leaf k
  | _, _, .node h hs => .node (s _ _ h) (hs.mono s)
theorem TVs.mono {H H' : Hp} (s : ∀ a xs, H a = some (.tup xs) → H' a = some (.tup xs)) : ∀ {xs : List V} {l : List PT}, TVs H xs l → TVs H' xs l
  | _, _, .nil => .nil
  | _, _, .cons h hs => .cons (h.mono s) (hs.mono s)
end
mutual
def toD : PT → PyData
  | .leaf k => .int k
  | .node l => .tuple (toDs l)
def toDs : List PT → List PyData
  | [] => []
  | t :: r => toD t :: toDs r
end
mutual
theorem TV.dv {K : PySem.W.Frag} {H : Hp} : ∀ {x : V} {t : PT}, TV H x t → DV K H x (toD t)
  | _, _, .leaf k => .int k
  | _, _, .node h hs => .tup (SqT.of h) hs.dv
theorem TVs.dv {K : PySem.W.Frag} {H : Hp} : ∀ {xs : List V} {l : List PT}, TVs H xs l → DVs K H xs (toDs l)
  | _, _, .nil => .nil
  | _, _, .cons h hs => .cons h.dv hs.dv
end
theorem TVs.len {H : Hp} : ∀ {xs : List V} {l : List PT}, TVs H xs l → xs.length = l.length
  | _, _, .nil => rfl
  | _, _, .cons _ hs => by rw [List.length_cons, List.length_cons, hs.len]
theorem TVs.app {H : Hp} : ∀ {xs ys : List V} {l m : List PT}, TVs H xs l → TVs H ys m → TVs H (xs ++ ys) (l ++ m)
  | _, _, _, _, .nil, h => h
  | _, _, _, _, .cons h hs, g => .cons h (hs.app g)
theorem TVs.take {H : Hp} : ∀ {xs : List V} {l : List PT} (n : Nat), TVs H xs l → TVs H (xs.take n) (l.take n)
  | _, _, 0, _ => by rw [List.take_zero, List.take_zero]; exact .nil
  | _, _, _ + 1, .nil => .nil
  | _, _, n + 1, .cons h hs => .cons h (hs.take n)
theorem TVs.drop {H : Hp} : ∀ {xs : List V} {l : List PT} (n : Nat), TVs H xs l → TVs H (xs.drop n) (l.drop n)
  | _, _, 0, h => h
  | _, _, _ + 1, .nil => .nil
  | _, _, n + 1, .cons _ hs => hs.drop n
theorem TVs.at {H : Hp} : ∀ {xs : List V} {l : List PT} {i : Nat} {x : V}, TVs H xs l → xs[i]? = some x → ∃ t, l[i]? = some t ∧ TV H x t
  | _, _, i, x, .nil, h => by simp at h
  | _, _, 0, x, .cons (t := t) h _, e => by simp at e; subst e; exact ⟨t, rfl, h⟩
  | _, _, i + 1, x, .cons _ hs, e => by simpa using hs.at (i := i) (by simpa using e)
mutual
def tSz (ns : List Int) : PT → Int
  | .leaf k => ns.getD k.toNat 0
  | .node l => tSzs ns l
def tSzs (ns : List Int) : List PT → Int
  | [] => 0
  | t :: r => tSz ns t + tSzs ns r
end
mutual
def tCo (ns : List Int) : PT → Int
  | .leaf _ => 0
  | .node l => tCos ns l + tSzs ns l
def tCos (ns : List Int) : List PT → Int
  | [] => 0
  | t :: r => tCo ns t + tCos ns r
end
mutual
def tLf : PT → Nat
  | .leaf _ => 1
  | .node l => tLfs l
def tLfs : List PT → Nat
  | [] => 0
  | t :: r => tLf t + tLfs r
end
mutual
def tDp : PT → Nat
  | .leaf _ => 0
  | .node l => tDps l + 1
def tDps : List PT → Nat
  | [] => 0
  | t :: r => max (tDp t) (tDps r)
end
mutual
def tNo : PT → Nat
  | .leaf _ => 1
  | .node l => tNos l + 1
def tNos : List PT → Nat
  | [] => 0
  | t :: r => tNo t + tNos r
end
mutual
def tOk (n : Nat) : PT → Prop
  | .leaf k => 0 ≤ k ∧ k < n
  | .node l => tOks n l
def tOks (n : Nat) : List PT → Prop
  | [] => True
  | t :: r => tOk n t ∧ tOks n r
end
theorem tLfs_app : ∀ a b : List PT, tLfs (a ++ b) = tLfs a + tLfs b
  | [], b => by show tLfs b = 0 + tLfs b; omega
  | t :: r, b => by show tLf t + tLfs (r ++ b) = tLf t + tLfs r + tLfs b; rw [tLfs_app r b]; omega
theorem tOks_app (n : Nat) : ∀ a b : List PT, tOks n (a ++ b) ↔ tOks n a ∧ tOks n b
  | [], b => by show tOks n b ↔ True ∧ tOks n b; simp
  | t :: r, b => by show tOk n t ∧ tOks n (r ++ b) ↔ (tOk n t ∧ tOks n r) ∧ tOks n b; rw [tOks_app n r b, and_assoc]
mutual
theorem tNo_pos : ∀ t : PT, 1 ≤ tNo t
  | .leaf _ => Nat.le_refl _
  | .node l => by show 1 ≤ tNos l + 1; omega
theorem tNos_len : ∀ l : List PT, l.length ≤ tNos l
  | [] => Nat.le_refl _
  | t :: r => by have := tNo_pos t; have := tNos_len r; show r.length + 1 ≤ tNo t + tNos r; omega
end
mutual
theorem tLf_no : ∀ t : PT, tLf t ≤ tNo t
  | .leaf _ => Nat.le_refl _
  | .node l => by have := tLfs_no l; show tLfs l ≤ tNos l + 1; omega
theorem tLfs_no : ∀ l : List PT, tLfs l ≤ tNos l
  | [] => Nat.le_refl _
  | t :: r => by have := tLf_no t; have := tLfs_no r; show tLf t + tLfs r ≤ tNo t + tNos r; omega
end
def tGd (t : PT) : Prop := tDp t + 1 ≤ tLf t ∧ tNo t + 1 ≤ 2 * tLf t
def tGds : List PT → Prop
  | [] => True
  | t :: r => tGd t ∧ tGds r
theorem tGds_app : ∀ a b : List PT, tGds (a ++ b) ↔ tGds a ∧ tGds b
  | [], b => by show tGds b ↔ True ∧ tGds b; simp
  | t :: r, b => by show tGd t ∧ tGds (r ++ b) ↔ (tGd t ∧ tGds r) ∧ tGds b; rw [tGds_app r b, and_assoc]
theorem tGds_sum : ∀ l : List PT, tGds l → tDps l + l.length ≤ tLfs l ∧ tNos l + l.length ≤ 2 * tLfs l ∨ l = []
  | [], _ => .inr rfl
  | [t], h => .inl (by have h1 := h.1.1; have h2 := h.1.2; show max (tDp t) 0 + 1 ≤ tLf t + 0 ∧ tNo t + 0 + 1 ≤ 2 * (tLf t + 0); omega)
  | t :: u :: r, h => by
    have ih := (tGds_sum (u :: r) h.2).resolve_right (by simp)
    have h1 := h.1.1
    have h2 := h.1.2
    left
    show max (tDp t) (tDps (u :: r)) + ((u :: r).length + 1) ≤ tLf t + tLfs (u :: r) ∧ tNo t + tNos (u :: r) + ((u :: r).length + 1) ≤ 2 * (tLf t + tLfs (u :: r))
    omega
theorem tGd_node {l : List PT} (h : tGds l) (n : 2 ≤ l.length) : tGd (.node l) := by
  have := (tGds_sum l h).resolve_right (by intro e; rw [e] at n; simp at n)
  show tDps l + 1 + 1 ≤ tLfs l ∧ tNos l + 1 + 1 ≤ 2 * tLfs l
  omega
theorem int_small {k : Int} (h0 : 0 ≤ k) (h1 : k ≤ 10000000000) : (PyData.int k).intsShort 13 = true ∧ (PyData.int k).showable = true ∧ (PyData.int k).weight ≤ 40 := by
  have hl : k.natAbs < 2 ^ 34 := by omega
  have hlog : k.natAbs.log2 < 34 := by
    by_cases e : k.natAbs = 0
    · rw [e]; decide
    · exact (Nat.log2_lt e).mpr hl
  refine ⟨?_, ?_, ?_⟩
  · simp only [PyData.intsShort]
    exact decide_eq_true (PyData.shown_int_le (by omega))
  · simp only [PyData.showable]
    exact decide_eq_true (by omega)
  · simp only [PyData.weight]
    split <;> omega
mutual
theorem tree_fit {n : Nat} (hn : n ≤ 1000) : ∀ t : PT, tOk n t → (toD t).canLay0 = true ∧ (toD t).depth = tDp t ∧ (toD t).weight + 1 ≤ 42 * tNo t ∧ (toD t).intsShort 13 = true ∧ (toD t).showable = true
  | .leaf k, h => by
    obtain ⟨h0, h1⟩ := h
    obtain ⟨a, b, c⟩ := int_small h0 (by omega)
    refine ⟨by simp [toD, PyData.canLay0], by simp [toD, PyData.depth, tDp], ?_, a, b⟩
    show (PyData.int k).weight + 1 ≤ 42 * 1
    omega
  | .node l, h => by
    obtain ⟨a, b, c, d, e⟩ := trees_fit hn l h
    refine ⟨by simpa [toD, PyData.canLay0] using a, by simp [toD, PyData.depth, tDp, b], ?_, by simpa [toD, PyData.intsShort] using d, by simpa [toD, PyData.showable] using e⟩
    show PyData.weightAll (toDs l) + 1 ≤ 42 * (tNos l + 1)
    omega
theorem trees_fit {n : Nat} (hn : n ≤ 1000) : ∀ l : List PT, tOks n l → PyData.canLayAll0 (toDs l) = true ∧ PyData.depthAll (toDs l) = tDps l ∧ PyData.weightAll (toDs l) ≤ 42 * tNos l ∧ PyData.intsShortAll 13 (toDs l) = true ∧ PyData.showableAll (toDs l) = true
  | [], _ => ⟨rfl, rfl, Nat.zero_le _, rfl, rfl⟩
  | t :: r, h => by
    obtain ⟨a, b, c, d, e⟩ := tree_fit hn t h.1
    obtain ⟨a', b', c', d', e'⟩ := trees_fit hn r h.2
    have hp := tNo_pos t
    refine ⟨by simp [toDs, PyData.canLayAll0, a, a'], by simp [toDs, PyData.depthAll, tDps, b, b'], ?_, by simp [toDs, PyData.intsShortAll, d, d'], by simp [toDs, PyData.showableAll, e, e']⟩
    show (toD t).weight + 1 + PyData.weightAll (toDs r) ≤ 42 * (tNo t + tNos r)
    omega
end
theorem dv_intsK {K : PySem.W.Frag} {H : Hp} : ∀ ns : List Int, DVs K H (ns.map V.int) (ns.map PyData.int)
  | [] => .nil
  | s :: r => .cons (.int s) (dv_intsK r)
def spMany : Sp := fun vs H Q _ => ∃ (p : Addr) (c : Int), vs = [.ref p] ∧ Left H p c ∧ c < 2 ^ 50 ∧ ∀ (v c' : Int) (H' : Hp), 0 ≤ v → v ≤ 12 → Left H' p c' → c ≤ c' → c' ≤ c + 3 → But p H H' → Q (.int v) H'
theorem ok_many (T : Tops K mg) (f_l_pick : Df P w K mg base 2 "_law_pick" ["_law_left_here", "_law_many_here"] spPick) : Df P w K mg base 3 "_law_many" ["_law_left_here"] spMany := by
  refine T.t_l_many.df sc_l_many (fun vs H Q E h => ?_) (fun cdv f A outer s H vs Q E hr h => ?_)
  · obtain ⟨p, c, rfl, _⟩ := h
    rfl
  obtain ⟨p, c, rfl, hL, c1, q⟩ := h
  refine ⟨_, (@pss_cons _ _ _ _ _ (@ps_set _ _ 1 _ _ _ _ sc_l_many.nd rfl (Or.inl rfl) (@pe_df _ _ _ _ _ _ _ _ _ _ _ f_l_pick hr (@pa_cons _ _ _ _ _ (@pv _ 0 _ _ (by rfl) (Or.inl rfl) (by decide) (by decide)) (@pa_cons _ _ _ _ _ (@pe_int _ _ _ _) (@pa_nil _) (by rfl)) (by rfl)) (by first | decide | exact Nat.le_refl _ | omega) (by rfl) (by decide) (by rfl) (by rfl)) (by rfl) (by first | exact .inl rfl | exact .inr rfl)) (@pss_one _ _ _ (@ps_ret _ _ _ _ (@pe_ix _ _ _ _ _ _ _ (ixL K) (@pe_lst _ _ _ _ (@pa_cons _ _ _ _ _ (@pe_int _ _ _ _) (@pa_cons _ _ _ _ _ (@pe_int _ _ _ _) (@pa_cons _ _ _ _ _ (@pe_int _ _ _ _) (@pa_cons _ _ _ _ _ (@pe_int _ _ _ _) (@pa_cons _ _ _ _ _ (@pe_int _ _ _ _) (@pa_cons _ _ _ _ _ (@pe_int _ _ _ _) (@pa_cons _ _ _ _ _ (@pe_df _ _ _ _ _ _ _ _ _ _ _ f_l_pick hr (@pa_cons _ _ _ _ _ (@pv _ 0 _ _ (by rfl) (Or.inl rfl) (by decide) (by decide)) (@pa_cons _ _ _ _ _ (@pe_int _ _ _ _) (@pa_nil _) (by rfl)) (by rfl)) (by first | decide | exact Nat.le_refl _ | omega) (by rfl) (by decide) (by rfl) (by rfl)) (@pa_cons _ _ _ _ _ (@pe_op _ _ _ _ _ _ _ _ op_add (@pe_int _ _ _ _) (@pe_df _ _ _ _ _ _ _ _ _ _ _ f_l_pick hr (@pa_cons _ _ _ _ _ (@pv _ 0 _ _ (by rfl) (Or.inl rfl) (by decide) (by decide)) (@pa_cons _ _ _ _ _ (@pe_int _ _ _ _) (@pa_nil _) (by rfl)) (by rfl)) (by first | decide | exact Nat.le_refl _ | omega) (by rfl) (by decide) (by rfl) (by rfl))) (@pa_nil _) (by rfl)) (by rfl)) (by rfl)) (by rfl)) (by rfl)) (by rfl)) (by rfl)) (by rfl))) (@pv _ 1 _ _ (by rfl) (Or.inl rfl) (by decide) (by decide)) (fun _ _ => rfl))))), ?_⟩
  have c0 := hL.ge
  refine ⟨_, rfl, p, c, _, rfl, hL, by omega, by decide, by decide, fun wy H1 w0 w1 L1 B1 => ?_⟩
  refine ⟨_, rfl, p, c + 1, _, rfl, L1, by omega, by decide, by decide, fun d1 H2 d10 d11 L2 B2 => ?_⟩
  refine ⟨_, rfl, p, c + 1 + 1, _, rfl, L2, by omega, by decide, by decide, fun d2 H3 d20 d21 L3 B3 => ⟨_, _, rfl, rfl, (by show 8 ≤ sizeLine; decide), fun e he => ?_⟩⟩
  obtain ⟨v, hv, hat⟩ := at_intM (ns := [2, 3, 4, 5, 6, 3, d1, 7 + d2]) w0 w1
  have hv1 : 0 ≤ v ∧ v ≤ 12 := by
    simp only [List.mem_cons, List.not_mem_nil, or_false] at hv
    omega
  exact ⟨_, rfl, e, _, _, _, rfl, rfl, SqL.of upd_same, hat, q v _ _ hv1.1 hv1.2 (L3.new he) (by omega) (by omega) (((B1.trans B2).trans B3).trans (But.same (same_new he _)))⟩
def spWays : Sp := fun vs H Q _ => ∃ (p : Addr) (c : Int), vs = [.ref p] ∧ Left H p c ∧ c < 2 ^ 50 ∧ ∀ (v : Int) (H' : Hp), 2 ≤ v → v ≤ 6 → Left H' p (c + 1) → But p H H' → Q (.int v) H'
theorem ok_ways (T : Tops K mg) (f_l_pick : Df P w K mg base 2 "_law_pick" ["_law_left_here", "_law_many_here"] spPick) : Df P w K mg base 3 "_law_ways" ["_law_left_here"] spWays := by
  refine T.t_l_ways.df sc_l_ways (fun vs H Q E h => ?_) (fun cdv f A outer s H vs Q E hr h => ?_)
  · obtain ⟨p, c, rfl, _⟩ := h
    rfl
  obtain ⟨p, c, rfl, hL, c1, q⟩ := h
  refine ⟨_, (@pss_one _ _ _ (@ps_ret _ _ _ _ (@pe_ix _ _ _ _ _ _ _ (ixL K) (@pe_lst _ _ _ _ (@pa_cons _ _ _ _ _ (@pe_int _ _ _ _) (@pa_cons _ _ _ _ _ (@pe_int _ _ _ _) (@pa_cons _ _ _ _ _ (@pe_int _ _ _ _) (@pa_cons _ _ _ _ _ (@pe_int _ _ _ _) (@pa_cons _ _ _ _ _ (@pe_int _ _ _ _) (@pa_cons _ _ _ _ _ (@pe_int _ _ _ _) (@pa_nil _) (by rfl)) (by rfl)) (by rfl)) (by rfl)) (by rfl)) (by rfl))) (@pe_df _ _ _ _ _ _ _ _ _ _ _ f_l_pick hr (@pa_cons _ _ _ _ _ (@pv _ 0 _ _ (by rfl) (Or.inl rfl) (by decide) (by decide)) (@pa_cons _ _ _ _ _ (@pe_int _ _ _ _) (@pa_nil _) (by rfl)) (by rfl)) (by first | decide | exact Nat.le_refl _ | omega) (by rfl) (by decide) (by rfl) (by rfl)) (fun _ _ => rfl)))), ?_⟩
  refine ⟨(by show 6 ≤ sizeLine; decide), fun e he => ?_⟩
  have npe : p ≠ e := by obtain ⟨o, ho⟩ := hL.here; exact ne_of_none ho he
  refine ⟨_, rfl, p, c, _, rfl, hL.new he, by omega, by decide, by decide, fun wy H1 w0 w1 L1 B1 => ?_⟩
  obtain ⟨v, hv, hat⟩ := at_intM (ns := [2, 3, 2, 4, 5, 6]) w0 w1
  have hv1 : 2 ≤ v ∧ v ≤ 6 := by
    simp only [List.mem_cons, List.not_mem_nil, or_false] at hv
    omega
  have he1 : H1 e = some (.lst (([2, 3, 2, 4, 5, 6] : List Int).map V.int)) := B1 e _ upd_same npe.symm
  exact ⟨e, _, _, _, rfl, rfl, SqL.of he1, hat, q v _ hv1.1 hv1.2 L1 ((But.same (same_new he _)).trans B1)⟩
def spSizes : Sp := fun vs H Q _ => ∃ (p : Addr) (c : Int), vs = [.ref p, .int 12] ∧ Left H p c ∧ c < 2 ^ 40 ∧
  ∀ (r : Addr) (ns : List Int) (c' : Int) (H' : Hp), H r = none → H' r = some (.lst (ns.map V.int)) → 1 ≤ ns.length → ns.length ≤ 12 → (∀ v ∈ ns, 0 ≤ v ∧ v ≤ 1000000000) → Left H' p c' → c ≤ c' → c' ≤ c + 100 → But p H H' → Q (.ref r) H'
theorem ok_sizes (T : Tops K mg) (f_l_pick : Df P w K mg base 2 "_law_pick" ["_law_left_here", "_law_many_here"] spPick) (f_l_many : Df P w K mg base 3 "_law_many" ["_law_left_here"] spMany) : Df P w K mg base 4 "_law_sizes" ["_law_left_here", "_law_most"] spSizes := by
  refine T.t_l_sizes.df sc_l_sizes (fun vs H Q E h => ?_) (fun cdv f A outer s H vs Q E hr h => ?_)
  · obtain ⟨p, c, rfl, _⟩ := h
    rfl
  obtain ⟨p, c, rfl, hL, c1, q⟩ := h
  refine ⟨_, (@pss_cons _ _ _ _ _ (@ps_set _ _ 2 _ _ _ _ sc_l_sizes.nd rfl (Or.inl rfl) (@pe_callB _ _ _ _ _ _ _ _ _ (call_max2 rfl) (by rfl) T.b.n_max boot_max (@pa_cons _ _ _ _ _ (@pe_int _ _ _ _) (@pa_cons _ _ _ _ _ (@pe_callB _ _ _ _ _ _ _ _ _ (call_min2 rfl) (by rfl) T.b.n_min boot_min (@pa_cons _ _ _ _ _ (@pv _ 1 _ _ (by rfl) (Or.inl rfl) (by decide) (by decide)) (@pa_cons _ _ _ _ _ (@pe_df _ _ _ _ _ _ _ _ _ _ _ f_l_many hr (@pa_cons _ _ _ _ _ (@pv _ 0 _ _ (by rfl) (Or.inl rfl) (by decide) (by decide)) (@pa_nil _) (by rfl)) (by first | decide | exact Nat.le_refl _ | omega) (by rfl) (by decide) (by rfl) (by rfl)) (@pa_nil _) (by rfl)) (by rfl)) (by decide) (by decide) (by rfl) (by rfl)) (@pa_nil _) (by rfl)) (by rfl)) (by decide) (by decide) (by rfl) (by rfl)) (by rfl) (by first | exact .inl rfl | exact .inr rfl)) (@pss_cons _ _ _ _ _ (@ps_set _ _ 3 _ _ _ _ sc_l_sizes.nd rfl (Or.inl rfl) (@pe_df _ _ _ _ _ _ _ _ _ _ _ f_l_pick hr (@pa_cons _ _ _ _ _ (@pv _ 0 _ _ (by rfl) (Or.inl rfl) (by decide) (by decide)) (@pa_cons _ _ _ _ _ (@pe_int _ _ _ _) (@pa_nil _) (by rfl)) (by rfl)) (by first | decide | exact Nat.le_refl _ | omega) (by rfl) (by decide) (by rfl) (by rfl)) (by rfl) (by first | exact .inl rfl | exact .inr rfl)) (@pss_cons _ _ _ _ _ (@ps_set _ _ 4 _ _ _ _ sc_l_sizes.nd rfl (Or.inl rfl) (@pe_lst _ _ _ _ (@pa_nil _)) (by rfl) (by first | exact .inl rfl | exact .inr rfl)) (@pss_cons _ _ _ _ _ (@ps_for _ _ _ _ _ _ _ _ PassesOwn.never rfl (@pi_range1 _ _ _ _ _ _ rfl T.b.n_range (@pa_cons _ _ _ _ _ (@pv _ 2 _ _ (by rfl) (Or.inl rfl) (by decide) (by decide)) (@pa_nil _) (by rfl)) (by rfl)) (@pg_name _ _ 5 _ sc_l_sizes.nd rfl (Or.inl rfl) (by first | exact .inl rfl | exact .inr rfl)) (@pss_cons _ _ _ _ _ (@ps_set _ _ 6 _ _ _ _ sc_l_sizes.nd rfl (Or.inl rfl) (@pe_lst _ _ _ _ (@pa_cons _ _ _ _ _ (@pe_df _ _ _ _ _ _ _ _ _ _ _ f_l_pick hr (@pa_cons _ _ _ _ _ (@pv _ 0 _ _ (by rfl) (Or.inl rfl) (by decide) (by decide)) (@pa_cons _ _ _ _ _ (@pe_int _ _ _ _) (@pa_nil _) (by rfl)) (by rfl)) (by first | decide | exact Nat.le_refl _ | omega) (by rfl) (by decide) (by rfl) (by rfl)) (@pa_cons _ _ _ _ _ (@pe_op _ _ _ _ _ _ _ _ op_mul (@pe_df _ _ _ _ _ _ _ _ _ _ _ f_l_pick hr (@pa_cons _ _ _ _ _ (@pv _ 0 _ _ (by rfl) (Or.inl rfl) (by decide) (by decide)) (@pa_cons _ _ _ _ _ (@pe_int _ _ _ _) (@pa_nil _) (by rfl)) (by rfl)) (by first | decide | exact Nat.le_refl _ | omega) (by rfl) (by decide) (by rfl) (by rfl)) (@pe_df _ _ _ _ _ _ _ _ _ _ _ f_l_pick hr (@pa_cons _ _ _ _ _ (@pv _ 0 _ _ (by rfl) (Or.inl rfl) (by decide) (by decide)) (@pa_cons _ _ _ _ _ (@pe_int _ _ _ _) (@pa_nil _) (by rfl)) (by rfl)) (by first | decide | exact Nat.le_refl _ | omega) (by rfl) (by decide) (by rfl) (by rfl))) (@pa_cons _ _ _ _ _ (@pe_int _ _ _ _) (@pa_cons _ _ _ _ _ (@pe_op _ _ _ _ _ _ _ _ op_add (@pe_int _ _ _ _) (@pe_op _ _ _ _ _ _ _ _ op_mul (@pv _ 5 _ _ (by rfl) (Or.inl rfl) (by decide) (by decide)) (@pv _ 5 _ _ (by rfl) (Or.inl rfl) (by decide) (by decide)))) (@pa_nil _) (by rfl)) (by rfl)) (by rfl)) (by rfl))) (by rfl) (by first | exact .inl rfl | exact .inr rfl)) (@pss_one _ _ _ (@ps_expr _ _ _ _ (@pe_bm _ _ _ _ _ _ _ _ _ _ _ _ PySem.F.plainAttrs_list PySem.F.slot_list_append PySem.F.type_list_append mt_append (@pv _ 4 _ _ (by rfl) (Or.inl rfl) (by decide) (by decide)) (@pa_cons _ _ _ _ _ (@pe_ix _ _ _ _ _ _ _ (ixL K) (@pe_op _ _ _ _ _ _ _ _ op_cat (@pv _ 6 _ _ (by rfl) (Or.inl rfl) (by decide) (by decide)) (@pe_lst _ _ _ _ (@pa_cons _ _ _ _ _ (@pe_op _ _ _ _ _ _ _ _ op_sub (@pe_op _ _ _ _ _ _ _ _ op_pow (@pe_int _ _ _ _) (@pe_int _ _ _ _)) (@pe_df _ _ _ _ _ _ _ _ _ _ _ f_l_pick hr (@pa_cons _ _ _ _ _ (@pv _ 0 _ _ (by rfl) (Or.inl rfl) (by decide) (by decide)) (@pa_cons _ _ _ _ _ (@pe_int _ _ _ _) (@pa_nil _) (by rfl)) (by rfl)) (by first | decide | exact Nat.le_refl _ | omega) (by rfl) (by decide) (by rfl) (by rfl))) (@pa_cons _ _ _ _ _ (@pe_df _ _ _ _ _ _ _ _ _ _ _ f_l_pick hr (@pa_cons _ _ _ _ _ (@pv _ 0 _ _ (by rfl) (Or.inl rfl) (by decide) (by decide)) (@pa_cons _ _ _ _ _ (@pe_op _ _ _ _ _ _ _ _ op_add (@pe_op _ _ _ _ _ _ _ _ op_pow (@pe_int _ _ _ _) (@pe_int _ _ _ _)) (@pe_int _ _ _ _)) (@pa_nil _) (by rfl)) (by rfl)) (by first | decide | exact Nat.le_refl _ | omega) (by rfl) (by decide) (by rfl) (by rfl)) (@pa_nil _) (by rfl)) (by rfl)))) (@pv _ 3 _ _ (by rfl) (Or.inl rfl) (by decide) (by decide)) (fun _ _ => rfl)) (@pa_nil _) (by rfl)) (by rfl) (by rfl) (by rfl) (by rfl) (by rfl)) (by rfl)))) (by intro _; rfl)) (@pss_one _ _ _ (@ps_ret _ _ _ _ (@pv _ 4 _ _ (by rfl) (Or.inl rfl) (by decide) (by decide)))))))), ?_⟩
  have c0 := hL.ge
  refine ⟨_, rfl, _, rfl, p, c, rfl, hL, by omega, fun mv c' H1 m0 m1 L1 a1 a2 B1 => ⟨_, _, rfl, _, _, rfl, ?_⟩⟩
  obtain ⟨many, hmany, hm0, hm1⟩ : ∃ many : Int, (if (if mv < 12 then mv else (12 : Int)) > 1 then (if mv < 12 then mv else (12 : Int)) else 1) = many ∧ 1 ≤ many ∧ many ≤ 12 := ⟨_, rfl, by split <;> split at * <;> omega, by split <;> split at * <;> omega⟩
  simp only [hmany]
  refine ⟨_, rfl, p, c', _, rfl, L1, by omega, by decide, by decide, fun wy H2 w0 w1 L2 B2 => ⟨(by show 0 ≤ sizeLine; decide), fun r hr0 => ?_⟩⟩
  have npr : p ≠ r := by obtain ⟨o, ho⟩ := L2.here; exact ne_of_none ho hr0
  have B02 := B1.trans B2
  have hrn : H r = none := free_of B02 npr hr0
  refine ⟨_, rfl, _, rfl, by omega, by omega, ?_⟩
  refine for_range (fun i σ H3 => ∃ (ns : List Int) (v5 v6 : Option V) (c3 : Int), σ = [some (.ref p), some (.int 12), some (.int many), some (.int wy), some (.ref r), v5, v6] ∧ H3 r = some (.lst (ns.map V.int)) ∧ ns.length = i ∧ (∀ v ∈ ns, 0 ≤ v ∧ v ≤ 1000000000) ∧ Left H3 p c3 ∧ c' + 1 ≤ c3 ∧ c3 ≤ c' + 1 + 5 * i ∧ (∀ b o, H b = some o → b ≠ p → H3 b = some o))
    ⟨[], none, none, c' + 1, rfl, upd_same, rfl, (fun v hv => by cases hv), L2.new hr0, by omega, by omega, fun b o h n => same_new hr0 _ _ _ (B02 b o h n)⟩ ?_ ?_
  · rintro i σ H3 hi ⟨ns, v5, v6, c3, rfl, hr3, hn, hb, L3, b1, b2, B3⟩
    have hi12 : (i : Int) < 12 := by omega
    have ei : (0 + (i : Int)) = (i : Int) := by omega
    have hii : (0 + (i : Int)) * (0 + (i : Int)) ≤ 144 := by rw [ei]; exact Int.le_trans (Int.mul_le_mul (show (i : Int) ≤ 12 by omega) (show (i : Int) ≤ 12 by omega) (by omega) (by omega)) (by decide)
    have hi0 : 0 ≤ (0 + (i : Int)) * (0 + (i : Int)) := by rw [ei]; exact Int.mul_nonneg (by omega) (by omega)
    refine ⟨_, rfl, p, c3, _, rfl, L3, by omega, by decide, by decide, fun d1 H4 d10 d11 L4 B4 => ?_⟩
    refine ⟨_, rfl, p, c3 + 1, _, rfl, L4, by omega, by decide, by decide, fun d2 H5 d20 d21 L5 B5 => ?_⟩
    refine ⟨_, rfl, p, c3 + 1 + 1, _, rfl, L5, by omega, by decide, by decide, fun d3 H6 d30 d31 L6 B6 => ⟨_, _, rfl, rfl, .inl ⟨by omega, by omega⟩, ?_⟩⟩
    have h23a : 0 ≤ d2 * d3 := Int.mul_nonneg d20 d30
    have h23b : d2 * d3 ≤ 2 * 100 := Int.mul_le_mul (by omega) (by omega) d30 (by omega)
    refine ⟨_, rfl, _, rfl, _, _, rfl, rfl, .inl ⟨by omega, by omega⟩, _, _, rfl, rfl, (by show 4 ≤ sizeLine; decide), fun e he => ?_⟩
    have B36 := (B4.trans B5).trans B6
    have hr6 := B36 r _ hr3 npr.symm
    have nre : r ≠ e := ne_of_none hr6 he
    have npe : p ≠ e := by obtain ⟨o, ho⟩ := L6.here; exact ne_of_none ho he
    have hr7 : (upd H6 e (.lst (([d1, d2 * d3, 5, 1 + (0 + (i : Int)) * (0 + (i : Int))] : List Int).map V.int))) r = some (.lst (ns.map V.int)) := by rw [upd_ne nre]; exact hr6
    have he7 : (upd H6 e (.lst (([d1, d2 * d3, 5, 1 + (0 + (i : Int)) * (0 + (i : Int))] : List Int).map V.int))) e = some (.lst (([d1, d2 * d3, 5, 1 + (0 + (i : Int)) * (0 + (i : Int))] : List Int).map V.int)) := upd_same
    have L7 : Left (upd H6 e (.lst (([d1, d2 * d3, 5, 1 + (0 + (i : Int)) * (0 + (i : Int))] : List Int).map V.int))) p (c3 + 1 + 1 + 1) := L6.new he
    have B37 : But p H3 (upd H6 e (.lst (([d1, d2 * d3, 5, 1 + (0 + (i : Int)) * (0 + (i : Int))] : List Int).map V.int))) := B36.trans (But.same (same_new he _))
    change ∃ _, _
    have pw : CPow 10 9 := ⟨by decide, by decide, by decide⟩
    refine ⟨_, rfl, .inl ⟨rfl, _, SqL.of hr7⟩, _, rfl, _, _, rfl, rfl, pw, _, rfl, p, c3 + 1 + 1 + 1, _, rfl, L7, by omega, by decide, by decide, fun d4 H8 d40 d41 L8 B8 => ⟨_, _, rfl, rfl, ?_⟩⟩
    refine ⟨_, rfl, _, _, rfl, rfl, pw, _, _, rfl, rfl, p, c3 + 1 + 1 + 1 + 1, _, rfl, L8, by omega, by decide, by decide, fun d5 H9 d50 d51 L9 B9 => ⟨(by show 2 ≤ sizeLine; decide), fun g hg => ?_⟩⟩
    have d51' : d5 < 1000000001 := d51
    have he9 := B9 e _ (B8 e _ he7 npe.symm) npe.symm
    have hr9 := B9 r _ (B8 r _ hr7 npr.symm) npr.symm
    have neg : e ≠ g := ne_of_none he9 hg
    refine ⟨e, g, _, _, rfl, rfl, (by rw [upd_ne neg]; exact he9), upd_same, (by show 6 ≤ sizeLine; decide), fun z hz => ?_⟩
    obtain ⟨v, hv, hat⟩ := at_intM (ns := [d1, d2 * d3, 5, 1 + (0 + (i : Int)) * (0 + (i : Int)), 10 ^ 9 - d4, d5]) w0 w1
    have hv1 : 0 ≤ v ∧ v ≤ 1000000000 := by
      simp only [List.mem_cons, List.not_mem_nil, or_false] at hv
      omega
    have sg : Same H9 (upd H9 g (.lst [.int (10 ^ 9 - d4), .int d5])) := same_new hg _
    have hrz : (upd (upd H9 g (.lst [.int (10 ^ 9 - d4), .int d5])) z (.lst (([d1, d2 * d3, 5, 1 + (0 + (i : Int)) * (0 + (i : Int)), 10 ^ 9 - d4, d5] : List Int).map V.int))) r = some (.lst (ns.map V.int)) := same_new hz _ _ _ (sg _ _ hr9)
    have Lz : Left (upd (upd H9 g (.lst [.int (10 ^ 9 - d4), .int d5])) z (.lst (([d1, d2 * d3, 5, 1 + (0 + (i : Int)) * (0 + (i : Int)), 10 ^ 9 - d4, d5] : List Int).map V.int))) p (c3 + 1 + 1 + 1 + 1 + 1) := (L9.new hg).new hz
    have Bz : But p H3 (upd (upd H9 g (.lst [.int (10 ^ 9 - d4), .int d5])) z (.lst (([d1, d2 * d3, 5, 1 + (0 + (i : Int)) * (0 + (i : Int)), 10 ^ 9 - d4, d5] : List Int).map V.int))) := ((B37.trans B8).trans B9).trans (But.same (sg.trans (same_new hz _)))
    have hzz : (upd (upd H9 g (.lst [.int (10 ^ 9 - d4), .int d5])) z (.lst (([d1, d2 * d3, 5, 1 + (0 + (i : Int)) * (0 + (i : Int)), 10 ^ 9 - d4, d5] : List Int).map V.int))) z = some (.lst (([d1, d2 * d3, 5, 1 + (0 + (i : Int)) * (0 + (i : Int)), 10 ^ 9 - d4, d5] : List Int).map V.int)) := upd_same
    refine ⟨_, rfl, z, _, _, _, rfl, rfl, SqL.of hzz, hat, r, _, _, rfl, rfl, hrz, (by rw [List.length_map, hn]; exact small1000 (by omega)), ns ++ [v], _, _, c3 + 1 + 1 + 1 + 1 + 1, rfl, ?_, by rw [List.length_append, hn]; rfl, fun u hu => ?_, Lz.at npr, by omega, by omega, fun b o h n => ?_⟩
    · rw [upd_same, List.map_append]; rfl
    · rcases List.mem_append.mp hu with hu | hu
      · exact hb u hu
      · rw [List.mem_singleton.mp hu]; exact hv1
    · rw [upd_ne (ne_of_none h hrn)]; exact Bz b o (B3 b o h n) n
  · rintro σ H3 ⟨ns, v5, v6, c3, rfl, hr3, hn, hb, L3, b1, b2, B3⟩
    exact ⟨_, rfl, q r ns c3 H3 hrn hr3 (by omega) (by omega) hb L3 (by omega) (by omega) B3⟩
theorem tv_ints {H : Hp} : ∀ ks : List Int, TVs H (ks.map V.int) (ks.map PT.leaf)
  | [] => .nil
  | k :: r => .cons (.leaf k) (tv_ints r)
theorem ints_ok {n : Nat} : ∀ ks : List Int, (∀ v ∈ ks, 0 ≤ v ∧ v < n) → tOks n (ks.map PT.leaf) ∧ tGds (ks.map PT.leaf) ∧ tLfs (ks.map PT.leaf) = ks.length
  | [], _ => ⟨trivial, trivial, rfl⟩
  | k :: r, h => by
    obtain ⟨a, b, c⟩ := ints_ok r fun v hv => h v (List.mem_cons_of_mem _ hv)
    refine ⟨⟨h k (by simp), a⟩, ⟨⟨Nat.le_refl _, Nat.le_refl _⟩, b⟩, ?_⟩
    show 1 + tLfs (r.map PT.leaf) = r.length + 1
    omega
theorem tGds_len : ∀ l : List PT, tGds l → l.length ≤ tLfs l
  | [], _ => Nat.le_refl _
  | t :: r, h => by have := tGds_len r h.2; have := h.1.1; show r.length + 1 ≤ tLf t + tLfs r; omega
theorem put_node {n : Nat} {l : List PT} {a m : Nat} (ok : tOks n l) (gd : tGds l) (h2 : 2 ≤ m) (h : a + m ≤ l.length) :
    tOks n (l.take a ++ [PT.node ((l.drop a).take m)] ++ l.drop (a + m)) ∧ tGds (l.take a ++ [PT.node ((l.drop a).take m)] ++ l.drop (a + m)) ∧ tLfs (l.take a ++ [PT.node ((l.drop a).take m)] ++ l.drop (a + m)) = tLfs l ∧ (l.take a ++ [PT.node ((l.drop a).take m)] ++ l.drop (a + m)).length < l.length := by
  have e : l = l.take a ++ ((l.drop a).take m ++ l.drop (a + m)) := by
    rw [← List.drop_drop, List.take_append_drop, List.take_append_drop]
  have ok' := ok
  have gd' := gd
  rw [e] at ok' gd'
  rw [tOks_app, tOks_app] at ok'
  rw [tGds_app, tGds_app] at gd'
  have ml : ((l.drop a).take m).length = m := by rw [List.length_take, List.length_drop]; omega
  refine ⟨?_, ?_, ?_, ?_⟩
  · rw [tOks_app, tOks_app]; exact ⟨⟨ok'.1, ok'.2.1, trivial⟩, ok'.2.2⟩
  · rw [tGds_app, tGds_app]; exact ⟨⟨gd'.1, tGd_node gd'.2.1 (by omega), trivial⟩, gd'.2.2⟩
  · have e2 : tLfs l = tLfs (l.take a) + (tLfs ((l.drop a).take m) + tLfs (l.drop (a + m))) := by rw [← tLfs_app, ← tLfs_app, ← e]
    rw [tLfs_app, tLfs_app, e2]
    show tLfs (l.take a) + (tLfs ((l.drop a).take m) + 0) + _ = _
    omega
  · rw [List.length_append, List.length_append, List.length_take, List.length_drop, List.length_singleton]; omega
def spJoined : Sp := fun vs H Q _ => ∃ (p b : Addr) (c w : Int) (ks : List Int) (n : Nat), vs = [.ref p, .ref b, .int w] ∧ Left H p c ∧ c < 2 ^ 40 ∧ 2 ≤ w ∧ w ≤ 8 ∧ H b = some (.lst (ks.map V.int)) ∧ 1 ≤ ks.length ∧ ks.length ≤ 13 ∧ (∀ v ∈ ks, 0 ≤ v ∧ v < n) ∧
  ∀ (x : V) (t : PT) (c' : Int) (H' : Hp), TV H' x t → tOk n t → tGd t → tLf t = ks.length → Left H' p c' → c ≤ c' → c' ≤ c + 40 → But p H H' → Q x H'
theorem ok_joined (T : Tops K mg) (f_l_pick : Df P w K mg base 2 "_law_pick" ["_law_left_here", "_law_many_here"] spPick) : Df P w K mg base 3 "_law_joined" ["_law_left_here", "_law_items", "_law_ways_here"] spJoined := by
  refine T.t_l_joined.df sc_l_joined (fun vs H Q E h => ?_) (fun cdv f A outer s H vs Q E hr h => ?_)
  · obtain ⟨p, b, c, wy, ks, n, rfl, _⟩ := h
    rfl
  obtain ⟨p, b0, c, wy, ks, n, rfl, hL, c1, w2, w8, hb0, k1, k13, hks, q⟩ := h
  refine ⟨_, (@pss_cons _ _ _ _ _ (@ps_set _ _ 1 _ _ _ _ sc_l_joined.nd rfl (Or.inl rfl) (@pe_callTy _ _ _ _ _ _ _ _ _ (listQ K) (by rfl) T.b.n_list boot_list (@pa_cons _ _ _ _ _ (@pv _ 1 _ _ (by rfl) (Or.inl rfl) (by decide) (by decide)) (@pa_nil _) (by rfl)) (by decide) (by decide) (by rfl) (by rfl)) (by rfl) (by first | exact .inl rfl | exact .inr rfl)) (@pss_cons _ _ _ _ _ (@ps_while _ _ _ _ _ _ PassesOwn.never (@pt_cmpR _ _ _ _ _ _ _ _ op_gt (@pe_callB _ _ _ _ _ _ _ _ _ (lenQ K) (by rfl) T.b.n_len PySem.boot_len (@pa_cons _ _ _ _ _ (@pv _ 1 _ _ (by rfl) (Or.inl rfl) (by decide) (by decide)) (@pa_nil _) (by rfl)) (by decide) (by decide) (by rfl) (by rfl)) (@pe_int _ _ _ _) (nomark _)) (@pss_cons _ _ _ _ _ (@ps_set _ _ 3 _ _ _ _ sc_l_joined.nd rfl (Or.inl rfl) (@pe_op _ _ _ _ _ _ _ _ op_add (@pe_int _ _ _ _) (@pe_df _ _ _ _ _ _ _ _ _ _ _ f_l_pick hr (@pa_cons _ _ _ _ _ (@pv _ 0 _ _ (by rfl) (Or.inl rfl) (by decide) (by decide)) (@pa_cons _ _ _ _ _ (@pe_op _ _ _ _ _ _ _ _ op_sub (@pe_callB _ _ _ _ _ _ _ _ _ (call_min2 rfl) (by rfl) T.b.n_min boot_min (@pa_cons _ _ _ _ _ (@pv _ 2 _ _ (by rfl) (Or.inl rfl) (by decide) (by decide)) (@pa_cons _ _ _ _ _ (@pe_callB _ _ _ _ _ _ _ _ _ (lenQ K) (by rfl) T.b.n_len PySem.boot_len (@pa_cons _ _ _ _ _ (@pv _ 1 _ _ (by rfl) (Or.inl rfl) (by decide) (by decide)) (@pa_nil _) (by rfl)) (by decide) (by decide) (by rfl) (by rfl)) (@pa_nil _) (by rfl)) (by rfl)) (by decide) (by decide) (by rfl) (by rfl)) (@pe_int _ _ _ _)) (@pa_nil _) (by rfl)) (by rfl)) (by first | decide | exact Nat.le_refl _ | omega) (by rfl) (by decide) (by rfl) (by rfl))) (by rfl) (by first | exact .inl rfl | exact .inr rfl)) (@pss_cons _ _ _ _ _ (@ps_set _ _ 4 _ _ _ _ sc_l_joined.nd rfl (Or.inl rfl) (@pe_df _ _ _ _ _ _ _ _ _ _ _ f_l_pick hr (@pa_cons _ _ _ _ _ (@pv _ 0 _ _ (by rfl) (Or.inl rfl) (by decide) (by decide)) (@pa_cons _ _ _ _ _ (@pe_op _ _ _ _ _ _ _ _ op_add (@pe_op _ _ _ _ _ _ _ _ op_sub (@pe_callB _ _ _ _ _ _ _ _ _ (lenQ K) (by rfl) T.b.n_len PySem.boot_len (@pa_cons _ _ _ _ _ (@pv _ 1 _ _ (by rfl) (Or.inl rfl) (by decide) (by decide)) (@pa_nil _) (by rfl)) (by decide) (by decide) (by rfl) (by rfl)) (@pv _ 3 _ _ (by rfl) (Or.inl rfl) (by decide) (by decide))) (@pe_int _ _ _ _)) (@pa_nil _) (by rfl)) (by rfl)) (by first | decide | exact Nat.le_refl _ | omega) (by rfl) (by decide) (by rfl) (by rfl)) (by rfl) (by first | exact .inl rfl | exact .inr rfl)) (@pss_one _ _ _ (@ps_asg _ _ _ _ _ _ (@pe_lst _ _ _ _ (@pa_cons _ _ _ _ _ (@pe_callTy _ _ _ _ _ _ _ _ _ (tupQ K) (by rfl) T.b.n_tuple boot_tuple (@pa_cons _ _ _ _ _ (@pe_slice _ _ _ _ _ _ _ _ _ _ (slL K) (@pv _ 1 _ _ (by rfl) (Or.inl rfl) (by decide) (by decide)) (@po_some _ _ _ (@pv _ 4 _ _ (by rfl) (Or.inl rfl) (by decide) (by decide))) (@po_some _ _ _ (@pe_op _ _ _ _ _ _ _ _ op_add (@pv _ 4 _ _ (by rfl) (Or.inl rfl) (by decide) (by decide)) (@pv _ 3 _ _ (by rfl) (Or.inl rfl) (by decide) (by decide))))) (@pa_nil _) (by rfl)) (by decide) (by decide) (by rfl) (by rfl)) (@pa_nil _) (by rfl))) (@pg_slice _ _ _ _ _ _ _ _ _ (@pv _ 1 _ _ (by rfl) (Or.inl rfl) (by decide) (by decide)) (@po_some _ _ _ (@pv _ 4 _ _ (by rfl) (Or.inl rfl) (by decide) (by decide))) (@po_some _ _ _ (@pe_op _ _ _ _ _ _ _ _ op_add (@pv _ 4 _ _ (by rfl) (Or.inl rfl) (by decide) (by decide)) (@pv _ 3 _ _ (by rfl) (Or.inl rfl) (by decide) (by decide)))) (by intro _; rfl)) (by rfl) (by rfl) (by rfl)))))) (@pss_one _ _ _ (@ps_ret _ _ _ _ (@pe_ix _ _ _ _ _ _ _ (ixL K) (@pv _ 1 _ _ (by rfl) (Or.inl rfl) (by decide) (by decide)) (@pe_int _ _ _ _) (fun _ _ => rfl)))))), ?_⟩
  have c0 := hL.ge
  refine ⟨_, rfl, b0, _, rfl, .inl (SqL.of hb0), fun b hb => ?_⟩
  have npb : p ≠ b := by obtain ⟨o, ho⟩ := hL.here; exact ne_of_none ho hb
  obtain ⟨i1, i2, i3⟩ := ints_ok ks hks
  refine ⟨fun m σ H2 => ∃ (xs : List V) (l : List PT) (v3 v4 : Option V) (c2 : Int), σ = [some (.ref p), some (.ref b), some (.int wy), v3, v4] ∧ H2 b = some (.lst xs) ∧ TVs H2 xs l ∧ tOks n l ∧ tGds l ∧ tLfs l = ks.length ∧ 1 ≤ l.length ∧ Left H2 p c2 ∧ c ≤ c2 ∧ c2 + 2 * l.length ≤ c + 2 * ks.length ∧ (∀ d o, H d = some o → d ≠ p → H2 d = some o) ∧ m = l.length,
    ⟨_, ks.map V.int, ks.map PT.leaf, none, none, c, rfl, upd_same, tv_ints ks, i1, i2, i3, by rw [List.length_map]; exact k1, hL.new hb, Int.le_refl _, by rw [List.length_map]; omega, fun d o h n => same_new hb _ _ _ h, rfl⟩, ?_⟩
  rintro m σ H2 ⟨xs, l, v3, v4, c2, rfl, hb2, hT, ok, gd, lf, l1, L2, b1, b2, B2, rfl⟩
  have hxl := hT.len
  have hll := tGds_len l gd
  have c20 := L2.ge
  refine ⟨_, rfl, b, _, rfl, .inl (SqL.of hb2), _, _, rfl, rfl, _, rfl, ite2 (fun d => ?_) (fun d => ?_)⟩
  · have d' : (1 : Int) < ((xs.length : Nat) : Int) := of_decide_eq_true d
    refine ⟨_, fun σ' H' h => h, ?_⟩
    obtain ⟨mn, hmn, m0, m1, m2⟩ : ∃ mn : Int, (if ((xs.length : Nat) : Int) < wy then ((xs.length : Nat) : Int) else wy) = mn ∧ 2 ≤ mn ∧ mn ≤ 8 ∧ mn ≤ xs.length := ⟨_, rfl, by split <;> omega, by split <;> omega, by split <;> omega⟩
    refine ⟨_, rfl, _, rfl, _, rfl, b, _, rfl, .inl (SqL.of hb2), _, _, rfl, ?_⟩
    simp only [hmn]
    refine ⟨_, _, rfl, rfl, p, c2, _, rfl, L2, by omega, by omega, by omega, fun d1 H3 d10 d11 L3 B3 => ⟨_, _, rfl, rfl, ?_⟩⟩
    have hb3 := B3 b _ hb2 npb.symm
    obtain ⟨m', hm'⟩ : ∃ m' : Nat, 2 + d1 = (m' : Int) := ⟨(2 + d1).toNat, by omega⟩
    simp only [hm']
    refine ⟨_, rfl, _, rfl, b, _, rfl, .inl (SqL.of hb3), _, rfl, _, _, rfl, rfl, _, _, rfl, rfl, p, c2 + 1, _, rfl, L3, by omega, by omega, by omega, fun at' H4 a0 a1 L4 B4 => ?_⟩
    obtain ⟨a, ha⟩ : ∃ a : Nat, at' = (a : Int) := ⟨at'.toNat, by omega⟩
    subst ha
    have hb4 := B4 b _ hb3 npb.symm
    have ham : a + m' ≤ xs.length := by omega
    have h2m : 2 ≤ m' := by omega
    have sum : ((a : Int) + (m' : Int)) = ((a + m' : Nat) : Int) := by omega
    refine ⟨_, rfl, _, rfl, _, rfl, _, rfl, _, rfl, _, _, rfl, rfl, _, rfl, b, _, rfl, SqL.of hb4, fun sl hsl => ?_⟩
    rw [sum, cutV_nat xs a (a + m') (by omega) (by omega), Nat.add_sub_cancel_left]
    refine ⟨sl, _, rfl, .inl ⟨SqL.of upd_same, fun tt htt => ⟨(by show 1 ≤ sizeLine; decide), fun g hg => ?_⟩⟩⟩
    have s5 : Same H4 (upd (upd (upd H4 sl (.lst ((xs.drop a).take m'))) tt (.tup ((xs.drop a).take m'))) g (.lst [.ref tt])) := ((same_new hsl _).trans (same_new htt _)).trans (same_new hg _)
    have ht5 : (upd (upd (upd H4 sl (.lst ((xs.drop a).take m'))) tt (.tup ((xs.drop a).take m'))) g (.lst [.ref tt])) tt = some (.tup ((xs.drop a).take m')) := same_new hg _ _ _ upd_same
    have hg5 : (upd (upd (upd H4 sl (.lst ((xs.drop a).take m'))) tt (.tup ((xs.drop a).take m'))) g (.lst [.ref tt])) g = some (.lst [.ref tt]) := upd_same
    have nbg : b ≠ g := ne_of_none (((same_new hsl (.lst ((xs.drop a).take m'))).trans (same_new htt (.tup ((xs.drop a).take m')))) _ _ hb4) hg
    generalize upd (upd (upd H4 sl (.lst ((xs.drop a).take m'))) tt (.tup ((xs.drop a).take m'))) g (.lst [.ref tt]) = H5 at s5 ht5 hg5 ⊢
    refine ⟨_, rfl, _, rfl, _, rfl, _, rfl, _, rfl, _, _, rfl, rfl, _, rfl, b, g, xs, [.ref tt], a, ((a + m' : Nat) : Int), rfl, rfl, rfl, by rw [sum], s5 _ _ hb4, hg5, nbg, by omega, by omega, by omega, (small (by show xs.length + 1 ≤ 1000; omega)), ?_⟩
    rw [Int.toNat_natCast, Int.toNat_natCast]
    obtain ⟨j1, j2, j3, j4⟩ := put_node (a := a) (m := m') ok gd h2m (by omega)
    have tup5 : ∀ a' ys, H2 a' = some (.tup ys) → H5 a' = some (.tup ys) := fun a' ys h => by
      have np : a' ≠ p := by
        intro e
        obtain ⟨x1, x2, hp, _⟩ := L2
        rw [e, hp] at h; cases h
      exact s5 _ _ (B4 _ _ (B3 _ _ h np) np)
    have tup6 : ∀ (o : List V) a' ys, H5 a' = some (.tup ys) → (upd H5 b (.lst o)) a' = some (.tup ys) := fun o a' ys h => by
      have nb : a' ≠ b := by
        intro e
        rw [e, s5 _ _ hb4] at h; cases h
      rw [upd_ne nb]; exact h
    refine ⟨_, ?_, _, _, _, _, c2 + 1 + 1, rfl, upd_same, ?_, j1, j2, by rw [j3]; exact lf, ?_, (L4.same s5).at npb, by omega, ?_, fun d o h n => ?_, rfl⟩
    · exact j4
    · have hT5 := hT.mono tup5
      refine ((hT5.take a).app (.cons (.node ht5 ((hT5.drop a).take m')) .nil)).app (hT5.drop (a + m')) |>.mono (tup6 _)
    · rw [List.length_append, List.length_append, List.length_singleton]; omega
    · omega
    · rw [upd_ne (ne_of_none h hb)]; exact s5 _ _ (B4 _ _ (B3 _ _ (B2 d o h n) n) n)
  · have d' : ¬ (1 : Int) < ((xs.length : Nat) : Int) := fun z => d (decide_eq_true z)
    have x1 : xs.length = 1 := by omega
    have hx0 : xs[0]? = some xs[0] := List.getElem?_eq_getElem (by omega)
    obtain ⟨t, ht, hv⟩ := hT.at hx0
    have el : l = [t] := by
      cases l with
      | nil => simp at ht
      | cons u r =>
        have : r = [] := List.eq_nil_of_length_eq_zero (by rw [hxl, List.length_cons] at x1; omega)
        subst this
        simp at ht; rw [ht]
    subst el
    refine ⟨_, rfl, b, _, _, _, rfl, rfl, SqL.of hb2, atI_nat hx0, q _ t c2 H2 hv ok.1 gd.1 ?_ L2 b1 (by omega) B2⟩
    have : tLf t + 0 = ks.length := lf
    omega
def spLaw (K : PySem.W.Frag) : Sp := fun vs H Q _ => ∃ (a : Addr) (ns : List Int), vs = [.ref a] ∧ SqL K H a (ns.map V.int) ∧ ns.length ≤ 63 ∧ ∀ H', Q (.bl true) H'
theorem eq_nilI (A : List Int) : (if false = true then !PyData.eqv (.list (A.map PyData.int)) (.list []) else PyData.eqv (.list (A.map PyData.int)) (.list [])) = A.isEmpty := by
  cases A with
  | nil => decide +kernel
  | cons t r => simp [PyData.eqv, PyData.eqvAll]
theorem cutV_tail (xs : List V) : cutV xs (some 1) none = xs.tail := by
  unfold cutV HT.sIx
  simp only []
  rw [if_neg (by omega)]
  cases xs with
  | nil => rfl
  | cons x r =>
    have e : min ((1 : Int).toNat) (x :: r).length = 1 := by rw [List.length_cons]; show min 1 (r.length + 1) = 1; omega
    rw [show (min (1 : Int).toNat (x :: r).length) = 1 from e]
    simp
theorem cutV_to (xs : List V) (d : Nat) : cutV xs none (some (d : Int)) = xs.take d := by
  unfold cutV
  rw [HT.sIx_nat, HT.sIx_none, List.drop_zero, Nat.sub_zero]
  by_cases h : d ≤ xs.length
  · rw [Nat.min_eq_left h]
  · rw [Nat.min_eq_right (by omega), List.take_of_length_le (Nat.le_refl _), List.take_of_length_le (by omega)]
theorem cutV_fr (xs : List V) (d : Nat) : cutV xs (some (d : Int)) none = xs.drop d := by
  unfold cutV
  rw [HT.sIx_nat, HT.sIx_none, List.take_of_length_le (by rw [List.length_drop]; omega)]
  by_cases h : d ≤ xs.length
  · rw [Nat.min_eq_left h]
  · rw [Nat.min_eq_right (by omega), List.drop_eq_nil_of_le (Nat.le_refl _), List.drop_eq_nil_of_le (by omega)]
theorem at_last {xs : List V} {x : V} (h : xs[xs.length - 1]? = some x) (h0 : 0 < xs.length) : atI xs (-1) = some x := by
  have e : ixN xs.length (-1) = some (xs.length - 1) := by
    unfold ixN
    rw [if_neg (by decide), if_pos (by omega)]
    congr 1
    omega
  unfold atI
  rw [e]
  exact h
theorem in_no {fs : List Int} {k : Int} (h : k ∉ fs) : ((fs.map PyData.int).any fun e => PyData.eqv e (.int k)) = false := by
  rw [List.any_eq_false]
  intro e he
  obtain ⟨x, hx, rfl⟩ := List.mem_map.mp he
  have : x ≠ k := fun z => h (z ▸ hx)
  simp [PyData.eqv, this]
def spMixed : Sp := fun vs H Q _ => ∃ (p : Addr) (c : Int) (m : Nat), vs = [.ref p, .int m] ∧ Left H p c ∧ c < 2 ^ 40 ∧ m ≤ 20 ∧
  ∀ (r : Addr) (ks : List Int) (c' : Int) (H' : Hp), H r = none → H' r = some (.lst (ks.map V.int)) → ks.length = m → (∀ v ∈ ks, 0 ≤ v ∧ v < m) → ks.Perm ((List.range m).map fun i : Nat => (i : Int)) → Left H' p c' → c ≤ c' → c' ≤ c + 20 → But p H H' → Q (.ref r) H'
theorem ok_mixed (T : Tops K mg) (f_l_pick : Df P w K mg base 2 "_law_pick" ["_law_left_here", "_law_many_here"] spPick) : Df P w K mg base 3 "_law_mixed" ["_law_left_here", "_law_many_here"] spMixed := by
  refine T.t_l_mixed.df sc_l_mixed (fun vs H Q E h => ?_) (fun cdv f A outer s H vs Q E hr h => ?_)
  · obtain ⟨p, c, m, rfl, _⟩ := h
    rfl
  obtain ⟨p, c, m, rfl, hL, c1, hm, q⟩ := h
  refine ⟨_, (@pss_cons _ _ _ _ _ (@ps_set _ _ 2 _ _ _ _ sc_l_mixed.nd rfl (Or.inl rfl) (@pe_lst _ _ _ _ (@pa_nil _)) (by rfl) (by first | exact .inl rfl | exact .inr rfl)) (@pss_cons _ _ _ _ _ (@ps_for _ _ _ _ _ _ _ _ PassesOwn.never rfl (@pi_range1 _ _ _ _ _ _ rfl T.b.n_range (@pa_cons _ _ _ _ _ (@pv _ 1 _ _ (by rfl) (Or.inl rfl) (by decide) (by decide)) (@pa_nil _) (by rfl)) (by rfl)) (@pg_name _ _ 3 _ sc_l_mixed.nd rfl (Or.inl rfl) (by first | exact .inl rfl | exact .inr rfl)) (@pss_one _ _ _ (@ps_expr _ _ _ _ (@pe_bm _ _ _ _ _ _ _ _ _ _ _ _ PySem.F.plainAttrs_list PySem.F.slot_list_insert PySem.F.type_list_insert mt_insert (@pv _ 2 _ _ (by rfl) (Or.inl rfl) (by decide) (by decide)) (@pa_cons _ _ _ _ _ (@pe_df _ _ _ _ _ _ _ _ _ _ _ f_l_pick hr (@pa_cons _ _ _ _ _ (@pv _ 0 _ _ (by rfl) (Or.inl rfl) (by decide) (by decide)) (@pa_cons _ _ _ _ _ (@pe_op _ _ _ _ _ _ _ _ op_add (@pv _ 3 _ _ (by rfl) (Or.inl rfl) (by decide) (by decide)) (@pe_int _ _ _ _)) (@pa_nil _) (by rfl)) (by rfl)) (by first | decide | exact Nat.le_refl _ | omega) (by rfl) (by decide) (by rfl) (by rfl)) (@pa_cons _ _ _ _ _ (@pv _ 3 _ _ (by rfl) (Or.inl rfl) (by decide) (by decide)) (@pa_nil _) (by rfl)) (by rfl)) (by rfl) (by rfl) (by rfl) (by rfl) (by rfl)) (by rfl))) (by intro _; rfl)) (@pss_one _ _ _ (@ps_ret _ _ _ _ (@pv _ 2 _ _ (by rfl) (Or.inl rfl) (by decide) (by decide)))))), ?_⟩
  have c0 := hL.ge
  refine ⟨(by show 0 ≤ sizeLine; decide), fun r hr0 => ?_⟩
  have npr : p ≠ r := by obtain ⟨o, ho⟩ := hL.here; exact ne_of_none ho hr0
  refine ⟨_, rfl, _, rfl, by omega, by omega, ?_⟩
  refine for_range (fun i σ H2 => ∃ (ks : List Int) (v : Option V) (c2 : Int), σ = [some (.ref p), some (.int m), some (.ref r), v] ∧ H2 r = some (.lst (ks.map V.int)) ∧ ks.length = i ∧ (∀ v ∈ ks, 0 ≤ v ∧ v < m) ∧ ks.Perm ((List.range i).map fun i : Nat => (i : Int)) ∧ Left H2 p c2 ∧ c ≤ c2 ∧ c2 ≤ c + i ∧ (∀ b o, H b = some o → b ≠ p → H2 b = some o))
    ⟨[], none, c, rfl, upd_same, rfl, (fun v hv => by cases hv), .refl _, hL.new hr0, by omega, by omega, fun b o h n => same_new hr0 _ _ _ h⟩ ?_ ?_
  · rintro i σ H2 hi ⟨ks, v, c2, rfl, hr2, hn, hb, hpm, L2, b1, b2, B2⟩
    refine ⟨_, rfl, .inl ⟨rfl, _, SqL.of hr2⟩, _, rfl, _, rfl, _, _, rfl, rfl, p, c2, _, rfl, L2, by omega, by omega, by omega, fun d H3 d0 d1 L3 B3 => ?_⟩
    have hr3 := B3 r _ hr2 npr.symm
    have hkl : (ks.map V.int).length = i := by rw [List.length_map, hn]
    refine ⟨_, rfl, r, _, d, _, rfl, rfl, hr3, d0, by rw [hkl]; omega, (by rw [hkl]; exact small1000 (by omega)), ks.take d.toNat ++ (0 + (i : Int)) :: ks.drop d.toNat, _, c2 + 1, rfl, ?_, ?_, fun u hu => ?_, ?_, L3.at npr, by omega, by omega, fun b o h n => ?_⟩
    · rw [upd_same, List.map_append, List.map_cons, List.map_take, List.map_drop]
    · rw [List.length_append, List.length_cons, List.length_take, List.length_drop]; omega
    · rcases List.mem_append.mp hu with hu | hu
      · exact hb u (List.mem_of_mem_take hu)
      · rcases List.mem_cons.mp hu with rfl | hu
        · omega
        · exact hb u (List.mem_of_mem_drop hu)
    · refine List.perm_middle.trans ?_
      rw [List.take_append_drop, List.range_succ, List.map_append]
      refine (hpm.cons _).trans ?_
      rw [Int.zero_add]
      exact (List.perm_append_comm (l₁ := [(i : Int)]))
    · rw [upd_ne (ne_of_none h hr0)]; exact B3 b o (B2 b o h n) n
  · rintro σ H2 ⟨ks, v, c2, rfl, hr2, hn, hb, hpm, L2, b1, b2, B2⟩
    exact ⟨_, rfl, q r ks c2 H2 hr0 hr2 (by omega) hb (by rw [Int.toNat_natCast] at hpm; exact hpm) L2 (by omega) (by omega) B2⟩
theorem sl_not1 {n d : Nat} (h : d < n) : ¬ (HT.sIx n 0 none = 0 ∧ HT.sIx n n (some (d : Int)) = n) := by
  rw [HT.sIx_nat, HT.sIx_none]; omega
theorem sl_not2 {n d : Nat} (h : d < n) : ¬ (HT.sIx n 0 (some ((d : Int) + 1)) = 0 ∧ HT.sIx n n none = n) := by
  have e : (d : Int) + 1 = ((d + 1 : Nat) : Int) := by omega
  rw [e, HT.sIx_nat, HT.sIx_none]; omega
theorem iteNT {c A B : Prop} [Decidable c] (hc : ¬ c) (h : A) : if (!decide c) = true then A else B := by
  rw [if_pos (by rw [decide_eq_false hc]; rfl)]; exact h
mutual
def okD (w : Nat) : PyData → Prop
  | .int _ => True
  | .tuple l => 2 ≤ l.length ∧ l.length ≤ w ∧ okDs w l
  | _ => False
def okDs (w : Nat) : List PyData → Prop
  | [] => True
  | d :: r => okD w d ∧ okDs w r
end
mutual
def lvD : PyData → List Int
  | .int k => [k]
  | .tuple l => lvDs l
  | _ => []
def lvDs : List PyData → List Int
  | [] => []
  | d :: r => lvD d ++ lvDs r
end
mutual
def lfD : PyData → Nat
  | .list l => lfDs l
  | .tuple l => lfDs l
  | _ => 1
def lfDs : List PyData → Nat
  | [] => 0
  | d :: r => lfD d + lfDs r
end
mutual
def ndD : PyData → Nat
  | .list l => ndDs l + 1
  | .tuple l => ndDs l + 1
  | _ => 1
def ndDs : List PyData → Nat
  | [] => 0
  | d :: r => ndD d + ndDs r
end
theorem lvDs_app : ∀ a b : List PyData, lvDs (a ++ b) = lvDs a ++ lvDs b
  | [], b => rfl
  | d :: r, b => by show lvD d ++ lvDs (r ++ b) = (lvD d ++ lvDs r) ++ lvDs b; rw [lvDs_app r b, List.append_assoc]
theorem lfDs_app : ∀ a b : List PyData, lfDs (a ++ b) = lfDs a + lfDs b
  | [], b => by show lfDs b = 0 + lfDs b; omega
  | d :: r, b => by show lfD d + lfDs (r ++ b) = lfD d + lfDs r + lfDs b; rw [lfDs_app r b]; omega
theorem ndDs_app : ∀ a b : List PyData, ndDs (a ++ b) = ndDs a + ndDs b
  | [], b => by show ndDs b = 0 + ndDs b; omega
  | d :: r, b => by show ndD d + ndDs (r ++ b) = ndD d + ndDs r + ndDs b; rw [ndDs_app r b]; omega
theorem okDs_app (w : Nat) : ∀ a b : List PyData, okDs w (a ++ b) ↔ okDs w a ∧ okDs w b
  | [], b => by show okDs w b ↔ True ∧ okDs w b; simp
  | d :: r, b => by show okD w d ∧ okDs w (r ++ b) ↔ (okD w d ∧ okDs w r) ∧ okDs w b; rw [okDs_app w r b, and_assoc]
mutual
theorem lv_lf : ∀ d : PyData, (lvD d).length ≤ lfD d
  | .int k => Nat.le_refl 1
  | .tuple l => lvs_lf l
  | .none => Nat.zero_le _
  | .bool _ => Nat.zero_le _
  | .str _ => Nat.zero_le _
  | .list _ => Nat.zero_le _
  | .dict _ => Nat.zero_le _
theorem lvs_lf : ∀ l : List PyData, (lvDs l).length ≤ lfDs l
  | [] => Nat.le_refl 0
  | d :: r => by
    have := lv_lf d
    have := lvs_lf r
    show (lvD d ++ lvDs r).length ≤ lfD d + lfDs r
    rw [List.length_append]; omega
end
theorem nd_pos (d : PyData) : 1 ≤ ndD d := by cases d <;> (first | exact Nat.le_refl 1 | exact Nat.le_add_left 1 _)
def InR (n : Nat) (l : List Int) : Prop := ∀ k ∈ l, 0 ≤ k ∧ k < (n : Int)
theorem inR_len {n : Nat} {l : List Int} (nd : l.Nodup) (h : InR n l) : l.length ≤ n := by
  have := List.Nodup.length_le_of_subset nd (l₂ := (List.range n).map fun i : Nat => (i : Int)) fun k hk => by
    obtain ⟨h1, h2⟩ := h k hk
    exact List.mem_map.mpr ⟨k.toNat, List.mem_range.mpr (by omega), by omega⟩
  simpa using this
def spNumD : Sp := fun vs H Q _ => ∃ (x : V) (d : PyData), vs = [x] ∧ DH H x d ∧ Q (.bl (isIntD d)) H
theorem ok_numD (T : Tops K mg) : Df P w K mg base 1 "is_number" ["thing"] spNumD := by
  refine T.t_is_number.df sc_is_number (fun vs H Q E h => ?_) (fun cdv f A outer s H vs Q E hr h => ?_)
  · obtain ⟨x, d, rfl, _⟩ := h
    rfl
  obtain ⟨x, d, rfl, hd, q⟩ := h
  refine ⟨_, (@pss_one _ _ _ (@ps_ret _ _ _ _ (@pe_and _ _ _ _ _ _ _ (@pe_callB _ _ _ _ _ _ _ _ _ (isiQ K) (by rfl) T.b.n_isinstance boot_isinstance (@pa_cons _ _ _ _ _ (@pv _ 0 _ _ (by rfl) (Or.inl rfl) (by decide) (by decide)) (@pa_cons _ _ _ _ _ (@pe_ty _ _ _ _ T.b.n_int boot_int (by rfl) (by decide) (by decide)) (@pa_nil _) (by rfl)) (by rfl)) (by decide) (by decide) (by rfl) (by rfl)) (@pe_one _ _ _ _ _ (@pe_not _ _ _ _ (@pe_callB _ _ _ _ _ _ _ _ _ (isiQ K) (by rfl) T.b.n_isinstance boot_isinstance (@pa_cons _ _ _ _ _ (@pv _ 0 _ _ (by rfl) (Or.inl rfl) (by decide) (by decide)) (@pa_cons _ _ _ _ _ (@pe_ty _ _ _ _ T.b.n_bool boot_bool (by rfl) (by decide) (by decide)) (@pa_nil _) (by rfl)) (by rfl)) (by decide) (by decide) (by rfl) (by rfl))))))), ?_⟩
  refine ⟨_, rfl, _, "int", _, _, rfl, hd.ty, hd.kI K, _, rfl, ?_⟩
  cases hI : isIntD d with
  | true =>
    have hB : isBoolD d = false := by cases d <;> first | rfl | cases hI
    rw [hI] at q
    refine iteT ⟨_, rfl, _, "bool", _, _, rfl, hd.ty, hd.kB K, _, rfl, ?_⟩
    rw [hB]; exact q
  | false =>
    rw [hI] at q
    cases hB : isBoolD d with
    | true =>
      refine iteT ⟨_, rfl, _, "bool", _, _, rfl, hd.ty, hd.kB K, _, rfl, ?_⟩
      rw [hB]; exact q
    | false => exact iteF q
def spFD (n : Nat) : Sp := fun vs H Q _ => ∃ (a fo : Addr) (ns fs : List Int) (wy : Nat) (x : V) (d : PyData), vs = [.ref a, .int wy, x, .ref fo] ∧ H a = some (.lst (ns.map V.int)) ∧ H fo = some (.lst (fs.map V.int)) ∧ a ≠ fo ∧ ns.length ≤ 100 ∧ DH (off fo H) x d ∧ d.depth < n ∧ fs.Nodup ∧ InR ns.length fs ∧
  ∀ (b : Bool) (fs' : List Int) (H' : Hp), H' fo = some (.lst (fs'.map V.int)) → (∀ c o, H c = some o → c ≠ fo → H' c = some o) → fs'.Nodup → InR ns.length fs' → (b = true ↔ okD wy d ∧ (fs ++ lvD d).Nodup ∧ InR ns.length (lvD d)) → (b = true → fs' = fs ++ lvD d) → Q (.bl b) H'
theorem in_any (fs : List Int) (k : Int) : ((fs.map PyData.int).any fun e => PyData.eqv e (.int k)) = decide (k ∈ fs) := by
  by_cases h : k ∈ fs
  · rw [decide_eq_true h, List.any_eq_true]
    exact ⟨.int k, List.mem_map.mpr ⟨k, h, rfl⟩, by simp [PyData.eqv]⟩
  · rw [decide_eq_false h, in_no h]
theorem depth_at : ∀ {l : List PyData} {i : Nat} {d : PyData}, l[i]? = some d → d.depth ≤ PyData.depthAll l
  | [], i, d, h => by simp at h
  | a :: r, 0, d, h => by
    have : a = d := by simpa using h
    subst this
    show a.depth ≤ max a.depth (PyData.depthAll r)
    omega
  | a :: r, i + 1, d, h => by
    have := depth_at (l := r) (i := i) (by simpa using h)
    show d.depth ≤ max a.depth (PyData.depthAll r)
    omega
theorem ok_FD (T : Tops K mg) (f_is_number : Df P w K mg base 1 "is_number" ["thing"] spNumD) : ∀ n : Nat, Df P w K mg base (n + 1) "finds_rows" ["sizes", "ways", "thing", "found"] (spFD n)
  | 0 => by
    refine T.t_finds_rows.df sc_finds_rows (fun vs H Q E h => ?_) (fun cdv f A outer s H vs Q E hr h => ?_)
    · obtain ⟨a, fo, ns, fs, wy, x, d, rfl, _⟩ := h
      rfl
    obtain ⟨a, fo, ns, fs, wy, x, d, rfl, hS, hF, naf, n12, hT, hdp, _⟩ := h
    exact absurd hdp (by omega)
  | n + 1 => by
    have f_finds_rows := ok_FD T f_is_number n
    refine T.t_finds_rows.df sc_finds_rows (fun vs H Q E h => ?_) (fun cdv f A outer s H vs Q E hr h => ?_)
    · obtain ⟨a, fo, ns, fs, wy, x, d, rfl, _⟩ := h
      rfl
    obtain ⟨a, fo, ns, fs, wy, x, d, rfl, hS, hF, naf, n12, hT, hdp, nd, inr, q⟩ := h
    refine ⟨_, (@pss_cons _ _ _ _ _ (@ps_if _ _ _ _ _ _ _ _ (@pt_val _ _ _ (@pe_df _ _ _ _ _ _ _ _ _ _ _ f_is_number hr (@pa_cons _ _ _ _ _ (@pv _ 2 _ _ (by rfl) (Or.inl rfl) (by decide) (by decide)) (@pa_nil _) (by rfl)) (by first | decide | exact Nat.le_refl _ | omega) (by rfl) (by decide) (by rfl) (by rfl)) (by intro _; rfl)) (@pss_cons _ _ _ _ _ (@ps_if _ _ _ _ _ _ _ _ (@PW.pt _ _ _ (@pw_or _ _ _ _ _ _ _ (@pt_cmpR _ _ _ _ _ _ _ _ op_lt (@pv _ 2 _ _ (by rfl) (Or.inl rfl) (by decide) (by decide)) (@pe_int _ _ _ _) (nomark _)) (@pw_or _ _ _ _ _ _ _ (@pt_cmpR _ _ _ _ _ _ _ _ op_ge (@pv _ 2 _ _ (by rfl) (Or.inl rfl) (by decide) (by decide)) (@pe_callB _ _ _ _ _ _ _ _ _ (lenQ K) (by rfl) T.b.n_len PySem.boot_len (@pa_cons _ _ _ _ _ (@pv _ 0 _ _ (by rfl) (Or.inl rfl) (by decide) (by decide)) (@pa_nil _) (by rfl)) (by decide) (by decide) (by rfl) (by rfl)) (nomark _)) (@pw_or1 _ _ _ _ (@pt_cmpR _ _ _ _ _ _ _ _ (inD K hr) (@pv _ 2 _ _ (by rfl) (Or.inl rfl) (by decide) (by decide)) (@pv _ 3 _ _ (by rfl) (Or.inl rfl) (by decide) (by decide)) (by with_unfolding_all rfl)))))) (@pss_one _ _ _ (@ps_ret _ _ _ _ (@pe_bl _ _ _ _))) (@pss_nil _)) (@pss_cons _ _ _ _ _ (@ps_expr _ _ _ _ (@pe_bm _ _ _ _ _ _ _ _ _ _ _ _ PySem.F.plainAttrs_list PySem.F.slot_list_append PySem.F.type_list_append mt_append (@pv _ 3 _ _ (by rfl) (Or.inl rfl) (by decide) (by decide)) (@pa_cons _ _ _ _ _ (@pv _ 2 _ _ (by rfl) (Or.inl rfl) (by decide) (by decide)) (@pa_nil _) (by rfl)) (by rfl) (by rfl) (by rfl) (by rfl) (by rfl)) (by rfl)) (@pss_one _ _ _ (@ps_ret _ _ _ _ (@pe_bl _ _ _ _))))) (@pss_nil _)) (@pss_cons _ _ _ _ _ (@ps_if _ _ _ _ _ _ _ _ (@PW.pt _ _ _ (@pw_or _ _ _ _ _ _ _ (@pt_not _ _ _ _ (@pt_val _ _ _ (@pe_callB _ _ _ _ _ _ _ _ _ (isiQ K) (by rfl) T.b.n_isinstance boot_isinstance (@pa_cons _ _ _ _ _ (@pv _ 2 _ _ (by rfl) (Or.inl rfl) (by decide) (by decide)) (@pa_cons _ _ _ _ _ (@pe_ty _ _ _ _ T.b.n_tuple boot_tuple (by rfl) (by decide) (by decide)) (@pa_nil _) (by rfl)) (by rfl)) (by decide) (by decide) (by rfl) (by rfl)) (by intro _; rfl))) (@pw_or _ _ _ _ _ _ _ (@pt_cmpR _ _ _ _ _ _ _ _ op_lt (@pe_callB _ _ _ _ _ _ _ _ _ (lenQ K) (by rfl) T.b.n_len PySem.boot_len (@pa_cons _ _ _ _ _ (@pv _ 2 _ _ (by rfl) (Or.inl rfl) (by decide) (by decide)) (@pa_nil _) (by rfl)) (by decide) (by decide) (by rfl) (by rfl)) (@pe_int _ _ _ _) (nomark _)) (@pw_or1 _ _ _ _ (@pt_cmpR _ _ _ _ _ _ _ _ op_gt (@pe_callB _ _ _ _ _ _ _ _ _ (lenQ K) (by rfl) T.b.n_len PySem.boot_len (@pa_cons _ _ _ _ _ (@pv _ 2 _ _ (by rfl) (Or.inl rfl) (by decide) (by decide)) (@pa_nil _) (by rfl)) (by decide) (by decide) (by rfl) (by rfl)) (@pv _ 1 _ _ (by rfl) (Or.inl rfl) (by decide) (by decide)) (nomark _)))))) (@pss_one _ _ _ (@ps_ret _ _ _ _ (@pe_bl _ _ _ _))) (@pss_nil _)) (@pss_cons _ _ _ _ _ (@ps_for _ _ _ _ _ _ _ _ PassesOwn.never rfl (@iT _ K _ _ _ (@pv _ 2 _ _ (by rfl) (Or.inl rfl) (by decide) (by decide)) (by rfl)) (@pg_name _ _ 4 _ sc_finds_rows.nd rfl (Or.inl rfl) (by first | exact .inl rfl | exact .inr rfl)) (@pss_one _ _ _ (@ps_if _ _ _ _ _ _ _ _ (@pt_not _ _ _ _ (@pt_val _ _ _ (@pe_df _ _ _ _ _ _ _ _ _ _ _ f_finds_rows hr (@pa_cons _ _ _ _ _ (@pv _ 0 _ _ (by rfl) (Or.inl rfl) (by decide) (by decide)) (@pa_cons _ _ _ _ _ (@pv _ 1 _ _ (by rfl) (Or.inl rfl) (by decide) (by decide)) (@pa_cons _ _ _ _ _ (@pv _ 4 _ _ (by rfl) (Or.inl rfl) (by decide) (by decide)) (@pa_cons _ _ _ _ _ (@pv _ 3 _ _ (by rfl) (Or.inl rfl) (by decide) (by decide)) (@pa_nil _) (by rfl)) (by rfl)) (by rfl)) (by rfl)) (by first | decide | exact Nat.le_refl _ | omega) (by rfl) (by decide) (by rfl) (by rfl)) (by intro _; rfl))) (@pss_one _ _ _ (@ps_ret _ _ _ _ (@pe_bl _ _ _ _))) (@pss_nil _))) (by intro _; rfl)) (@pss_one _ _ _ (@ps_ret _ _ _ _ (@pe_bl _ _ _ _)))))), ?_⟩
    have hD : DH H x d := hT.on
    have fl := inR_len nd inr
    have hls : (((ns.map V.int).length : Nat) : Int) = (ns.length : Int) := by rw [List.length_map]
    refine ⟨_, rfl, x, d, rfl, hD, _, rfl, ?_⟩
    cases hI : isIntD d with
    | true =>
      obtain ⟨k, rfl, rfl⟩ := hD.int_inv hI
      have no : ¬ (0 ≤ k ∧ k < (ns.length : Int)) ∨ k ∈ fs → Q (.bl false) H := fun h => q false fs H hF (fun c o hc _ => hc) nd inr ⟨fun z => (by cases z), fun ⟨_, z1, z2⟩ => by
        rcases h with h | h
        · exact absurd (z2 k (by show k ∈ [k]; simp)) h
        · have := (List.nodup_append.mp z1).2.2 k h k (by show k ∈ [k]; simp)
          exact absurd rfl this⟩ (fun z => (by cases z))
      refine iteT ⟨_, rfl, _, _, rfl, rfl, _, rfl, ?_⟩
      by_cases h1 : k < 0
      · exact iteD h1 (iteT (no (.inl (by omega))))
      refine iteDN h1 ⟨_, rfl, _, rfl, a, _, rfl, .inl (SqL.of hS), _, _, rfl, rfl, _, rfl, ?_⟩
      by_cases h2 : k ≥ (((ns.map V.int).length : Nat) : Int)
      · exact iteD h2 (iteT (no (.inl (by rw [hls] at h2; omega))))
      refine iteDN h2 ⟨_, rfl, _, rfl, fo, _, fs.map PyData.int, .int k, rfl, SqL.of hF, dv_ints fs, .int k, lay_ints fs, (by simp [SeqAt.shaped, PyData.canLay0, PyData.depth]), (by simp [PyData.depth]), _, rfl, ?_⟩
      rw [in_any]
      by_cases h3 : k ∈ fs
      · exact iteD h3 (no (.inr h3))
      refine iteDN h3 ⟨_, rfl, .inl ⟨rfl, _, SqL.of hF⟩, _, rfl, fo, _, _, rfl, rfl, hF, (by rw [List.length_map]; exact small1000 (by omega)), ?_⟩
      rw [hls] at h2
      have nd2 : (fs ++ [k]).Nodup := List.nodup_append.mpr ⟨nd, by simp, fun x hx y hy e => h3 (by rw [List.mem_singleton.mp hy] at e; exact e ▸ hx)⟩
      have in2 : InR ns.length (fs ++ [k]) := fun z hz => by
        rcases List.mem_append.mp hz with hz | hz
        · exact inr z hz
        · rw [List.mem_singleton.mp hz]; omega
      refine q true (fs ++ [k]) _ ?_ (fun c o hc nc => by rw [upd_ne nc]; exact hc) nd2 in2 ⟨fun _ => ⟨trivial, nd2, fun z hz => in2 z (List.mem_append_right _ hz)⟩, fun _ => rfl⟩ (fun _ => rfl)
      rw [upd_same, List.map_append]; rfl
    | false =>
      refine iteF ?_
      refine ⟨_, rfl, _, "tuple", _, _, rfl, hD.ty, hD.kT K, _, rfl, ?_⟩
      cases hTu : isTupD d with
      | false =>
        refine iteT (iteT (q false fs H hF (fun c o hc _ => hc) nd inr ⟨fun z => (by cases z), fun ⟨z, _⟩ => ?_⟩ (fun z => (by cases z))))
        cases d with
        | int _ => cases hI
        | tuple _ => cases hTu
        | none => exact z.elim
        | bool _ => exact z.elim
        | str _ => exact z.elim
        | list _ => exact z.elim
        | dict _ => exact z.elim
      | true =>
        obtain ⟨b, xs, ds, rfl, rfl, hb, hs⟩ := hT.tup_inv hTu
        have hb' := off_on _ _ hb
        have hxl := hs.length
        have no : (¬ (2 ≤ ds.length ∧ ds.length ≤ wy)) → Q (.bl false) H := fun h => q false fs H hF (fun c o hc _ => hc) nd inr ⟨fun z => (by cases z), fun ⟨z, _⟩ => absurd ⟨z.1, z.2.1⟩ h⟩ (fun z => (by cases z))
        refine iteF ⟨_, rfl, b, _, rfl, .inr (SqT.of hb'), _, _, rfl, rfl, _, rfl, ?_⟩
        by_cases h1 : ((xs.length : Nat) : Int) < 2
        · exact iteD h1 (iteT (no (by omega)))
        refine iteDN h1 ⟨_, rfl, b, _, rfl, .inr (SqT.of hb'), _, rfl, _, _, rfl, rfl, _, rfl, ?_⟩
        by_cases h2 : ((xs.length : Nat) : Int) > (wy : Int)
        · exact iteD h2 (no (by omega))
        refine iteDN h2 ?_
        refine ⟨_, rfl, b, rfl, ⟨_, SqT.of hb'⟩, ?_⟩
        have nbf : b ≠ fo := fun z => by rw [z] at hb; unfold off at hb; rw [if_pos rfl] at hb; cases hb
        refine for_tup (K := K) (a := b) (xs := xs) (fun i σ H2 => ∃ (fs2 : List Int) (v : Option V), σ = [some (.ref a), some (.int wy), some (.ref b), some (.ref fo), v] ∧ i ≤ xs.length ∧ H2 fo = some (.lst (fs2.map V.int)) ∧ fs2 = fs ++ lvDs (ds.take i) ∧ fs2.Nodup ∧ InR ns.length fs2 ∧ okDs wy (ds.take i) ∧ (∀ c o, H c = some o → c ≠ fo → H2 c = some o)) ⟨fs, _, rfl, Nat.zero_le _, hF, by rw [List.take_zero]; show fs = fs ++ []; rw [List.append_nil], nd, inr, by rw [List.take_zero]; trivial, fun c o hc _ => hc⟩ (fun _ _ _ _ ⟨_, _, _, _, _, _, _, _, _, k2⟩ => SqT.of (k2 _ _ hb' nbf)) ?_ ?_
        · rintro i z σ H2 hz ⟨fs2, v, rfl, hi, hF2, e2, nd2, in2, ok2, k2⟩
          obtain ⟨dz, hdz, hv⟩ := hs.get hz
          have hil := (List.getElem?_eq_some_iff.mp hz).1
          have hdd : PyData.depthAll ds + 1 < n + 1 := by have : (PyData.tuple ds).depth = PyData.depthAll ds + 1 := by simp [PyData.depth]
                                                          omega
          have hd2 := depth_at hdz
          have elv : lvDs (ds.take (i + 1)) = lvDs (ds.take i) ++ lvD dz := by rw [List.take_add_one, hdz, lvDs_app]; show _ ++ (lvD dz ++ []) = _; rw [List.append_nil]
          have eok : okDs wy (ds.take (i + 1)) ↔ okDs wy (ds.take i) ∧ okD wy dz := by rw [List.take_add_one, hdz, okDs_app]; show _ ∧ (okD wy dz ∧ True) ↔ _; rw [and_true]
          have esp : lvDs ds = lvDs (ds.take (i + 1)) ++ lvDs (ds.drop (i + 1)) := by rw [← lvDs_app, List.take_append_drop]
          have esok : okDs wy ds ↔ okDs wy (ds.take (i + 1)) ∧ okDs wy (ds.drop (i + 1)) := by rw [← okDs_app, List.take_append_drop]
          refine ⟨_, rfl, _, rfl, _, rfl, _, rfl, a, fo, ns, fs2, wy, z, dz, rfl, k2 _ _ hS naf, hF2, naf, n12, hv.mono (off_but k2), by omega, nd2, in2, fun bo fs3 H3 hF3 k3 nd3 in3 hbo he3 => ⟨_, rfl, ?_⟩⟩
          have k03 : ∀ c o, H c = some o → c ≠ fo → H3 c = some o := fun c o hc nc => k3 c o (k2 c o hc nc) nc
          cases bo with
          | false =>
            refine iteT (q false fs3 H3 hF3 k03 nd3 in3 ⟨fun z => (by cases z), fun ⟨z1, z2, z3⟩ => ?_⟩ (fun z => (by cases z)))
            have z1 : 2 ≤ ds.length ∧ ds.length ≤ wy ∧ okDs wy ds := z1
            have z2 : (fs ++ lvDs ds).Nodup := z2
            have z3 : InR ns.length (lvDs ds) := z3
            have hok := (eok.mp (esok.mp z1.2.2).1).2
            rw [esp, elv, ← List.append_assoc, ← List.append_assoc, ← e2] at z2
            have hnd := (List.nodup_append.mp z2).1
            have hin : InR ns.length (lvD dz) := fun k hk => z3 k (by rw [esp, elv]; exact List.mem_append_left _ (List.mem_append_right _ hk))
            have := hbo.mpr ⟨hok, hnd, hin⟩
            cases this
          | true =>
            obtain ⟨y1, y2, y3⟩ := hbo.mp rfl
            have e3 := he3 rfl
            exact iteF ⟨fs3, _, rfl, hil, hF3, by rw [e3, e2, elv, List.append_assoc], nd3, in3, eok.mpr ⟨ok2, y1⟩, k03⟩
        · rintro σ H2 ⟨fs2, v, rfl, hi, hF2, e2, nd2, in2, ok2, k2⟩
          rw [hxl, List.take_of_length_le (Nat.le_refl _)] at e2 ok2
          exact q true fs2 H2 hF2 k2 nd2 in2 ⟨fun _ => ⟨⟨by omega, by omega, ok2⟩, by show (fs ++ lvDs ds).Nodup; rw [← e2]; exact nd2, fun k hk => in2 k (by rw [e2]; exact List.mem_append_right _ hk)⟩, fun _ => rfl⟩ (fun _ => e2)
def PlanD (n wy : Nat) (d : PyData) : Prop := okD wy d ∧ (lvD d).Nodup ∧ InR n (lvD d) ∧ (lvD d).length = n
def spPlanD (m : Nat) : Sp := fun vs H Q _ => ∃ (a : Addr) (ns : List Int) (wy : Nat) (x : V) (d : PyData), vs = [.ref a, .int wy, x] ∧ H a = some (.lst (ns.map V.int)) ∧ ns.length ≤ 100 ∧ DH H x d ∧ d.depth < m ∧
  ∀ (b : Bool) (H' : Hp), (b = true ↔ PlanD ns.length wy d) → Same H H' → Q (.bl b) H'
theorem ok_planD (T : Tops K mg) (m : Nat) (f_finds_rows : Df P w K mg base (m + 1) "finds_rows" ["sizes", "ways", "thing", "found"] (spFD m)) : Df P w K mg base (m + 2) "is_plan" ["sizes", "ways", "thing"] (spPlanD m) := by
  refine T.t_is_plan.df sc_is_plan (fun vs H Q E h => ?_) (fun cdv f A outer s H vs Q E hr h => ?_)
  · obtain ⟨a, ns, wy, x, d, rfl, _⟩ := h
    rfl
  obtain ⟨a, ns, wy, x, d, rfl, hS, n12, hT, hdp, q⟩ := h
  refine ⟨_, (@pss_cons _ _ _ _ _ (@ps_set _ _ 3 _ _ _ _ sc_is_plan.nd rfl (Or.inl rfl) (@pe_lst _ _ _ _ (@pa_nil _)) (by rfl) (by first | exact .inl rfl | exact .inr rfl)) (@pss_one _ _ _ (@ps_ret _ _ _ _ (@pe_and _ _ _ _ _ _ _ (@pe_df _ _ _ _ _ _ _ _ _ _ _ f_finds_rows hr (@pa_cons _ _ _ _ _ (@pv _ 0 _ _ (by rfl) (Or.inl rfl) (by decide) (by decide)) (@pa_cons _ _ _ _ _ (@pv _ 1 _ _ (by rfl) (Or.inl rfl) (by decide) (by decide)) (@pa_cons _ _ _ _ _ (@pv _ 2 _ _ (by rfl) (Or.inl rfl) (by decide) (by decide)) (@pa_cons _ _ _ _ _ (@pv _ 3 _ _ (by rfl) (Or.inl rfl) (by decide) (by decide)) (@pa_nil _) (by rfl)) (by rfl)) (by rfl)) (by rfl)) (by first | decide | exact Nat.le_refl _ | omega) (by rfl) (by decide) (by rfl) (by rfl)) (@pe_one _ _ _ _ _ (@pe_cmpR _ _ _ _ _ _ _ _ op_eq (@pe_callB _ _ _ _ _ _ _ _ _ (lenQ K) (by rfl) T.b.n_len PySem.boot_len (@pa_cons _ _ _ _ _ (@pv _ 3 _ _ (by rfl) (Or.inl rfl) (by decide) (by decide)) (@pa_nil _) (by rfl)) (by decide) (by decide) (by rfl) (by rfl)) (@pe_callB _ _ _ _ _ _ _ _ _ (lenQ K) (by rfl) T.b.n_len PySem.boot_len (@pa_cons _ _ _ _ _ (@pv _ 0 _ _ (by rfl) (Or.inl rfl) (by decide) (by decide)) (@pa_nil _) (by rfl)) (by decide) (by decide) (by rfl) (by rfl)) (nomark _))))))), ?_⟩
  refine ⟨(by show 0 ≤ sizeLine; decide), fun fo hfo => ?_⟩
  have s1 := same_new hfo (.lst [])
  have naf : a ≠ fo := ne_of_none hS hfo
  have hoff : Same H (off fo (upd H fo (.lst []))) := fun b o hb => by
    have nb := ne_of_none hb hfo
    exact off_at (by rw [upd_ne nb]; exact hb) nb
  refine ⟨_, rfl, _, rfl, _, rfl, _, rfl, a, fo, ns, [], wy, x, d, rfl, s1 _ _ hS, upd_same, naf, n12, hT.mono hoff, hdp, List.nodup_nil, (fun k hk => by cases hk), fun bo fs2 H2 hF2 k2 nd2 in2 hbo he2 => ⟨_, rfl, ?_⟩⟩
  have s2 : Same H H2 := fun b o hb => k2 b o (s1 b o hb) (ne_of_none hb hfo)
  cases bo with
  | false =>
    refine iteF (q false H2 ⟨fun z => (by cases z), fun ⟨z1, z2, z3, _⟩ => ?_⟩ s2)
    have := hbo.mpr ⟨z1, by rw [List.nil_append]; exact z2, z3⟩
    cases this
  | true =>
    obtain ⟨y1, y2, y3⟩ := hbo.mp rfl
    have e2 := he2 rfl
    rw [List.nil_append] at e2 y2
    subst e2
    refine iteT ⟨_, rfl, fo, _, rfl, .inl (SqL.of hF2), _, rfl, a, _, rfl, .inl (SqL.of (s2 _ _ hS)), rfl, ?_⟩
    refine q _ H2 ⟨fun z => ⟨y1, y2, y3, ?_⟩, fun z => decide_eq_true ?_⟩ s2
    · have z := of_decide_eq_true z
      have z : ((((lvD d).map V.int).length : Nat) : Int) = (((ns.map V.int).length : Nat) : Int) := by injection z
      rw [List.length_map, List.length_map] at z
      omega
    · rw [List.length_map, List.length_map, z.2.2.2]
theorem perm_rng {n : Nat} {l : List Int} : l.Perm (upsI 0 n) ↔ l.Nodup ∧ InR n l ∧ l.length = n := by
  have e : ∀ k, k ∈ upsI 0 n ↔ 0 ≤ k ∧ k < (n : Int) := fun k => by
    unfold upsI
    rw [List.mem_map]
    constructor
    · rintro ⟨i, hi, rfl⟩; have := List.mem_range.mp hi; omega
    · rintro ⟨h1, h2⟩; exact ⟨k.toNat, List.mem_range.mpr (by omega), by omega⟩
  have nd0 : (upsI 0 n).Nodup := by unfold upsI; exact List.pairwise_map.mpr (List.nodup_range.imp fun h g => h (by omega))
  constructor
  · intro h
    exact ⟨h.nodup_iff.mpr nd0, fun k hk => (e k).mp (h.mem_iff.mp hk), by rw [h.length_eq, upsI_len]⟩
  · rintro ⟨h1, h2, h3⟩
    refine (List.perm_ext_iff_of_nodup h1 nd0).mpr fun k => ⟨fun hk => (e k).mpr (h2 k hk), fun hk => ?_⟩
    by_cases hm : k ∈ l
    · exact hm
    · have hk := (e k).mp hk
      have := inR_len (n := n) (l := k :: l) (List.nodup_cons.mpr ⟨hm, h1⟩) (fun z hz => by
        rcases List.mem_cons.mp hz with rfl | hz
        · exact hk
        · exact h2 z hz)
      rw [List.length_cons] at this
      omega
theorem eqvs_ints : ∀ A B : List Int, PyData.eqvAll (A.map PyData.int) (B.map PyData.int) = decide (A = B)
  | [], [] => by simp [PyData.eqvAll]
  | [], b :: B => by simp [PyData.eqvAll]
  | a :: A, [] => by simp [PyData.eqvAll]
  | a :: A, b :: B => by
    simp only [List.map_cons, PyData.eqvAll, PyData.eqv, eqvs_ints A B]
    by_cases h : a = b <;> by_cases g : A = B <;> simp [h, g]
theorem srt_ups {ms ks : List Int} {n : Nat} (p : ms.Perm ks) (h : ms.Pairwise (· ≤ ·)) : ms = upsI 0 n ↔ ks.Perm (upsI 0 n) := by
  constructor
  · intro e; rw [← e]; exact p.symm
  · intro e
    have nd0 : (upsI 0 n).Pairwise (· ≤ ·) := by
      unfold upsI
      exact List.pairwise_map.mpr (List.pairwise_lt_range.imp fun h => by omega)
    exact List.Perm.eq_of_pairwise (fun a b _ _ h1 h2 => Int.le_antisymm h1 h2) h nd0 (p.trans e)
theorem last_of {l : List PyData} (h : l ≠ []) : ∃ u, l = l.dropLast ++ [u] := ⟨l.getLast h, (List.dropLast_concat_getLast h).symm⟩
theorem dhs_last {H : Hp} {xs : List V} {l : List PyData} (h : DHs H xs l) (n : l ≠ []) : ∃ x u, xs[xs.length - 1]? = some x ∧ DH H x u ∧ DHs H xs.dropLast l.dropLast ∧ l = l.dropLast ++ [u] := by
  have hl := h.length
  have lp : 0 < l.length := List.length_pos_iff.mpr n
  have h1 : xs[xs.length - 1]? = some xs[xs.length - 1] := List.getElem?_eq_getElem (by omega)
  obtain ⟨d, hd, hv⟩ := h.get h1
  refine ⟨_, d, h1, hv, ?_, ?_⟩
  · rw [List.dropLast_eq_take, List.dropLast_eq_take, hl]
    exact h.take _
  · obtain ⟨u, e⟩ := last_of n
    have e2 : l[l.length - 1]? = some u := by
      have e3 : (l.dropLast ++ [u])[l.dropLast.length]? = some u := by simp
      rw [← e, List.length_dropLast] at e3
      exact e3
    rw [hl, e2] at hd
    cases hd
    exact e
theorem layAll_app : ∀ a b : List PyData, PyData.canLayAll0 (a ++ b) = (PyData.canLayAll0 a && PyData.canLayAll0 b)
  | [], b => by simp [PyData.canLayAll0]
  | d :: r, b => by simp [PyData.canLayAll0, layAll_app r b, Bool.and_assoc]
theorem depAll_app : ∀ a b : List PyData, PyData.depthAll (a ++ b) = max (PyData.depthAll a) (PyData.depthAll b)
  | [], b => by simp [PyData.depthAll]
  | d :: r, b => by
    show max d.depth (PyData.depthAll (r ++ b)) = max (max d.depth (PyData.depthAll r)) (PyData.depthAll b)
    rw [depAll_app r b]; omega
theorem ne_nilD (l : List PyData) : (if true = true then !PyData.eqv (.list l) (.list []) else PyData.eqv (.list l) (.list [])) = !l.isEmpty := by
  cases l with
  | nil => decide +kernel
  | cons t r => simp [PyData.eqv, PyData.eqvAll]
theorem nds_len : ∀ l : List PyData, l.length ≤ ndDs l
  | [] => Nat.le_refl 0
  | d :: r => by have := nds_len r; have := nd_pos d; show r.length + 1 ≤ ndD d + ndDs r; omega
def spLPD (K : PySem.W.Frag) : Sp := fun vs H Q _ => ∃ (a : Addr) (ns : List Int) (wy : Nat) (x : V) (d : PyData), vs = [.ref a, .int wy, x] ∧ H a = some (.lst (ns.map V.int)) ∧ ns.length ≤ 100 ∧ DH H x d ∧ d.canLay0 = true ∧ d.depth ≤ 40 ∧ lfD d < 64 ∧ ndD d ≤ 100000 ∧
  ∀ (b : Bool) (H' : Hp), (b = true ↔ PlanD ns.length wy d) → Same H H' → Q (.bl b) H'
theorem ok_lplanD (T : Tops K mg) : Df P w K mg base 1 "_law_is_plan" ["_law_sizes_here", "_law_ways_here", "_law_thing"] (spLPD K) := by
  refine T.t_l_is_plan.df sc_l_is_plan (fun vs H Q E h => ?_) (fun cdv f A outer s H vs Q E hr h => ?_)
  · obtain ⟨a, ns, wy, x, t, rfl, _⟩ := h
    rfl
  obtain ⟨a, ns, wy, x, d, rfl, hS, hn, hT, hlay, hdp, hlf, hno, q⟩ := h
  refine ⟨_, (@pss_cons _ _ _ _ _ (@ps_set _ _ 3 _ _ _ _ sc_l_is_plan.nd rfl (Or.inl rfl) (@pe_lst _ _ _ _ (@pa_nil _)) (by rfl) (by first | exact .inl rfl | exact .inr rfl)) (@pss_cons _ _ _ _ _ (@ps_set _ _ 4 _ _ _ _ sc_l_is_plan.nd rfl (Or.inl rfl) (@pe_lst _ _ _ _ (@pa_cons _ _ _ _ _ (@pv _ 2 _ _ (by rfl) (Or.inl rfl) (by decide) (by decide)) (@pa_nil _) (by rfl))) (by rfl) (by first | exact .inl rfl | exact .inr rfl)) (@pss_cons _ _ _ _ _ (@ps_while _ _ _ _ _ _ PassesOwn.never (@pt_cmpR _ _ _ _ _ _ _ _ (@neD _ K _ hr (by rfl)) (@pv _ 4 _ _ (by rfl) (Or.inl rfl) (by decide) (by decide)) (@pe_lst _ _ _ _ (@pa_nil _)) (nomark _)) (@pss_cons _ _ _ _ _ (@ps_set _ _ 5 _ _ _ _ sc_l_is_plan.nd rfl (Or.inl rfl) (@pe_bm0 _ _ _ _ _ _ _ _ _ PySem.F.plainAttrs_list PySem.F.slot_list_pop PySem.F.type_list_pop mt_pop (@pv _ 4 _ _ (by rfl) (Or.inl rfl) (by decide) (by decide)) (by rfl) (by rfl)) (by rfl) (by first | exact .inl rfl | exact .inr rfl)) (@pss_one _ _ _ (@ps_if _ _ _ _ _ _ _ _ (@pt_val _ _ _ (@pe_callB _ _ _ _ _ _ _ _ _ (isiQ K) (by rfl) T.b.n_isinstance boot_isinstance (@pa_cons _ _ _ _ _ (@pv _ 5 _ _ (by rfl) (Or.inl rfl) (by decide) (by decide)) (@pa_cons _ _ _ _ _ (@pe_ty _ _ _ _ T.b.n_tuple boot_tuple (by rfl) (by decide) (by decide)) (@pa_nil _) (by rfl)) (by rfl)) (by decide) (by decide) (by rfl) (by rfl)) (by intro _; rfl)) (@pss_cons _ _ _ _ _ (@ps_if _ _ _ _ _ _ _ _ (@pt_not _ _ _ _ (@pt_chain _ _ _ _ _ _ _ _ _ _ _ _ op_le op_le (@pe_int _ _ _ _) (@pe_callB _ _ _ _ _ _ _ _ _ (lenQ K) (by rfl) T.b.n_len PySem.boot_len (@pa_cons _ _ _ _ _ (@pv _ 5 _ _ (by rfl) (Or.inl rfl) (by decide) (by decide)) (@pa_nil _) (by rfl)) (by decide) (by decide) (by rfl) (by rfl)) (@pv _ 1 _ _ (by rfl) (Or.inl rfl) (by decide) (by decide)) (by with_unfolding_all rfl))) (@pss_one _ _ _ (@ps_ret _ _ _ _ (@pe_bl _ _ _ _))) (@pss_nil _)) (@pss_one _ _ _ (@ps_expr _ _ _ _ (@pe_bm _ _ _ _ _ _ _ _ _ _ _ _ PySem.F.plainAttrs_list PySem.F.slot_list_extend PySem.F.type_list_extend (extT K) (@pv _ 4 _ _ (by rfl) (Or.inl rfl) (by decide) (by decide)) (@pa_cons _ _ _ _ _ (@pv _ 5 _ _ (by rfl) (Or.inl rfl) (by decide) (by decide)) (@pa_nil _) (by rfl)) (by rfl) (by rfl) (by rfl) (by rfl) (by rfl)) (by rfl)))) (@pss_one _ _ _ (@ps_if _ _ _ _ _ _ _ _ (@PW.pt _ _ _ (@pw_or _ _ _ _ _ _ _ (@pt_not _ _ _ _ (@pt_val _ _ _ (@pe_callB _ _ _ _ _ _ _ _ _ (isiQ K) (by rfl) T.b.n_isinstance boot_isinstance (@pa_cons _ _ _ _ _ (@pv _ 5 _ _ (by rfl) (Or.inl rfl) (by decide) (by decide)) (@pa_cons _ _ _ _ _ (@pe_ty _ _ _ _ T.b.n_int boot_int (by rfl) (by decide) (by decide)) (@pa_nil _) (by rfl)) (by rfl)) (by decide) (by decide) (by rfl) (by rfl)) (by intro _; rfl))) (@pw_or1 _ _ _ _ (@pt_val _ _ _ (@pe_callB _ _ _ _ _ _ _ _ _ (isiQ K) (by rfl) T.b.n_isinstance boot_isinstance (@pa_cons _ _ _ _ _ (@pv _ 5 _ _ (by rfl) (Or.inl rfl) (by decide) (by decide)) (@pa_cons _ _ _ _ _ (@pe_ty _ _ _ _ T.b.n_bool boot_bool (by rfl) (by decide) (by decide)) (@pa_nil _) (by rfl)) (by rfl)) (by decide) (by decide) (by rfl) (by rfl)) (by intro _; rfl))))) (@pss_one _ _ _ (@ps_ret _ _ _ _ (@pe_bl _ _ _ _))) (@pss_one _ _ _ (@ps_expr _ _ _ _ (@pe_bm _ _ _ _ _ _ _ _ _ _ _ _ PySem.F.plainAttrs_list PySem.F.slot_list_append PySem.F.type_list_append mt_append (@pv _ 3 _ _ (by rfl) (Or.inl rfl) (by decide) (by decide)) (@pa_cons _ _ _ _ _ (@pv _ 5 _ _ (by rfl) (Or.inl rfl) (by decide) (by decide)) (@pa_nil _) (by rfl)) (by rfl) (by rfl) (by rfl) (by rfl) (by rfl)) (by rfl))))))))) (@pss_one _ _ _ (@ps_ret _ _ _ _ (@pe_cmpR _ _ _ _ _ _ _ _ (@eqD _ K _ hr (by rfl)) (@pe_callB _ _ _ _ _ _ _ _ _ (srtI K) (by rfl) T.b.n_sorted boot_sorted (@pa_cons _ _ _ _ _ (@pv _ 3 _ _ (by rfl) (Or.inl rfl) (by decide) (by decide)) (@pa_nil _) (by rfl)) (by decide) (by decide) (by rfl) (by rfl)) (@pe_callTy _ _ _ _ _ _ _ _ _ listR (by rfl) T.b.n_list boot_list (@pa_cons _ _ _ _ _ (@pe_callTy _ _ _ _ _ _ _ _ _ rng1 (by rfl) T.b.n_range boot_range (@pa_cons _ _ _ _ _ (@pe_callB _ _ _ _ _ _ _ _ _ (lenQ K) (by rfl) T.b.n_len PySem.boot_len (@pa_cons _ _ _ _ _ (@pv _ 0 _ _ (by rfl) (Or.inl rfl) (by decide) (by decide)) (@pa_nil _) (by rfl)) (by decide) (by decide) (by rfl) (by rfl)) (@pa_nil _) (by rfl)) (by decide) (by decide) (by rfl) (by rfl)) (@pa_nil _) (by rfl)) (by decide) (by decide) (by rfl) (by rfl)) (nomark _))))))), ?_⟩
  refine ⟨(by show 0 ≤ sizeLine; decide), fun f hf => ⟨_, rfl, (by show 1 ≤ sizeLine; decide), fun wa hwa => ?_⟩⟩
  have hwH : H wa = none := (same_new hf (.lst [])).free hwa
  have nfw : f ≠ wa := ne_of_none (H := upd H f (.lst [])) upd_same hwa
  have s0 : Same H (upd (upd H f (.lst [])) wa (.lst [x])) := (same_new hf _).trans (same_new hwa _)
  refine ⟨fun m σ H2 => ∃ (xs : List V) (l : List PyData) (ks : List Int) (v3 : Option V), σ = [some (.ref a), some (.int wy), some x, some (.ref f), some (.ref wa), v3] ∧ H2 wa = some (.lst xs) ∧ DHs H xs l ∧ PyData.canLayAll0 l = true ∧ PyData.depthAll l ≤ 40 ∧ H2 f = some (.lst (ks.map V.int)) ∧ (okD wy d ↔ okDs wy l) ∧ (okDs wy l → (lvD d).Perm (ks ++ lvDs l)) ∧ ks.length + lfDs l < 64 ∧ ndDs l ≤ 100000 ∧ Same H H2 ∧ m = ndDs l,
    ⟨_, [x], [d], [], none, rfl, upd_same, .cons hT .nil, by simp [PyData.canLayAll0, hlay], ?_, ?_, ?_, ?_, ?_, ?_, s0, rfl⟩, ?_⟩
  · show max d.depth 0 ≤ 40; omega
  · rw [upd_ne nfw]; exact upd_same
  · show okD wy d ↔ okD wy d ∧ True; rw [and_true]
  · intro _; show (lvD d).Perm (lvD d ++ []); rw [List.append_nil]
  · show 0 + (lfD d + 0) < 64; omega
  · show ndD d + 0 ≤ 100000; omega
  rintro m σ H2 ⟨xs, l, ks, v3, rfl, hw2, hT2, lay2, dp2, hf2, hok, hpm, hlf2, hnd2, s2, rfl⟩
  refine ⟨_, rfl, (by show 0 ≤ sizeLine; decide), fun e he => ?_⟩
  have se := same_new he (.lst [])
  refine ⟨.list l, .list [], .lst (SqL.of (se _ _ hw2)) (hT2.mono (s2.trans se)).dv, .lst (SqL.of upd_same) .nil, ?_, (by decide +kernel), _, rfl, ?_⟩
  · simp [SeqAt.shaped, PyData.canLay0, PyData.depth, lay2]; omega
  rw [ne_nilD]
  have hw3 := se _ _ hw2
  have hf3 := se _ _ hf2
  have s3 := s2.trans se
  generalize upd H2 e (.lst []) = H3 at hw3 hf3 s3 ⊢
  cases hl : l.isEmpty with
  | true =>
    have e0 : l = [] := List.isEmpty_iff.mp hl
    subst e0
    have hpm' : (lvD d).Perm ks := by
      have h9 : (lvD d).Perm (ks ++ []) := hpm trivial
      rw [List.append_nil] at h9
      exact h9
    have okd : okD wy d := hok.mpr trivial
    have hls : (((ns.map V.int).length : Nat) : Int) = (ns.length : Int) := by rw [List.length_map]
    have hkl : ks.length < 64 := by omega
    refine iteF ⟨_, rfl, f, ks, rfl, SqL.of hf3, hkl, fun so ms hso pm pw => ?_⟩
    have s4 := same_new hso (.lst (ms.map V.int))
    have f4 : (upd H3 so (.lst (ms.map V.int))) so = some (.lst (ms.map V.int)) := upd_same
    generalize upd H3 so (.lst (ms.map V.int)) = H4 at s4 f4 ⊢
    refine ⟨_, rfl, a, _, rfl, .inl (SqL.of ((s3.trans s4) _ _ hS)), ?_⟩
    simp only [hls]
    refine ⟨_, rfl, fun rg hrg => ⟨rg, 0, _, rfl, upd_same, by omega, by omega, by omega, by omega, by omega, fun tr htr => ?_⟩⟩
    rw [show (((ns.length : Int) - 0).toNat) = ns.length by omega]
    have s5 : Same H4 (upd (upd H4 rg (.rng 0 (ns.length : Int))) tr (.lst ((upsI 0 ns.length).map V.int))) := (same_new hrg _).trans (same_new htr _)
    have f5 : (upd (upd H4 rg (.rng 0 (ns.length : Int))) tr (.lst ((upsI 0 ns.length).map V.int))) tr = some (.lst ((upsI 0 ns.length).map V.int)) := upd_same
    generalize upd (upd H4 rg (.rng 0 (ns.length : Int))) tr (.lst ((upsI 0 ns.length).map V.int)) = H5 at s5 f5 ⊢
    refine ⟨_, _, .lst (SqL.of (s5 _ _ f4)) (dv_ints _), .lst (SqL.of f5) (dv_ints _), shaped_ints _, shaped_ints _, ?_⟩
    rw [if_neg (by decide)]
    have ee : PyData.eqv (.list (ms.map PyData.int)) (.list ((upsI 0 ns.length).map PyData.int)) = decide (ms = upsI 0 ns.length) := by rw [← eqvs_ints]; simp [PyData.eqv]
    rw [ee]
    refine q _ H5 ⟨fun z => ?_, fun z => decide_eq_true ?_⟩ ((s3.trans s4).trans s5)
    · have z := (srt_ups pm pw).mp (of_decide_eq_true z)
      obtain ⟨z1, z2, z3⟩ := perm_rng.mp (hpm'.trans z)
      exact ⟨okd, z1, z2, z3⟩
    · exact (srt_ups pm pw).mpr (hpm'.symm.trans (perm_rng.mpr z.2))
  | false =>
    have lne : l ≠ [] := fun z => by rw [z] at hl; cases hl
    obtain ⟨y, u, hy, hu, hTd, el⟩ := dhs_last hT2 lne
    have layd : PyData.canLayAll0 l.dropLast = true ∧ u.canLay0 = true := by
      have := lay2
      rw [el, layAll_app] at this
      simpa [PyData.canLayAll0] using this
    have dpd : PyData.depthAll l.dropLast ≤ 40 ∧ u.depth ≤ 40 := by
      have := dp2
      rw [el, depAll_app] at this
      have e9 : PyData.depthAll [u] = u.depth := by show max u.depth 0 = _; omega
      rw [e9] at this
      omega
    have eok : okDs wy l ↔ okDs wy l.dropLast ∧ okD wy u := by
      have := okDs_app wy l.dropLast [u]
      rw [← el] at this
      rw [this]; show _ ∧ (okD wy u ∧ True) ↔ _; rw [and_true]
    have lvd : lvDs l = lvDs l.dropLast ++ lvD u := by
      have : lvDs (l.dropLast ++ [u]) = _ := lvDs_app _ _
      rw [← el] at this; rw [this]; show _ ++ (lvD u ++ []) = _; rw [List.append_nil]
    have lfd : lfDs l = lfDs l.dropLast + lfD u := by
      have : lfDs (l.dropLast ++ [u]) = _ := lfDs_app _ _
      rw [← el] at this; rw [this]; show _ + (lfD u + 0) = _; omega
    have nod : ndDs l = ndDs l.dropLast + ndD u := by
      have : ndDs (l.dropLast ++ [u]) = _ := ndDs_app _ _
      rw [← el] at this; rw [this]; show _ + (ndD u + 0) = _; omega
    have hup := nd_pos u
    refine iteT ⟨_, fun σ' H' h => h, ?_⟩
    refine ⟨_, rfl, .inl ⟨rfl, _, SqL.of hw3⟩, wa, xs, y, rfl, rfl, hw3, hy, ?_⟩
    have hw4 : (upd H3 wa (.lst xs.dropLast)) wa = some (.lst xs.dropLast) := upd_same
    have hf4 : (upd H3 wa (.lst xs.dropLast)) f = some (.lst (ks.map V.int)) := by rw [upd_ne nfw]; exact hf3
    have s4 : Same H (upd H3 wa (.lst xs.dropLast)) := fun b o h => by rw [upd_ne (ne_of_none h hwH)]; exact s3 b o h
    generalize upd H3 wa (.lst xs.dropLast) = H4 at hw4 hf4 s4 ⊢
    have hu4 := hu.mono s4
    have no : ¬ okD wy u → Q (.bl false) H4 := fun h => q false H4 ⟨fun z => (by cases z), fun z => absurd (eok.mp (hok.mp z.1)).2 h⟩ s4
    refine ⟨_, rfl, _, "tuple", _, _, rfl, hu4.ty, hu4.kT K, _, rfl, ?_⟩
    cases hTu : isTupD u with
    | true =>
      obtain ⟨b, ys, ds, rfl, rfl, hb, hs⟩ := hu.tup_inv hTu
      have hb4 := s4 _ _ hb
      have l2 := hs.length
      refine iteT ⟨_, rfl, b, ys, rfl, .inr (SqT.of hb4), _, _, rfl, rfl, _, rfl, ?_⟩
      by_cases h2 : ¬ (2 : Int) ≤ ((ys.length : Nat) : Int)
      · refine iteDN h2 ⟨_, rfl, iteT (no fun z => ?_)⟩
        have : 2 ≤ ds.length := z.1
        omega
      have h2 := Decidable.not_not.mp h2
      refine iteD h2 ⟨_, rfl, _, _, rfl, rfl, _, rfl, ?_⟩
      by_cases h3 : ¬ ((ys.length : Nat) : Int) ≤ (wy : Int)
      · refine iteNT h3 (no fun z => ?_)
        have : ds.length ≤ wy := z.2.1
        omega
      have h3 := Decidable.not_not.mp h3
      refine iteNE h3 ?_
      have l1 := hTd.length
      have l3 := nds_len l.dropLast
      have l4 := nds_len ds
      have e1 : ndD (.tuple ds) = ndDs ds + 1 := rfl
      have e2 : lfD (.tuple ds) = lfDs ds := rfl
      have e3 : (PyData.tuple ds).depth = PyData.depthAll ds + 1 := by simp [PyData.depth]
      have e4 : PyData.canLayAll0 ds = true := by simpa [PyData.canLay0] using layd.2
      have e5 : okD wy (.tuple ds) ↔ okDs wy ds := ⟨fun z => z.2.2, fun z => ⟨by omega, by omega, z⟩⟩
      refine ⟨_, rfl, .inl ⟨rfl, _, SqL.of hw4⟩, _, rfl, wa, b, _, _, rfl, rfl, hw4, hb4, by rw [sizeLine_eq]; omega, _, ?_, xs.dropLast ++ ys, l.dropLast ++ ds, ks, _, rfl, upd_same, hTd.app hs, ?_, ?_, ?_, ?_, ?_, ?_, ?_, ?_, rfl⟩
      · rw [ndDs_app]; omega
      · rw [layAll_app, layd.1, e4]; rfl
      · rw [depAll_app]; omega
      · rw [upd_ne nfw]; exact hf4
      · rw [hok, eok, okDs_app, e5]
      · intro z
        rw [okDs_app] at z
        have := hpm (eok.mpr ⟨z.1, e5.mpr z.2⟩)
        rw [lvd] at this
        rw [lvDs_app]; exact this
      · rw [lfDs_app]; omega
      · rw [ndDs_app]; omega
      · intro c o h
        rw [upd_ne (ne_of_none h hwH)]; exact s4 c o h
    | false =>
      refine iteF ?_
      refine ⟨_, rfl, _, "int", _, _, rfl, hu4.ty, hu4.kI K, _, rfl, ?_⟩
      cases hI : isIntD u with
      | false =>
        have nok : ¬ okD wy u := fun z => by
          cases u with
          | int _ => cases hI
          | tuple _ => cases hTu
          | none => exact z
          | bool _ => exact z
          | str _ => exact z
          | list _ => exact z
          | dict _ => exact z
        cases hB : isBoolD u with
        | false => exact iteT (iteT (no nok))
        | true =>
          refine iteF ⟨_, rfl, _, "bool", _, _, rfl, hu4.ty, hu4.kB K, _, rfl, ?_⟩
          rw [hB]
          exact iteT (no nok)
      | true =>
        obtain ⟨k, rfl, rfl⟩ := hu.int_inv hI
        refine iteF ⟨_, rfl, _, "bool", _, _, rfl, .int k, k_int_bl K, _, rfl, iteF ?_⟩
        have e1 : ndD (.int k) = 1 := rfl
        have e2 : lfD (.int k) = 1 := rfl
        refine ⟨_, rfl, .inl ⟨rfl, _, SqL.of hf4⟩, _, rfl, f, _, _, rfl, rfl, hf4, (by rw [List.length_map]; exact small1000 (by omega)), _, ?_, xs.dropLast, l.dropLast, ks ++ [k], _, rfl, ?_, hTd, layd.1, dpd.1, ?_, ?_, ?_, ?_, ?_, ?_, rfl⟩
        · omega
        · rw [upd_ne nfw.symm]; exact hw4
        · rw [upd_same, List.map_append]; rfl
        · rw [hok, eok]; exact ⟨fun z => z.1, fun z => ⟨z, trivial⟩⟩
        · intro z
          refine (hpm (eok.mpr ⟨z, trivial⟩)).trans ?_
          rw [lvd, List.append_assoc]
          exact List.Perm.append_left _ List.perm_append_comm
        · rw [List.length_append, List.length_singleton]; omega
        · omega
        · intro c o h
          rw [upd_ne (ne_of_none h hf)]; exact s4 c o h
structure Gd (D : Nat) (d : PyData) : Prop where
  dp : d.depth ≤ D
  lay : d.canLay0 = true
  sh : d.intsShort 22 = true
  shw : d.showable = true
theorem Gd.mono {D D' : Nat} {d : PyData} (h : Gd D d) (l : D ≤ D') : Gd D' d := ⟨Nat.le_trans h.dp l, h.lay, h.sh, h.shw⟩
theorem gds_all {D : Nat} : ∀ {ds : List PyData}, (∀ d ∈ ds, Gd D d) → PyData.depthAll ds ≤ D ∧ PyData.canLayAll0 ds = true ∧ PyData.intsShortAll 22 ds = true ∧ PyData.showableAll ds = true
  | [], _ => ⟨Nat.zero_le _, rfl, rfl, rfl⟩
  | d :: r, h => by
    obtain ⟨a, b, c, e⟩ := gds_all (ds := r) fun x hx => h x (List.mem_cons_of_mem _ hx)
    obtain ⟨a', b', c', e'⟩ := h d (List.mem_cons_self ..)
    refine ⟨?_, by simp [PyData.canLayAll0, b, b'], by simp [PyData.intsShortAll, c, c'], by simp [PyData.showableAll, e, e']⟩
    show max d.depth (PyData.depthAll r) ≤ D
    omega
theorem gd_list {D : Nat} {ds : List PyData} (h : ∀ d ∈ ds, Gd D d) : Gd (D + 1) (.list ds) := by
  obtain ⟨a, b, c, e⟩ := gds_all h
  refine ⟨by simp [PyData.depth]; exact a, by simpa [PyData.canLay0] using b, by simpa [PyData.intsShort] using c, by simpa [PyData.showable] using e⟩
theorem gd_tup {D : Nat} {ds : List PyData} (h : ∀ d ∈ ds, Gd D d) : Gd (D + 1) (.tuple ds) := by
  obtain ⟨a, b, c, e⟩ := gds_all h
  refine ⟨by simp [PyData.depth]; exact a, by simpa [PyData.canLay0] using b, by simpa [PyData.intsShort] using c, by simpa [PyData.showable] using e⟩
theorem all_of {ds : List PyData} (a : PyData.canLayAll0 ds = true) (b : PyData.intsShortAll 22 ds = true) (c : PyData.showableAll ds = true) : ∀ d ∈ ds, d.canLay0 = true ∧ d.intsShort 22 = true ∧ d.showable = true := by
  induction ds with
  | nil => intro d hd; cases hd
  | cons x r ih =>
    simp only [PyData.canLayAll0, PyData.intsShortAll, PyData.showableAll, Bool.and_eq_true] at a b c
    intro d hd
    rcases List.mem_cons.mp hd with rfl | hd
    · exact ⟨a.1, b.1, c.1⟩
    · exact ih a.2 b.2 c.2 d hd
theorem Gd.parts {D : Nat} {ds : List PyData} (h : Gd D (.tuple ds)) : 1 ≤ D ∧ ∀ d ∈ ds, Gd (D - 1) d := by
  have hd : PyData.depthAll ds + 1 ≤ D := by have := h.dp; simpa [PyData.depth] using this
  refine ⟨by omega, fun d hdm => ?_⟩
  obtain ⟨a, b, c⟩ := all_of (by simpa [PyData.canLay0] using h.lay) (by simpa [PyData.intsShort] using h.sh) (by simpa [PyData.showable] using h.shw) d hdm
  obtain ⟨i, hi, e⟩ := List.getElem_of_mem hdm
  have := depth_at (l := ds) (i := i) (d := d) (by rw [List.getElem?_eq_getElem hi, e])
  exact ⟨by omega, a, b, c⟩
theorem wt_app : ∀ a b : List PyData, PyData.weightAll (a ++ b) = PyData.weightAll a + PyData.weightAll b
  | [], b => by simp [PyData.weightAll]
  | d :: r, b => by
    show d.weight + 1 + PyData.weightAll (r ++ b) = d.weight + 1 + PyData.weightAll r + PyData.weightAll b
    rw [wt_app r b]; omega
theorem wt_rev : ∀ a : List PyData, PyData.weightAll a.reverse = PyData.weightAll a
  | [] => rfl
  | d :: r => by
    rw [List.reverse_cons, wt_app, wt_rev r]
    show PyData.weightAll r + (d.weight + 1 + 0) = d.weight + 1 + PyData.weightAll r
    omega
theorem lf_rev : ∀ a : List PyData, lfDs a.reverse = lfDs a
  | [] => rfl
  | d :: r => by
    rw [List.reverse_cons, lfDs_app, lf_rev r]
    show lfDs r + (lfD d + 0) = lfD d + lfDs r
    omega
theorem wt_cut (a : List PyData) (k : Nat) : PyData.weightAll (a.take k) + PyData.weightAll (a.drop k) = PyData.weightAll a := by rw [← wt_app, List.take_append_drop]
theorem lf_cut (a : List PyData) (k : Nat) : lfDs (a.take k) + lfDs (a.drop k) = lfDs a := by rw [← lfDs_app, List.take_append_drop]
mutual
theorem nd_wt : ∀ d : PyData, ndD d ≤ d.weight + 1
  | .list l => by have := nds_wt l; show ndDs l + 1 ≤ PyData.weightAll l + 1; omega
  | .tuple l => by have := nds_wt l; show ndDs l + 1 ≤ PyData.weightAll l + 1; omega
  | .none => Nat.le_add_left 1 _
  | .bool _ => Nat.le_add_left 1 _
  | .int _ => Nat.le_add_left 1 _
  | .str _ => Nat.le_add_left 1 _
  | .dict _ => Nat.le_add_left 1 _
theorem nds_wt : ∀ l : List PyData, ndDs l ≤ PyData.weightAll l
  | [] => Nat.le_refl 0
  | d :: r => by
    have := nd_wt d
    have := nds_wt r
    show ndD d + ndDs r ≤ d.weight + 1 + PyData.weightAll r
    omega
end
def PathOk : PyData → List Nat → Prop
  | _, [] => True
  | .tuple l, i :: ps => ∃ d, l[i]? = some d ∧ PathOk d ps
  | _, _ :: _ => False
def partD : PyData → List Nat → PyData
  | d, [] => d
  | .tuple l, i :: ps => partD (l.getD i .none) ps
  | d, _ :: _ => d
def putD : PyData → List Nat → PyData → PyData
  | _, [], e => e
  | .tuple l, i :: ps, e => .tuple (l.take i ++ [putD (l.getD i .none) ps e] ++ l.drop (i + 1))
  | d, _ :: _, _ => d
theorem getD_of {l : List PyData} {i : Nat} {d : PyData} (h : l[i]? = some d) : l.getD i .none = d := by rw [List.getD_eq_getElem?_getD, h]; rfl
theorem split_of {l : List PyData} {i : Nat} {d : PyData} (h : l[i]? = some d) : l = l.take i ++ [d] ++ l.drop (i + 1) := by
  obtain ⟨hi, e⟩ := List.getElem?_eq_some_iff.mp h
  rw [List.append_assoc, ← e]
  show l = l.take i ++ (l[i] :: l.drop (i + 1))
  rw [← List.drop_eq_getElem_cons hi, List.take_append_drop]
theorem put_bd : ∀ (ps : List Nat) {d e : PyData} {D E : Nat}, PathOk d ps → Gd D d → Gd E e → lfD (putD d ps e) + lfD (partD d ps) = lfD d + lfD e ∧ (putD d ps e).weight + (partD d ps).weight = d.weight + e.weight ∧ Gd (max D (ps.length + E)) (putD d ps e) ∧ ps.length ≤ D ∧ Gd (D - ps.length) (partD d ps)
  | [], d, e, D, E, _, hd, he => ⟨Nat.add_comm _ _, Nat.add_comm _ _, he.mono (by simp; omega), Nat.zero_le _, hd⟩
  | i :: ps, d, e, D, E, hp, hd, he => by
    cases d with
    | tuple l =>
      obtain ⟨u, hu, hp⟩ := (show ∃ d, l[i]? = some d ∧ PathOk d ps from hp)
      obtain ⟨d1, hg⟩ := hd.parts
      have hug := hg u (List.mem_of_getElem? hu)
      obtain ⟨a, b, c, f, g⟩ := put_bd ps hp hug he
      have es := split_of hu
      have e1 : lfDs l = lfDs (l.take i) + lfD u + lfDs (l.drop (i + 1)) := by
        have := congrArg lfDs es
        rw [lfDs_app, lfDs_app] at this
        rw [this]; show _ + (lfD u + 0) + _ = _; omega
      have e2 : PyData.weightAll l = PyData.weightAll (l.take i) + (u.weight + 1) + PyData.weightAll (l.drop (i + 1)) := by
        have := congrArg PyData.weightAll es
        rw [wt_app, wt_app] at this
        rw [this]; show _ + (u.weight + 1 + 0) + _ = _; omega
      have pd : partD (.tuple l) (i :: ps) = partD u ps := by show partD (l.getD i .none) ps = _; rw [getD_of hu]
      have qd : putD (.tuple l) (i :: ps) e = .tuple (l.take i ++ [putD u ps e] ++ l.drop (i + 1)) := by show PyData.tuple (l.take i ++ [putD (l.getD i .none) ps e] ++ l.drop (i + 1)) = _; rw [getD_of hu]
      rw [pd, qd]
      refine ⟨?_, ?_, ?_, by rw [List.length_cons]; omega, ?_⟩
      · show lfDs (l.take i ++ [putD u ps e] ++ l.drop (i + 1)) + _ = lfDs l + _
        rw [lfDs_app, lfDs_app, e1]
        show _ + (lfD (putD u ps e) + 0) + _ + _ = _
        omega
      · show PyData.weightAll (l.take i ++ [putD u ps e] ++ l.drop (i + 1)) + _ = PyData.weightAll l + _
        rw [wt_app, wt_app, e2]
        show _ + ((putD u ps e).weight + 1 + 0) + _ + _ = _
        omega
      · have := gd_tup (D := max (D - 1) (ps.length + E)) (ds := l.take i ++ [putD u ps e] ++ l.drop (i + 1)) fun x hx => by
          rcases List.mem_append.mp hx with hx | hx
          · rcases List.mem_append.mp hx with hx | hx
            · exact (hg x (List.mem_of_mem_take hx)).mono (by omega)
            · rw [List.mem_singleton.mp hx]; exact c
          · exact (hg x (List.mem_of_mem_drop hx)).mono (by omega)
        exact this.mono (by rw [List.length_cons]; omega)
      · exact g.mono (by rw [List.length_cons]; omega)
    | _ => exact (show False from hp).elim
theorem path_snoc : ∀ {ps : List Nat} {d : PyData} {l : List PyData} {i : Nat} {u : PyData}, PathOk d ps → partD d ps = .tuple l → l[i]? = some u → PathOk d (ps ++ [i]) ∧ partD d (ps ++ [i]) = u
  | [], d, l, i, u, _, h, hu => by
    have h : d = .tuple l := h
    subst h
    exact ⟨⟨u, hu, trivial⟩, by show partD (l.getD i .none) [] = u; rw [getD_of hu]; rfl⟩
  | j :: ps, d, l, i, u, hp, h, hu => by
    cases d with
    | tuple m =>
      obtain ⟨v, hv, hp⟩ := (show ∃ d, m[j]? = some d ∧ PathOk d ps from hp)
      have h : partD (m.getD j .none) ps = .tuple l := h
      rw [getD_of hv] at h
      obtain ⟨a, b⟩ := path_snoc hp h hu
      refine ⟨⟨v, hv, a⟩, ?_⟩
      show partD (m.getD j .none) (ps ++ [i]) = u
      rw [getD_of hv]; exact b
    | _ => exact (show False from hp).elim
mutual
theorem TV.dh {H : Hp} : ∀ {x : V} {t : PT}, TV H x t → DH H x (toD t)
  | _, _, .leaf k => .int k
  | _, _, .node h hs => .tup h hs.dh
theorem TVs.dh {H : Hp} : ∀ {xs : List V} {l : List PT}, TVs H xs l → DHs H xs (toDs l)
  | _, _, .nil => .nil
  | _, _, .cons h hs => .cons h.dh hs.dh
end
mutual
theorem lf_tree : ∀ t : PT, lfD (toD t) = tLf t
  | .leaf k => rfl
  | .node l => lfs_tree l
theorem lfs_tree : ∀ l : List PT, lfDs (toDs l) = tLfs l
  | [] => rfl
  | t :: r => by show lfD (toD t) + lfDs (toDs r) = tLf t + tLfs r; rw [lf_tree t, lfs_tree r]
end
mutual
theorem short_up : ∀ d : PyData, d.intsShort 13 = true → d.intsShort 22 = true
  | .none, _ => rfl
  | .bool _, _ => rfl
  | .str _, _ => rfl
  | .dict _, _ => rfl
  | .int i, h => by
    simp only [PyData.intsShort, decide_eq_true_eq] at h ⊢
    omega
  | .list l, h => shorts_up l h
  | .tuple l, h => shorts_up l h
theorem shorts_up : ∀ l : List PyData, PyData.intsShortAll 13 l = true → PyData.intsShortAll 22 l = true
  | [], _ => rfl
  | d :: r, h => by
    simp only [PyData.intsShortAll, Bool.and_eq_true] at h ⊢
    exact ⟨short_up d h.1, shorts_up r h.2⟩
end
theorem tree_gd {n : Nat} {t : PT} (hn : n ≤ 1000) (hok : tOk n t) : Gd (tDp t) (toD t) ∧ (toD t).weight + 1 ≤ 42 * tNo t := by
  obtain ⟨a, b, c, d, e⟩ := tree_fit hn t hok
  exact ⟨⟨by rw [b]; exact Nat.le_refl _, a, short_up _ d, e⟩, c⟩
structure Th (L W D : Nat) (d : PyData) : Prop where
  lf : lfD d ≤ L
  wt : d.weight ≤ W
  gd : Gd D d
theorem Th.mono {L W D L' W' D' : Nat} {d : PyData} (h : Th L W D d) (a : L ≤ L') (b : W ≤ W') (c : D ≤ D') : Th L' W' D' d := ⟨Nat.le_trans h.lf a, Nat.le_trans h.wt b, h.gd.mono c⟩
theorem th_int {i : Int} (h : i.natAbs < 10 ^ 21) : Th 1 72 0 (.int i) := by
  have hlog : i.natAbs.log2 < 70 := by
    by_cases e : i.natAbs = 0
    · rw [e]; decide
    · exact (Nat.log2_lt e).mpr (Nat.lt_of_lt_of_le h (by decide))
  refine ⟨Nat.le_refl 1, ?_, by simp [PyData.depth], by simp [PyData.canLay0], ?_, ?_⟩
  · simp only [PyData.weight]
    split <;> omega
  · simp only [PyData.intsShort]
    have e := int_text_length_le10 (k := 21) (by decide) h
    exact decide_eq_true (by show (Str.ofString (toString i)).length ≤ 22; rw [PySem.ofString_length]; exact e)
  · simp only [PyData.showable]
    exact decide_eq_true (by omega)
def toN (c : List Nat) : List Int := c.map fun x : Nat => (x : Int)
def spLPut (n : Nat) : Sp := fun vs H Q _ => ∃ (p : Addr) (lp : List V) (x y : V) (pl : Addr) (ps : List Nat) (d e : PyData), vs = [x, .ref pl, y] ∧ H p = some (.lst lp) ∧ DH (off p H) x d ∧ H pl = some (.lst ((toN ps).map V.int)) ∧ DH (off p H) y e ∧ PathOk d ps ∧ ps.length < n ∧ ps.length ≤ 100 ∧ (putD d ps e).weight ≤ 100000 ∧ d.weight ≤ 100000 ∧
  ∀ (z : V) (H' : Hp), DH (off p H') z (putD d ps e) → Same H H' → Q z H'
theorem wt_len : ∀ l : List PyData, l.length ≤ PyData.weightAll l
  | [] => Nat.le_refl 0
  | d :: r => by have := wt_len r; show r.length + 1 ≤ d.weight + 1 + PyData.weightAll r; omega
theorem wt_at : ∀ {l : List PyData} {i : Nat} {d : PyData}, l[i]? = some d → d.weight + 1 ≤ PyData.weightAll l
  | [], i, d, h => by simp at h
  | a :: r, 0, d, h => by
    have : a = d := by simpa using h
    subst this
    show a.weight + 1 ≤ a.weight + 1 + PyData.weightAll r
    omega
  | a :: r, i + 1, d, h => by
    have := wt_at (l := r) (i := i) (by simpa using h)
    show d.weight + 1 ≤ a.weight + 1 + PyData.weightAll r
    omega
theorem DHs.getR {H : Hp} : ∀ {xs : List V} {ds : List PyData}, DHs H xs ds → ∀ {i : Nat} {d : PyData}, ds[i]? = some d → ∃ x, xs[i]? = some x ∧ DH H x d
  | _, _, .nil, i, d, h => by simp at h
  | _, _, .cons hd _, 0, d, h => by
    simp only [List.getElem?_cons_zero, Option.some.injEq] at h
    subst h
    exact ⟨_, rfl, hd⟩
  | _, _, .cons _ hs, i + 1, d, h => by
    obtain ⟨x, e, hd⟩ := DHs.getR hs (i := i) (by simpa using h)
    exact ⟨x, by simpa using e, hd⟩
theorem ok_lput (T : Tops K mg) : ∀ n : Nat, Df P w K mg base (n + 1) "_law_put" ["_law_tree", "_law_path", "_law_new"] (spLPut n)
  | 0 => by
    refine T.t_l_put.df sc_l_put (fun vs H Q E h => ?_) (fun cdv f A outer s H vs Q E hr h => ?_)
    · obtain ⟨p, lp, x, y, pl, ps, d, e, rfl, _⟩ := h
      rfl
    obtain ⟨p, lp, x, y, pl, ps, d, e, rfl, _, _, _, _, _, hn, _⟩ := h
    exact absurd hn (by omega)
  | n + 1 => by
    have f_l_put := ok_lput T n
    refine T.t_l_put.df sc_l_put (fun vs H Q E h => ?_) (fun cdv f A outer s H vs Q E hr h => ?_)
    · obtain ⟨p, lp, x, y, pl, ps, d, e, rfl, _⟩ := h
      rfl
    obtain ⟨p, lp, x, y, pl, ps, d, e, rfl, hlp, hd, hp, he, hok, hn, h100, hw, hwd, q⟩ := h
    refine ⟨_, (@pss_cons _ _ _ _ _ (@ps_if _ _ _ _ _ _ _ _ (@pt_cmpR _ _ _ _ _ _ _ _ (@eqD _ K _ hr (by rfl)) (@pv _ 1 _ _ (by rfl) (Or.inl rfl) (by decide) (by decide)) (@pe_lst _ _ _ _ (@pa_nil _)) (nomark _)) (@pss_one _ _ _ (@ps_ret _ _ _ _ (@pv _ 2 _ _ (by rfl) (Or.inl rfl) (by decide) (by decide)))) (@pss_nil _)) (@pss_cons _ _ _ _ _ (@ps_set _ _ 3 _ _ _ _ sc_l_put.nd rfl (Or.inl rfl) (@pe_ix _ _ _ _ _ _ _ (ixL K) (@pv _ 1 _ _ (by rfl) (Or.inl rfl) (by decide) (by decide)) (@pe_int _ _ _ _) (fun _ _ => rfl)) (by rfl) (by first | exact .inl rfl | exact .inr rfl)) (@pss_one _ _ _ (@ps_ret _ _ _ _ (@pe_op _ _ _ _ _ _ _ _ (@catA _ K (by rfl)) (@pe_op _ _ _ _ _ _ _ _ (@catA _ K (by rfl)) (@pe_slice _ _ _ _ _ _ _ _ _ _ (slT K) (@pv _ 0 _ _ (by rfl) (Or.inl rfl) (by decide) (by decide)) (@po_none _) (@po_some _ _ _ (@pv _ 3 _ _ (by rfl) (Or.inl rfl) (by decide) (by decide)))) (@pe_tup _ _ _ _ _ (@pa_cons _ _ _ _ _ (@pe_df _ _ _ _ _ _ _ _ _ _ _ f_l_put hr (@pa_cons _ _ _ _ _ (@pe_ix _ _ _ _ _ _ _ (ixT K) (@pv _ 0 _ _ (by rfl) (Or.inl rfl) (by decide) (by decide)) (@pv _ 3 _ _ (by rfl) (Or.inl rfl) (by decide) (by decide)) (fun _ _ => rfl)) (@pa_cons _ _ _ _ _ (@pe_slice _ _ _ _ _ _ _ _ _ _ (slL K) (@pv _ 1 _ _ (by rfl) (Or.inl rfl) (by decide) (by decide)) (@po_some _ _ _ (@pe_int _ _ _ _)) (@po_none _)) (@pa_cons _ _ _ _ _ (@pv _ 2 _ _ (by rfl) (Or.inl rfl) (by decide) (by decide)) (@pa_nil _) (by rfl)) (by rfl)) (by rfl)) (by first | decide | exact Nat.le_refl _ | omega) (by rfl) (by decide) (by rfl) (by rfl)) (@pa_nil _) (by rfl)))) (@pe_slice _ _ _ _ _ _ _ _ _ _ (slT K) (@pv _ 0 _ _ (by rfl) (Or.inl rfl) (by decide) (by decide)) (@po_some _ _ _ (@pe_op _ _ _ _ _ _ _ _ op_add (@pv _ 3 _ _ (by rfl) (Or.inl rfl) (by decide) (by decide)) (@pe_int _ _ _ _))) (@po_none _))))))), ?_⟩
    refine ⟨_, rfl, (by show 0 ≤ sizeLine; decide), fun e0 he0 => ?_⟩
    have s1 := same_new he0 (.lst [])
    refine ⟨.list ((toN ps).map PyData.int), .list [], .lst (SqL.of (s1 _ _ hp)) (dv_ints _), .lst (SqL.of upd_same) .nil, shaped_ints _, (by decide +kernel), _, rfl, ?_⟩
    rw [eq_nilI]
    have hp1 := s1 _ _ hp
    generalize upd H e0 (.lst []) = H1 at s1 hp1 ⊢
    cases ps with
    | nil => exact iteT ⟨_, rfl, q y H1 (he.mono (off_same s1)) s1⟩
    | cons i ps =>
      refine iteF ?_
      cases d with
      | tuple l =>
        obtain ⟨u, hu, hok⟩ := (show ∃ d, l[i]? = some d ∧ PathOk d ps from hok)
        obtain ⟨b, xs, ds, rfl, edl, hb, hs⟩ := hd.tup_inv rfl
        cases edl
        obtain ⟨xu, hxu, hxd⟩ := DHs.getR hs hu
        have hil := (List.getElem?_eq_some_iff.mp hu).1
        have hxl := hs.length
        have hxi : i < xs.length := by omega
        have hll : l.length ≤ 100000 := Nat.le_trans (wt_len l) hwd
        have qd : putD (.tuple l) (i :: ps) e = .tuple (l.take i ++ [putD u ps e] ++ l.drop (i + 1)) := by show PyData.tuple (l.take i ++ [putD (l.getD i .none) ps e] ++ l.drop (i + 1)) = _; rw [getD_of hu]
        rw [qd] at q hw
        have hb1 := s1 _ _ (off_on _ _ hb)
        refine ⟨_, rfl, pl, _, 0, _, rfl, rfl, SqL.of hp1, atI_nat (show ((toN (i :: ps)).map V.int)[0]? = some (V.int (i : Int)) from rfl), ?_⟩
        refine ⟨_, rfl, _, rfl, _, rfl, b, xs, rfl, SqT.of hb1, sl_not1 hxi, fun p1 hp1' => ?_⟩
        have s2 := same_new hp1' (.tup (cutV xs none (some (i : Int))))
        have f2 : (upd H1 p1 (.tup (cutV xs none (some (i : Int))))) p1 = some (.tup (cutV xs none (some (i : Int)))) := upd_same
        generalize upd H1 p1 (.tup (cutV xs none (some (i : Int)))) = H2 at s2 f2 ⊢
        rw [cutV_to] at f2
        have s02 := s1.trans s2
        refine ⟨_, rfl, _, rfl, b, xs, _, _, rfl, rfl, SqT.of (s2 _ _ hb1), atI_nat hxu, _, rfl, _, rfl, pl, _, rfl, SqL.of (s2 _ _ hp1), fun p2 hp2 => ?_⟩
        have s3 := same_new hp2 (.lst (cutV ((toN (i :: ps)).map V.int) (some 1) none))
        have f3 : (upd H2 p2 (.lst (cutV ((toN (i :: ps)).map V.int) (some 1) none))) p2 = some (.lst (cutV ((toN (i :: ps)).map V.int) (some 1) none)) := upd_same
        generalize upd H2 p2 (.lst (cutV ((toN (i :: ps)).map V.int) (some 1) none)) = H3 at s3 f3 ⊢
        rw [cutV_tail] at f3
        have f3 : H3 p2 = some (.lst ((toN ps).map V.int)) := f3
        have s03 := s02.trans s3
        have wu := wt_at hu
        have hwu : u.weight ≤ 100000 := by have : (PyData.tuple l).weight = PyData.weightAll l := rfl
                                           omega
        have hwp : (putD u ps e).weight ≤ 100000 := by
          have : (PyData.tuple (l.take i ++ [putD u ps e] ++ l.drop (i + 1))).weight = PyData.weightAll (l.take i ++ [putD u ps e] ++ l.drop (i + 1)) := rfl
          rw [this, wt_app, wt_app] at hw
          have : PyData.weightAll [putD u ps e] = (putD u ps e).weight + 1 := rfl
          omega
        refine ⟨_, rfl, p, lp, xu, y, p2, ps, u, e, rfl, s03 _ _ hlp, hxd.mono (off_same s03), f3, he.mono (off_same s03), hok, by rw [List.length_cons] at hn; omega, by rw [List.length_cons] at h100; omega, hwp, hwu, fun z H4 hz s4 => ?_⟩
        refine ⟨(by show 1 ≤ sizeLine; decide), fun p3 hp3 => ?_⟩
        have s5 := same_new hp3 (.tup [z])
        have f5 : (upd H4 p3 (.tup [z])) p3 = some (.tup [z]) := upd_same
        generalize upd H4 p3 (.tup [z]) = H5 at s5 f5 ⊢
        have s25 := (s3.trans s4).trans s5
        refine catA_go (s25 _ _ f2) f5 (by rw [List.length_take, List.length_singleton, sizeLine_eq]; omega) fun r6 H6 s6 h6 => ?_
        have s26 : Same H2 H6 := fun c o hc => s6 _ _ (s25 c o hc)
        refine ⟨_, rfl, _, rfl, _, _, rfl, rfl, _, rfl, b, xs, rfl, SqT.of ((s2.trans s26) _ _ hb1), sl_not2 hxi, fun p7 hp7 => ?_⟩
        have s7 := same_new hp7 (.tup (cutV xs (some ((i : Int) + 1)) none))
        have f7 : (upd H6 p7 (.tup (cutV xs (some ((i : Int) + 1)) none))) p7 = some (.tup (cutV xs (some ((i : Int) + 1)) none)) := upd_same
        generalize upd H6 p7 (.tup (cutV xs (some ((i : Int) + 1)) none)) = H7 at s7 f7 ⊢
        rw [show (i : Int) + 1 = ((i + 1 : Nat) : Int) by omega, cutV_fr] at f7
        refine catA_go (s7 _ _ h6) f7 (by rw [List.length_append, List.length_take, List.length_drop, List.length_singleton, sizeLine_eq]; omega) fun r8 H8 s8 h8 => ?_
        have s68 : Same H6 H8 := fun c o hc => s8 _ _ (s7 c o hc)
        have s28 := s26.trans s68
        have s08 := s02.trans s28
        have nrp : r8 ≠ p := fun z => by rw [z, s08 _ _ hlp] at h8; cases h8
        refine q (.ref r8) H8 (.tup (off_at h8 nrp) (((hs.mono (off_same s08)).take i).app (.cons ?_ .nil) |>.app ((hs.mono (off_same s08)).drop (i + 1)))) s08
        exact hz.mono (off_same (fun c o hc => s68 _ _ (s6 _ _ (s5 c o hc))))
      | none => exact (show False from hok).elim
      | bool _ => exact (show False from hok).elim
      | int _ => exact (show False from hok).elim
      | str _ => exact (show False from hok).elim
      | list _ => exact (show False from hok).elim
      | dict _ => exact (show False from hok).elim
theorem ne_nilTD (l : List PyData) : (if true = true then !PyData.eqv (.tuple l) (.tuple []) else PyData.eqv (.tuple l) (.tuple [])) = !l.isEmpty := by
  cases l with
  | nil => decide +kernel
  | cons t r => simp [PyData.eqv, PyData.eqvAll]
theorem at_anyM {xs : List V} {k : Int} (h0 : 0 ≤ k) (h : k < (xs.length : Int)) : ∃ v ∈ xs, atI xs k = some v := by
  have hk : k.toNat < xs.length := by omega
  have ek : k = ((k.toNat : Nat) : Int) := by omega
  have q : atI xs ((k.toNat : Nat) : Int) = some xs[k.toNat] := atI_nat (List.getElem?_eq_getElem hk)
  rw [← ek] at q
  exact ⟨_, List.getElem_mem hk, q⟩
theorem path_gd {d : PyData} {ps : List Nat} {L W D : Nat} (h : Th L W D d) (hp : PathOk d ps) : ps.length ≤ D ∧ Gd (D - ps.length) (partD d ps) ∧ lfD (partD d ps) ≤ L ∧ (partD d ps).weight ≤ W := by
  obtain ⟨a, b, _, f, g⟩ := put_bd (e := .list []) (E := 1) ps hp h.gd (gd_list (D := 0) fun d hd => by cases hd)
  have h1 := h.lf
  have h2 := h.wt
  have e1 : lfD (.list []) = 0 := rfl
  have e2 : (PyData.list []).weight = 0 := rfl
  exact ⟨f, g, by omega, by omega⟩
theorem DHs.rev {H : Hp} : ∀ {xs : List V} {ds : List PyData}, DHs H xs ds → DHs H xs.reverse ds.reverse
  | _, _, .nil => .nil
  | _, _, .cons a b => by rw [List.reverse_cons, List.reverse_cons]; exact (DHs.rev b).app (.cons a .nil)
structure Eb (u e : PyData) (D : Nat) : Prop where
  lf : lfD e ≤ 2 * lfD u + 2
  wt : e.weight ≤ 2 * u.weight + 400
  gd : Gd (D + 2) e
def spSpoilt : Sp := fun vs H Q _ => ∃ (p : Addr) (c : Int) (x : V) (m L W D : Nat) (d : PyData), vs = [.ref p, x, .int m] ∧ Left H p c ∧ c < 2 ^ 40 ∧ DH (off p H) x d ∧ m ≤ 20 ∧ Th L W D d ∧ W ≤ 20000 ∧ D ≤ 30 ∧
  ∀ (z : V) (d' : PyData) (c' : Int) (H' : Hp), DH (off p H') z d' → Th (2 * L + 2) (2 * W + 400) (D + 2) d' → Left H' p c' → c ≤ c' → c' ≤ c + 100 → But p H H' → Q z H'
theorem ok_spoilt (T : Tops K mg) (f_l_pick : Df P w K mg base 2 "_law_pick" ["_law_left_here", "_law_many_here"] spPick) (f_l_put : Df P w K mg base 61 "_law_put" ["_law_tree", "_law_path", "_law_new"] (spLPut 60)) : Df P w K mg base 62 "_law_spoilt" ["_law_left_here", "_law_tree", "_law_many_here"] spSpoilt := by
  refine T.t_l_spoilt.df sc_l_spoilt (fun vs H Q E h => ?_) (fun cdv f A outer s H vs Q E hr h => ?_)
  · obtain ⟨p, c, x, m, L, W, D, d, rfl, _⟩ := h
    rfl
  obtain ⟨p, c, x, m, L, W, D, d, rfl, hL, c40, hd, hm, hth, hW, hD, q⟩ := h
  refine ⟨_, (@pss_cons _ _ _ _ _ (@ps_set _ _ 3 _ _ _ _ sc_l_spoilt.nd rfl (Or.inl rfl) (@pe_lst _ _ _ _ (@pa_nil _)) (by rfl) (by first | exact .inl rfl | exact .inr rfl)) (@pss_cons _ _ _ _ _ (@ps_set _ _ 4 _ _ _ _ sc_l_spoilt.nd rfl (Or.inl rfl) (@pv _ 1 _ _ (by rfl) (Or.inl rfl) (by decide) (by decide)) (by rfl) (by first | exact .inl rfl | exact .inr rfl)) (@pss_cut _ _ _ _ _ (@ps_while _ _ _ _ _ _ PassesOwn.never (@PW.pt _ _ _ (@pw_and _ _ _ _ _ _ _ (@pt_val _ _ _ (@pe_callB _ _ _ _ _ _ _ _ _ (isiQ K) (by rfl) T.b.n_isinstance boot_isinstance (@pa_cons _ _ _ _ _ (@pv _ 4 _ _ (by rfl) (Or.inl rfl) (by decide) (by decide)) (@pa_cons _ _ _ _ _ (@pe_ty _ _ _ _ T.b.n_tuple boot_tuple (by rfl) (by decide) (by decide)) (@pa_nil _) (by rfl)) (by rfl)) (by decide) (by decide) (by rfl) (by rfl)) (by intro _; rfl)) (@pw_and _ _ _ _ _ _ _ (@pt_cmpR _ _ _ _ _ _ _ _ (@neD _ K _ hr (by rfl)) (@pv _ 4 _ _ (by rfl) (Or.inl rfl) (by decide) (by decide)) (@pe_tup _ _ _ _ _ (@pa_nil _)) (nomark _)) (@pw_and1 _ _ _ _ (@pt_cmpR _ _ _ _ _ _ _ _ op_gt (@pe_df _ _ _ _ _ _ _ _ _ _ _ f_l_pick hr (@pa_cons _ _ _ _ _ (@pv _ 0 _ _ (by rfl) (Or.inl rfl) (by decide) (by decide)) (@pa_cons _ _ _ _ _ (@pe_int _ _ _ _) (@pa_nil _) (by rfl)) (by rfl)) (by first | decide | exact Nat.le_refl _ | omega) (by rfl) (by decide) (by rfl) (by rfl)) (@pe_int _ _ _ _) (nomark _)))))) (@pss_cons _ _ _ _ _ (@ps_expr _ _ _ _ (@pe_bm _ _ _ _ _ _ _ _ _ _ _ _ PySem.F.plainAttrs_list PySem.F.slot_list_append PySem.F.type_list_append mt_append (@pv _ 3 _ _ (by rfl) (Or.inl rfl) (by decide) (by decide)) (@pa_cons _ _ _ _ _ (@pe_df _ _ _ _ _ _ _ _ _ _ _ f_l_pick hr (@pa_cons _ _ _ _ _ (@pv _ 0 _ _ (by rfl) (Or.inl rfl) (by decide) (by decide)) (@pa_cons _ _ _ _ _ (@pe_callB _ _ _ _ _ _ _ _ _ (lenQ K) (by rfl) T.b.n_len PySem.boot_len (@pa_cons _ _ _ _ _ (@pv _ 4 _ _ (by rfl) (Or.inl rfl) (by decide) (by decide)) (@pa_nil _) (by rfl)) (by decide) (by decide) (by rfl) (by rfl)) (@pa_nil _) (by rfl)) (by rfl)) (by first | decide | exact Nat.le_refl _ | omega) (by rfl) (by decide) (by rfl) (by rfl)) (@pa_nil _) (by rfl)) (by rfl) (by rfl) (by rfl) (by rfl) (by rfl)) (by rfl)) (@pss_one _ _ _ (@ps_set _ _ 4 _ _ _ _ sc_l_spoilt.nd rfl (Or.inl rfl) (@pe_ix _ _ _ _ _ _ _ (ixT K) (@pv _ 4 _ _ (by rfl) (Or.inl rfl) (by decide) (by decide)) (@pe_ix _ _ _ _ _ _ _ (ixL K) (@pv _ 3 _ _ (by rfl) (Or.inl rfl) (by decide) (by decide)) (@pe_un _ _ _ _ _ _ un_neg (@pe_int _ _ _ _)) (fun _ _ => rfl)) (fun _ _ => rfl)) (by rfl) (by first | exact .inl rfl | exact .inr rfl))))) (@pss_cons _ _ _ _ _ (@ps_set _ _ 5 _ _ _ _ sc_l_spoilt.nd rfl (Or.inl rfl) (@pe_lst _ _ _ _ (@pa_cons _ _ _ _ _ (@pe_non _ _ _) (@pa_cons _ _ _ _ _ (@pe_bl _ _ _ _) (@pa_cons _ _ _ _ _ (@pe_bl _ _ _ _) (@pa_cons _ _ _ _ _ (@pe_un _ _ _ _ _ _ un_neg (@pe_int _ _ _ _)) (@pa_cons _ _ _ _ _ (@pv _ 2 _ _ (by rfl) (Or.inl rfl) (by decide) (by decide)) (@pa_cons _ _ _ _ _ (@pe_int _ _ _ _) (@pa_cons _ _ _ _ _ (@pe_op _ _ _ _ _ _ _ _ op_sub (@pv _ 2 _ _ (by rfl) (Or.inl rfl) (by decide) (by decide)) (@pe_int _ _ _ _)) (@pa_cons _ _ _ _ _ (@pe_str _ _ _ _) (@pa_cons _ _ _ _ _ (@pe_lst _ _ _ _ (@pa_nil _)) (@pa_cons _ _ _ _ _ (@pe_tup _ _ _ _ _ (@pa_nil _)) (@pa_cons _ _ _ _ _ (@pe_tup _ _ _ _ _ (@pa_cons _ _ _ _ _ (@pv _ 4 _ _ (by rfl) (Or.inl rfl) (by decide) (by decide)) (@pa_nil _) (by rfl))) (@pa_cons _ _ _ _ _ (@pe_lst _ _ _ _ (@pa_cons _ _ _ _ _ (@pv _ 4 _ _ (by rfl) (Or.inl rfl) (by decide) (by decide)) (@pa_nil _) (by rfl))) (@pa_cons _ _ _ _ _ (@pe_tup _ _ _ _ _ (@pa_cons _ _ _ _ _ (@pv _ 4 _ _ (by rfl) (Or.inl rfl) (by decide) (by decide)) (@pa_cons _ _ _ _ _ (@pv _ 4 _ _ (by rfl) (Or.inl rfl) (by decide) (by decide)) (@pa_nil _) (by rfl)) (by rfl))) (@pa_cons _ _ _ _ _ (@pe_tup _ _ _ _ _ (@pa_cons _ _ _ _ _ (@pe_int _ _ _ _) (@pa_cons _ _ _ _ _ (@pe_int _ _ _ _) (@pa_nil _) (by rfl)) (by rfl))) (@pa_cons _ _ _ _ _ (@pe_op _ _ _ _ _ _ _ _ op_pow (@pe_int _ _ _ _) (@pe_int _ _ _ _)) (@pa_nil _) (by rfl)) (by rfl)) (by rfl)) (by rfl)) (by rfl)) (by rfl)) (by rfl)) (by rfl)) (by rfl)) (by rfl)) (by rfl)) (by rfl)) (by rfl)) (by rfl)) (by rfl))) (by rfl) (by first | exact .inl rfl | exact .inr rfl)) (@pss_cut _ _ _ _ _ (@ps_set _ _ 6 _ _ _ _ sc_l_spoilt.nd rfl (Or.inl rfl) (@pe_ix _ _ _ _ _ _ _ (ixL K) (@pv _ 5 _ _ (by rfl) (Or.inl rfl) (by decide) (by decide)) (@pe_df _ _ _ _ _ _ _ _ _ _ _ f_l_pick hr (@pa_cons _ _ _ _ _ (@pv _ 0 _ _ (by rfl) (Or.inl rfl) (by decide) (by decide)) (@pa_cons _ _ _ _ _ (@pe_int _ _ _ _) (@pa_nil _) (by rfl)) (by rfl)) (by first | decide | exact Nat.le_refl _ | omega) (by rfl) (by decide) (by rfl) (by rfl)) (fun _ _ => rfl)) (by rfl) (by first | exact .inl rfl | exact .inr rfl)) (@pss_cut _ _ _ _ _ (@ps_if _ _ _ _ _ _ _ _ (@PW.pt _ _ _ (@pw_and _ _ _ _ _ _ _ (@pt_val _ _ _ (@pe_callB _ _ _ _ _ _ _ _ _ (isiQ K) (by rfl) T.b.n_isinstance boot_isinstance (@pa_cons _ _ _ _ _ (@pv _ 4 _ _ (by rfl) (Or.inl rfl) (by decide) (by decide)) (@pa_cons _ _ _ _ _ (@pe_ty _ _ _ _ T.b.n_tuple boot_tuple (by rfl) (by decide) (by decide)) (@pa_nil _) (by rfl)) (by rfl)) (by decide) (by decide) (by rfl) (by rfl)) (by intro _; rfl)) (@pw_and _ _ _ _ _ _ _ (@pt_cmpR _ _ _ _ _ _ _ _ op_gt (@pe_callB _ _ _ _ _ _ _ _ _ (lenQ K) (by rfl) T.b.n_len PySem.boot_len (@pa_cons _ _ _ _ _ (@pv _ 4 _ _ (by rfl) (Or.inl rfl) (by decide) (by decide)) (@pa_nil _) (by rfl)) (by decide) (by decide) (by rfl) (by rfl)) (@pe_int _ _ _ _) (nomark _)) (@pw_and1 _ _ _ _ (@pt_cmpR _ _ _ _ _ _ _ _ op_gt (@pe_df _ _ _ _ _ _ _ _ _ _ _ f_l_pick hr (@pa_cons _ _ _ _ _ (@pv _ 0 _ _ (by rfl) (Or.inl rfl) (by decide) (by decide)) (@pa_cons _ _ _ _ _ (@pe_int _ _ _ _) (@pa_nil _) (by rfl)) (by rfl)) (by first | decide | exact Nat.le_refl _ | omega) (by rfl) (by decide) (by rfl) (by rfl)) (@pe_int _ _ _ _) (nomark _)))))) (@pss_cons _ _ _ _ _ (@ps_set _ _ 7 _ _ _ _ sc_l_spoilt.nd rfl (Or.inl rfl) (@pe_lst _ _ _ _ (@pa_cons _ _ _ _ _ (@pe_callTy _ _ _ _ _ _ _ _ _ (listQ K) (by rfl) T.b.n_list boot_list (@pa_cons _ _ _ _ _ (@pv _ 4 _ _ (by rfl) (Or.inl rfl) (by decide) (by decide)) (@pa_nil _) (by rfl)) (by decide) (by decide) (by rfl) (by rfl)) (@pa_cons _ _ _ _ _ (@pe_slice _ _ _ _ _ _ _ _ _ _ (slT K) (@pv _ 4 _ _ (by rfl) (Or.inl rfl) (by decide) (by decide)) (@po_some _ _ _ (@pe_int _ _ _ _)) (@po_none _)) (@pa_cons _ _ _ _ _ (@pe_op _ _ _ _ _ _ _ _ (@catA _ K (by rfl)) (@pv _ 4 _ _ (by rfl) (Or.inl rfl) (by decide) (by decide)) (@pe_tup _ _ _ _ _ (@pa_cons _ _ _ _ _ (@pv _ 2 _ _ (by rfl) (Or.inl rfl) (by decide) (by decide)) (@pa_nil _) (by rfl)))) (@pa_cons _ _ _ _ _ (@pe_sliceS _ _ _ _ _ _ _ _ _ _ _ _ (slTS K) (@pv _ 4 _ _ (by rfl) (Or.inl rfl) (by decide) (by decide)) (@po_none _) (@po_none _) (@po_some _ _ _ (@pe_un _ _ _ _ _ _ un_neg (@pe_int _ _ _ _)))) (@pa_cons _ _ _ _ _ (@pe_slice _ _ _ _ _ _ _ _ _ _ (slT K) (@pv _ 4 _ _ (by rfl) (Or.inl rfl) (by decide) (by decide)) (@po_none _) (@po_some _ _ _ (@pe_int _ _ _ _))) (@pa_cons _ _ _ _ _ (@pe_tup _ _ _ _ _ (@pa_cons _ _ _ _ _ (@pe_ix _ _ _ _ _ _ _ (ixT K) (@pv _ 4 _ _ (by rfl) (Or.inl rfl) (by decide) (by decide)) (@pe_int _ _ _ _) (fun _ _ => rfl)) (@pa_cons _ _ _ _ _ (@pe_slice _ _ _ _ _ _ _ _ _ _ (slT K) (@pv _ 4 _ _ (by rfl) (Or.inl rfl) (by decide) (by decide)) (@po_some _ _ _ (@pe_int _ _ _ _)) (@po_none _)) (@pa_nil _) (by rfl)) (by rfl))) (@pa_cons _ _ _ _ _ (@pe_op _ _ _ _ _ _ _ _ (@catA _ K (by rfl)) (@pv _ 4 _ _ (by rfl) (Or.inl rfl) (by decide) (by decide)) (@pe_slice _ _ _ _ _ _ _ _ _ _ (slT K) (@pv _ 4 _ _ (by rfl) (Or.inl rfl) (by decide) (by decide)) (@po_none _) (@po_some _ _ _ (@pe_int _ _ _ _)))) (@pa_nil _) (by rfl)) (by rfl)) (by rfl)) (by rfl)) (by rfl)) (by rfl)) (by rfl))) (by rfl) (by first | exact .inl rfl | exact .inr rfl)) (@pss_one _ _ _ (@ps_set _ _ 6 _ _ _ _ sc_l_spoilt.nd rfl (Or.inl rfl) (@pe_ix _ _ _ _ _ _ _ (ixL K) (@pv _ 7 _ _ (by rfl) (Or.inl rfl) (by decide) (by decide)) (@pe_df _ _ _ _ _ _ _ _ _ _ _ f_l_pick hr (@pa_cons _ _ _ _ _ (@pv _ 0 _ _ (by rfl) (Or.inl rfl) (by decide) (by decide)) (@pa_cons _ _ _ _ _ (@pe_int _ _ _ _) (@pa_nil _) (by rfl)) (by rfl)) (by first | decide | exact Nat.le_refl _ | omega) (by rfl) (by decide) (by rfl) (by rfl)) (fun _ _ => rfl)) (by rfl) (by first | exact .inl rfl | exact .inr rfl)))) (@pss_nil _)) (@pss_one _ _ _ (@ps_ret _ _ _ _ (@pe_df _ _ _ _ _ _ _ _ _ _ _ f_l_put hr (@pa_cons _ _ _ _ _ (@pv _ 1 _ _ (by rfl) (Or.inl rfl) (by decide) (by decide)) (@pa_cons _ _ _ _ _ (@pv _ 3 _ _ (by rfl) (Or.inl rfl) (by decide) (by decide)) (@pa_cons _ _ _ _ _ (@pv _ 6 _ _ (by rfl) (Or.inl rfl) (by decide) (by decide)) (@pa_nil _) (by rfl)) (by rfl)) (by rfl)) (by first | decide | exact Nat.le_refl _ | omega) (by rfl) (by decide) (by rfl) (by rfl)))))))))), ?_⟩
  have c0 := hL.ge
  refine ⟨(by show 0 ≤ sizeLine; decide), fun pl hpl => ?_⟩
  have npp : p ≠ pl := by obtain ⟨o, ho⟩ := hL.here; exact ne_of_none ho hpl
  refine ⟨_, rfl, ?_⟩
  refine ⟨fun σ H2 => ∃ (ps : List Nat) (y : V) (c2 : Int) (v5 v6 v7 : Option V), σ = [some (.ref p), some x, some (.int m), some (.ref pl), some y, v5, v6, v7] ∧ H2 pl = some (.lst ((toN ps).map V.int)) ∧ DH (off p H) y (partD d ps) ∧ PathOk d ps ∧ Left H2 p c2 ∧ c ≤ c2 ∧ c2 ≤ c + 2 * D + 2 ∧ (∀ b o, H b = some o → b ≠ p → H2 b = some o), ?_, ?_⟩
  · refine ⟨fun k σ H2 => ∃ (ps : List Nat) (y : V) (c2 : Int) (v5 v6 v7 : Option V), σ = [some (.ref p), some x, some (.int m), some (.ref pl), some y, v5, v6, v7] ∧ H2 pl = some (.lst ((toN ps).map V.int)) ∧ DH (off p H) y (partD d ps) ∧ PathOk d ps ∧ Left H2 p c2 ∧ c ≤ c2 ∧ c2 ≤ c + 2 * ps.length ∧ (∀ b o, H b = some o → b ≠ p → H2 b = some o) ∧ k = D - ps.length, ⟨_, [], x, c, none, none, none, rfl, upd_same, hd, trivial, hL.new hpl, by omega, by simp, fun b o hb nb => by rw [upd_ne (ne_of_none hb hpl)]; exact hb, rfl⟩, ?_⟩
    rintro k σ H2 ⟨ps, y, c2, v5, v6, v7, rfl, hpl2, hy, hok, L2, b1, b2, k2, rfl⟩
    obtain ⟨g1, g2, g3, g4⟩ := path_gd hth hok
    have sm : Same (off p H) H2 := fun b o hb => by
      have nb : b ≠ p := fun z => by rw [z] at hb; unfold off at hb; rw [if_pos rfl] at hb; cases hb
      exact k2 b o (off_on _ _ hb) nb
    have hy2 := hy.mono sm
    refine ⟨_, rfl, _, "tuple", _, _, rfl, hy2.ty, hy2.kT K, _, rfl, ?_⟩
    cases hTu : isTupD (partD d ps) with
    | false => exact iteF ⟨ps, y, c2, _, _, _, rfl, hpl2, hy, hok, L2, b1, by omega, k2⟩
    | true =>
      obtain ⟨b, xs, ds, rfl, epd, hb, hs⟩ := hy.tup_inv hTu
      have hb2 := sm _ _ hb
      rw [epd] at g2
      refine iteT ⟨_, rfl, (by show 0 ≤ sizeLine; decide), fun e0 he0 => ?_⟩
      have s3 := same_new he0 (.tup [])
      have g2l := g2.lay
      have g2d := g2.dp
      refine ⟨.tuple ds, .tuple [], .tup (SqT.of (s3 _ _ hb2)) ((hs.mono sm).mono s3).dv, .tup (SqT.of upd_same) .nil, by simp [SeqAt.shaped, g2l]; omega, (by decide +kernel), _, rfl, ?_⟩
      rw [ne_nilTD]
      have L3 := L2.same s3
      have hpl3 := s3 _ _ hpl2
      have k3 : ∀ b o, H b = some o → b ≠ p → (upd H2 e0 (.tup [])) b = some o := fun b o hb nb => s3 _ _ (k2 b o hb nb)
      have hb3 := s3 _ _ hb2
      generalize upd H2 e0 (.tup []) = H3 at L3 hpl3 k3 hb3 ⊢
      cases hE : ds.isEmpty with
      | true => exact iteF ⟨ps, _, c2, _, _, _, rfl, hpl3, hy, hok, L3, b1, by omega, k3⟩
      | false =>
        have dne : ds ≠ [] := fun z => by rw [z] at hE; cases hE
        have dlen := List.length_pos_iff.mpr dne
        have hxl := hs.length
        have hgp := g2.parts
        have dl : ds.length ≤ 20000 := by
          have h9 := wt_len ds
          rw [epd] at g4
          have : (PyData.tuple ds).weight = PyData.weightAll ds := rfl
          omega
        refine iteT ⟨_, rfl, p, c2, 4, rfl, L3, by omega, by decide, by decide, fun r H4 r0 r1 L4 B4 => ⟨_, _, rfl, rfl, _, rfl, ite2 (fun hgt => ?_) (fun hle => ⟨ps, _, c2 + 1, _, _, _, rfl, B4 _ _ hpl3 npp.symm, hy, hok, L4, by omega, by omega, fun b o hb nb => B4 _ _ (k3 b o hb nb) nb⟩)⟩⟩
        have hpl4 := B4 _ _ hpl3 npp.symm
        have nbp : b ≠ p := fun z => by rw [z] at hb; unfold off at hb; rw [if_pos rfl] at hb; cases hb
        have hb4 := B4 _ _ hb3 nbp
        refine ⟨_, fun σ' H' h => h, ?_⟩
        refine ⟨_, rfl, .inl ⟨rfl, _, SqL.of hpl4⟩, _, rfl, _, rfl, b, _, rfl, .inr (SqT.of hb4), p, c2 + 1, _, rfl, L4, by omega, by omega, by omega, fun k H5 k0 k1 L5 B5 => ?_⟩
        have hpl5 := B5 _ _ hpl4 npp.symm
        obtain ⟨i, rfl⟩ : ∃ i : Nat, k = (i : Int) := ⟨k.toNat, by omega⟩
        have hil : i < ds.length := by omega
        have hdi : ds[i]? = some ds[i] := List.getElem?_eq_getElem hil
        obtain ⟨xi, hxi, hxd⟩ := DHs.getR hs hdi
        obtain ⟨ok2, pd2⟩ := path_snoc hok epd hdi
        refine ⟨pl, _, _, rfl, rfl, hpl5, by rw [List.length_map]; unfold toN; rw [List.length_map, sizeLine_eq]; omega, ?_⟩
        have hpl6 : (upd H5 pl (.lst ((toN ps).map V.int ++ [.int (i : Int)]))) pl = some (.lst ((toN (ps ++ [i])).map V.int)) := by rw [upd_same]; unfold toN; rw [List.map_append, List.map_append]; rfl
        have L6 := L5.at (o := .lst ((toN ps).map V.int ++ [.int (i : Int)])) npp
        have k6 : ∀ b o, H b = some o → b ≠ p → (upd H5 pl (.lst ((toN ps).map V.int ++ [.int (i : Int)]))) b = some o := fun b o hb nb => by rw [upd_ne (ne_of_none hb hpl)]; exact B5 _ _ (B4 _ _ (k3 b o hb nb) nb) nb
        have hb6 : (upd H5 pl (.lst ((toN ps).map V.int ++ [.int (i : Int)]))) b = some (.tup xs) := k6 _ _ (off_on _ _ hb) nbp
        generalize upd H5 pl (.lst ((toN ps).map V.int ++ [.int (i : Int)])) = H6 at hpl6 L6 k6 hb6 ⊢
        have hlast : atI ((toN (ps ++ [i])).map V.int) (-1) = some (.int (i : Int)) := at_last (by
          unfold toN; rw [List.map_append, List.map_append]; simp) (by unfold toN; simp)
        refine ⟨_, rfl, _, rfl, _, rfl, pl, _, _, _, rfl, rfl, SqL.of hpl6, hlast, b, xs, _, _, rfl, rfl, SqT.of hb6, atI_nat hxi, _, ?_, ps ++ [i], xi, c2 + 1 + 1, _, _, _, rfl, hpl6, by rw [pd2]; exact hxd, ok2, L6, by omega, ?_, k6, rfl⟩
        · obtain ⟨g1', _⟩ := path_gd hth ok2
          rw [List.length_append, List.length_singleton] at g1' ⊢
          omega
        · rw [List.length_append, List.length_singleton]; omega
  · rintro σ H2 ⟨ps, y, c2, v5, v6, v7, rfl, hpl2, hy, hok, L2, b1, b2, k2⟩
    obtain ⟨g1, g2, g3, g4⟩ := path_gd hth hok
    generalize hu : partD d ps = u at hy g2 g3 g4
    have sm : Same (off p H) (off p H2) := off_but k2
    obtain ⟨op, hop⟩ : ∃ o, H2 p = some o := L2.here
    have nw : ∀ {H' : Hp} {a : Addr}, Same H2 H' → H' a = none → a ≠ p := fun s h z => by rw [z] at h; rw [s _ _ hop] at h; cases h
    refine ⟨_, rfl, _, rfl, _, rfl, _, _, rfl, rfl, (by show 0 ≤ sizeLine; decide), fun a1 h1 => ⟨(by show 0 ≤ sizeLine; decide), fun a2 h2 => ?_⟩⟩
    have s1 := same_new h1 (.lst [])
    have f1 : (upd H2 a1 (.lst [])) a1 = some (.lst []) := upd_same
    generalize upd H2 a1 (.lst []) = G1 at s1 f1 h2 ⊢
    have s2 := same_new h2 (.tup [])
    have f2 : (upd G1 a2 (.tup [])) a2 = some (.tup []) := upd_same
    generalize upd G1 a2 (.tup []) = G2 at s2 f2 ⊢
    refine ⟨_, rfl, (by show 1 ≤ sizeLine; decide), fun a3 h3 => ?_⟩
    have s3 := same_new h3 (.tup [y])
    have f3 : (upd G2 a3 (.tup [y])) a3 = some (.tup [y]) := upd_same
    generalize upd G2 a3 (.tup [y]) = G3 at s3 f3 ⊢
    refine ⟨_, rfl, (by show 1 ≤ sizeLine; decide), fun a4 h4 => ?_⟩
    have s4 := same_new h4 (.lst [y])
    have f4 : (upd G3 a4 (.lst [y])) a4 = some (.lst [y]) := upd_same
    generalize upd G3 a4 (.lst [y]) = G4 at s4 f4 ⊢
    refine ⟨_, rfl, _, rfl, (by show 2 ≤ sizeLine; decide), fun a5 h5 => ?_⟩
    have s5 := same_new h5 (.tup [y, y])
    have f5 : (upd G4 a5 (.tup [y, y])) a5 = some (.tup [y, y]) := upd_same
    generalize upd G4 a5 (.tup [y, y]) = G5 at s5 f5 ⊢
    refine ⟨(by show 2 ≤ sizeLine; decide), fun a6 h6 => ?_⟩
    have s6 := same_new h6 (.tup [.int 0, .int 1])
    have f6 : (upd G5 a6 (.tup [.int 0, .int 1])) a6 = some (.tup [.int 0, .int 1]) := upd_same
    generalize upd G5 a6 (.tup [.int 0, .int 1]) = G6 at s6 f6 ⊢
    refine ⟨_, _, rfl, rfl, ⟨by decide, by decide, by decide⟩, (by show 15 ≤ sizeLine; decide), fun od hod => ?_⟩
    have s7 := same_new hod (.lst [.non, .bl true, .bl false, .int (-1), .int (m : Int), .int 0, .int ((m : Int) - 1), .str "0", .ref a1, .ref a2, .ref a3, .ref a4, .ref a5, .ref a6, .int (10 ^ Int.toNat 20)])
    have f7 : (upd G6 od (.lst [.non, .bl true, .bl false, .int (-1), .int (m : Int), .int 0, .int ((m : Int) - 1), .str "0", .ref a1, .ref a2, .ref a3, .ref a4, .ref a5, .ref a6, .int (10 ^ Int.toNat 20)])) od = some (.lst [.non, .bl true, .bl false, .int (-1), .int (m : Int), .int 0, .int ((m : Int) - 1), .str "0", .ref a1, .ref a2, .ref a3, .ref a4, .ref a5, .ref a6, .int (10 ^ Int.toNat 20)]) := upd_same
    generalize upd G6 od (.lst [.non, .bl true, .bl false, .int (-1), .int (m : Int), .int 0, .int ((m : Int) - 1), .str "0", .ref a1, .ref a2, .ref a3, .ref a4, .ref a5, .ref a6, .int (10 ^ Int.toNat 20)]) = G7 at s7 f7 ⊢
    have s67 := s7
    have s57 := s6.trans s67
    have s47 := s5.trans s57
    have s37 := s4.trans s47
    have s27 := s3.trans s37
    have s17 := s2.trans s27
    have s07 := s1.trans s17
    have k7 : ∀ b o, H b = some o → b ≠ p → G7 b = some o := fun b o hb nb => s07 _ _ (k2 b o hb nb)
    have sm7 : Same (off p H) (off p G7) := off_but k7
    have hy7 := hy.mono sm7
    have oddB : ∀ v ∈ ([.non, .bl true, .bl false, .int (-1), .int (m : Int), .int 0, .int ((m : Int) - 1), .str "0", .ref a1, .ref a2, .ref a3, .ref a4, .ref a5, .ref a6, .int (10 ^ Int.toNat 20)] : List V), ∃ e, DH (off p G7) v e ∧ Eb u e (D - ps.length) := fun v hv => by
      have tI : ∀ i : Int, i.natAbs < 10 ^ 21 → Eb u (.int i) (D - ps.length) := fun i hi => by
        obtain ⟨t1, t2, t3⟩ := th_int hi
        exact ⟨by omega, by omega, t3.mono (by omega)⟩
      have n1 := nw (Same.refl _) h1
      have n2 := nw s1 h2
      have n3 := nw (s1.trans s2) h3
      have n4 := nw ((s1.trans s2).trans s3) h4
      have n5 := nw (((s1.trans s2).trans s3).trans s4) h5
      have n6 := nw ((((s1.trans s2).trans s3).trans s4).trans s5) h6
      simp only [List.mem_cons, List.not_mem_nil, or_false] at hv
      rcases hv with rfl | rfl | rfl | rfl | rfl | rfl | rfl | rfl | rfl | rfl | rfl | rfl | rfl | rfl | rfl
      · exact ⟨.none, .non, by show 1 ≤ _; omega, by show 0 ≤ _; omega, Nat.zero_le _, rfl, rfl, rfl⟩
      · exact ⟨_, .bl true, by show 1 ≤ _; omega, by show 0 ≤ _; omega, Nat.zero_le _, rfl, rfl, rfl⟩
      · exact ⟨_, .bl false, by show 1 ≤ _; omega, by show 0 ≤ _; omega, Nat.zero_le _, rfl, rfl, rfl⟩
      · exact ⟨_, .int _, tI _ (by decide)⟩
      · exact ⟨_, .int _, tI _ (by omega)⟩
      · exact ⟨_, .int _, tI _ (by decide)⟩
      · exact ⟨_, .int _, tI _ (by omega)⟩
      · exact ⟨_, .str _, by show 1 ≤ _; omega, by show 1 ≤ _; omega, Nat.zero_le _, by decide +kernel, rfl, rfl⟩
      · exact ⟨.list [], .lst (off_at (s17 _ _ f1) n1) .nil, by show 0 ≤ _; omega, by show 0 ≤ _; omega, (gd_list (D := 0) fun d hd => by cases hd).mono (by omega)⟩
      · exact ⟨.tuple [], .tup (off_at (s27 _ _ f2) n2) .nil, by show 0 ≤ _; omega, by show 0 ≤ _; omega, (gd_tup (D := 0) fun d hd => by cases hd).mono (by omega)⟩
      · exact ⟨.tuple [u], .tup (off_at (s37 _ _ f3) n3) (.cons hy7 .nil), by show lfD u + 0 ≤ _; omega, by show u.weight + 1 + 0 ≤ _; omega, (gd_tup (D := D - ps.length) fun d hd => by rw [List.mem_singleton.mp hd]; exact g2).mono (by omega)⟩
      · exact ⟨.list [u], .lst (off_at (s47 _ _ f4) n4) (.cons hy7 .nil), by show lfD u + 0 ≤ _; omega, by show u.weight + 1 + 0 ≤ _; omega, (gd_list (D := D - ps.length) fun d hd => by rw [List.mem_singleton.mp hd]; exact g2).mono (by omega)⟩
      · exact ⟨.tuple [u, u], .tup (off_at (s57 _ _ f5) n5) (.cons hy7 (.cons hy7 .nil)), by show lfD u + (lfD u + 0) ≤ _; omega, by show u.weight + 1 + (u.weight + 1 + 0) ≤ _; omega, (gd_tup (D := D - ps.length) fun d hd => by
          simp only [List.mem_cons, List.not_mem_nil, or_false] at hd
          rcases hd with rfl | rfl <;> exact g2).mono (by omega)⟩
      · refine ⟨.tuple [.int 0, .int 1], .tup (off_at (s67 _ _ f6) n6) (.cons (.int 0) (.cons (.int 1) .nil)), by show 1 + (1 + 0) ≤ _; omega, ?_, (gd_tup (D := 0) fun d hd => ?_).mono (by omega)⟩
        · have : (PyData.tuple [.int 0, .int 1]).weight ≤ 10 := by decide
          omega
        · simp only [List.mem_cons, List.not_mem_nil, or_false] at hd
          rcases hd with rfl | rfl
          · exact (th_int (i := 0) (by decide)).gd
          · exact (th_int (i := 1) (by decide)).gd
      · exact ⟨_, .int _, tI _ (by decide)⟩
    have L7 := L2.same s07
    have hpl7 := s07 _ _ hpl2
    have mid : ∀ (z : V) (e : PyData), True := fun _ _ => trivial
    clear mid
    refine ⟨fun σ H3 => ∃ (z : V) (e : PyData) (c3 : Int) (v5 v7 : Option V), σ = [some (.ref p), some x, some (.int m), some (.ref pl), some y, v5, some z, v7] ∧ DH (off p H3) z e ∧ Eb u e (D - ps.length) ∧ H3 pl = some (.lst ((toN ps).map V.int)) ∧ Left H3 p c3 ∧ c ≤ c3 ∧ c3 ≤ c + 2 * D + 3 ∧ (∀ b o, H b = some o → b ≠ p → H3 b = some o), ?_, ?_⟩
    · refine ⟨_, rfl, _, rfl, p, c2, 15, rfl, L7, by omega, by decide, by decide, fun k H8 k0 k1 L8 B8 => ?_⟩
      have nod : od ≠ p := nw ((((((s1.trans s2).trans s3).trans s4).trans s5).trans s6)) hod
      obtain ⟨v, hv, hat⟩ := at_anyM (xs := [.non, .bl true, .bl false, .int (-1), .int (m : Int), .int 0, .int ((m : Int) - 1), .str "0", .ref a1, .ref a2, .ref a3, .ref a4, .ref a5, .ref a6, .int (10 ^ Int.toNat 20)]) k0 k1
      obtain ⟨e, he, heb⟩ := oddB v hv
      exact ⟨od, _, _, v, rfl, rfl, SqL.of (B8 _ _ f7 nod), hat, v, e, c2 + 1, _, _, rfl, he.mono (off_but B8), heb, B8 _ _ hpl7 npp.symm, L8, by omega, by omega, fun b o hb nb => B8 _ _ (k7 b o hb nb) nb⟩
    clear oddB f7 s67 s57 s47 s37 s27 s17 s07 k7 sm7 hy7 L7 hpl7 s7 hod f6 f5 f4 f3 f2 f1
    rintro σ H3 ⟨z, e, c3, v5, v7, rfl, hz, heb, hpl3, L3, b3, b4, k3⟩
    refine ⟨fun σ H4 => ∃ (z : V) (e : PyData) (c4 : Int) (v5 v7 : Option V), σ = [some (.ref p), some x, some (.int m), some (.ref pl), some y, v5, some z, v7] ∧ DH (off p H4) z e ∧ Eb u e (D - ps.length) ∧ H4 pl = some (.lst ((toN ps).map V.int)) ∧ Left H4 p c4 ∧ c ≤ c4 ∧ c4 ≤ c + 2 * D + 5 ∧ (∀ b o, H b = some o → b ≠ p → H4 b = some o), ?_, ?_⟩
    · have hy3 := hy.mono (off_but k3)
      have hyH := hy3.on
      refine ⟨_, rfl, _, "tuple", _, _, rfl, hyH.ty, hyH.kT K, _, rfl, ?_⟩
      cases hTu : isTupD u with
      | false => exact iteF ⟨z, e, c3, _, _, rfl, hz, heb, hpl3, L3, by omega, by omega, k3⟩
      | true =>
        obtain ⟨b, xs, ds, rfl, rfl, hb, hs⟩ := hy.tup_inv hTu
        have nbp : b ≠ p := fun z => by rw [z] at hb; unfold off at hb; rw [if_pos rfl] at hb; cases hb
        have hb3 := k3 _ _ (off_on _ _ hb) nbp
        have hxl := hs.length
        refine iteT ⟨_, rfl, b, _, rfl, .inr (SqT.of hb3), _, _, rfl, rfl, _, rfl, ite2 (fun hgt => ?_) (fun hle => ⟨z, e, c3, _, _, rfl, hz, heb, hpl3, L3, by omega, by omega, k3⟩)⟩
        have hgt := of_decide_eq_true hgt
        have h1l : 1 < xs.length := by omega
        refine ⟨_, rfl, p, c3, 3, rfl, L3, by omega, by decide, by decide, fun r H4 r0 r1 L4 B4 => ⟨_, _, rfl, rfl, _, rfl, ite2 (fun hgt2 => ?_) (fun hle => ⟨z, e, c3 + 1, _, _, rfl, hz.mono (off_but B4), heb, B4 _ _ hpl3 npp.symm, L4, by omega, by omega, fun b o hb nb => B4 _ _ (k3 b o hb nb) nb⟩)⟩⟩
        have k4 : ∀ b o, H b = some o → b ≠ p → H4 b = some o := fun b o hb nb => B4 _ _ (k3 b o hb nb) nb
        have hb4 := B4 _ _ hb3 nbp
        have hpl4 := B4 _ _ hpl3 npp.symm
        have dl : ds.length ≤ 20000 := by
          have h9 := wt_len ds
          have : (PyData.tuple ds).weight = PyData.weightAll ds := rfl
          omega
        obtain ⟨op4, hop4⟩ : ∃ o, H4 p = some o := L4.here
        have nw4 : ∀ {H' : Hp} {a : Addr}, Same H4 H' → H' a = none → a ≠ p := fun s h z => by rw [z] at h; rw [s _ _ hop4] at h; cases h
        obtain ⟨gp0, gp⟩ := g2.parts
        refine ⟨_, rfl, b, _, rfl, .inr (SqT.of hb4), fun a1 h1 => ?_⟩
        have s1 := same_new h1 (.lst xs)
        have f1 : (upd H4 a1 (.lst xs)) a1 = some (.lst xs) := upd_same
        generalize upd H4 a1 (.lst xs) = G1 at s1 f1 ⊢
        refine ⟨_, rfl, _, rfl, b, xs, rfl, SqT.of (s1 _ _ hb4), sl_not2 (d := 0) (by omega), fun a2 h2 => ?_⟩
        have s2 := same_new h2 (.tup (cutV xs (some 1) none))
        have f2 : (upd G1 a2 (.tup (cutV xs (some 1) none))) a2 = some (.tup (cutV xs (some 1) none)) := upd_same
        generalize upd G1 a2 (.tup (cutV xs (some 1) none)) = G2 at s2 f2 ⊢
        rw [cutV_tail] at f2
        have s02 := s1.trans s2
        refine ⟨_, rfl, _, rfl, (by show 1 ≤ sizeLine; decide), fun a3 h3 => ?_⟩
        have s3 := same_new h3 (.tup [.int (m : Int)])
        have f3 : (upd G2 a3 (.tup [.int (m : Int)])) a3 = some (.tup [.int (m : Int)]) := upd_same
        generalize upd G2 a3 (.tup [.int (m : Int)]) = G3 at s3 f3 ⊢
        have s03 := s02.trans s3
        refine catA_go (s03 _ _ hb4) f3 (by rw [List.length_singleton, sizeLine_eq]; omega) fun a4 G4 s4 f4 => ?_
        have s04 : Same H4 G4 := fun c o hc => s4 c o (s03 c o hc)
        refine ⟨_, rfl, _, rfl, _, rfl, _, rfl, b, xs, rfl, SqT.of (s04 _ _ hb4), rfl, rfl, rfl, fun a5 h5 => ?_⟩
        have s5 := same_new h5 (.tup xs.reverse)
        have f5 : (upd G4 a5 (.tup xs.reverse)) a5 = some (.tup xs.reverse) := upd_same
        generalize upd G4 a5 (.tup xs.reverse) = G5 at s5 f5 ⊢
        have s05 := s04.trans s5
        refine ⟨_, rfl, _, rfl, b, xs, rfl, SqT.of (s05 _ _ hb4), sl_not1 (d := 1) h1l, fun a6 h6 => ?_⟩
        have s6 := same_new h6 (.tup (cutV xs none (some 1)))
        have f6 : (upd G5 a6 (.tup (cutV xs none (some 1)))) a6 = some (.tup (cutV xs none (some 1))) := upd_same
        generalize upd G5 a6 (.tup (cutV xs none (some 1))) = G6 at s6 f6 ⊢
        rw [show (1 : Int) = ((1 : Nat) : Int) from rfl, cutV_to] at f6
        have s06 := s05.trans s6
        have hi0 : 0 < ds.length := by omega
        have hd0 : ds[0]? = some ds[0] := List.getElem?_eq_getElem hi0
        obtain ⟨x0, hx0, hxd0⟩ := DHs.getR hs hd0
        refine ⟨_, rfl, b, xs, 0, x0, rfl, rfl, SqT.of (s06 _ _ hb4), atI_nat (j := 0) hx0, _, rfl, _, rfl, b, xs, rfl, SqT.of (s06 _ _ hb4), sl_not2 (d := 0) (by omega), fun a7 h7 => ?_⟩
        have s7 := same_new h7 (.tup (cutV xs (some 1) none))
        have f7 : (upd G6 a7 (.tup (cutV xs (some 1) none))) a7 = some (.tup (cutV xs (some 1) none)) := upd_same
        generalize upd G6 a7 (.tup (cutV xs (some 1) none)) = G7 at s7 f7 ⊢
        rw [cutV_tail] at f7
        have s07 := s06.trans s7
        refine ⟨(by show 2 ≤ sizeLine; decide), fun a8 h8 => ?_⟩
        have s8 := same_new h8 (.tup [x0, .ref a7])
        have f8 : (upd G7 a8 (.tup [x0, .ref a7])) a8 = some (.tup [x0, .ref a7]) := upd_same
        generalize upd G7 a8 (.tup [x0, .ref a7]) = G8 at s8 f8 ⊢
        have s08 := s07.trans s8
        refine ⟨_, rfl, _, rfl, _, rfl, b, xs, rfl, SqT.of (s08 _ _ hb4), sl_not1 (d := 1) h1l, fun a9 h9 => ?_⟩
        have s9 := same_new h9 (.tup (cutV xs none (some 1)))
        have f9 : (upd G8 a9 (.tup (cutV xs none (some 1)))) a9 = some (.tup (cutV xs none (some 1))) := upd_same
        generalize upd G8 a9 (.tup (cutV xs none (some 1))) = G9 at s9 f9 ⊢
        rw [show (1 : Int) = ((1 : Nat) : Int) from rfl, cutV_to] at f9
        have s09 := s08.trans s9
        refine catA_go (s09 _ _ hb4) f9 (by rw [List.length_take, sizeLine_eq]; omega) fun aA GA sA fA => ?_
        have sA : Same G9 GA := fun c o hc => sA c o hc
        have s0A := s09.trans sA
        refine ⟨(by show 7 ≤ sizeLine; decide), fun so hso => ?_⟩
        have sB := same_new hso (.lst [.ref a1, .ref a2, .ref a4, .ref a5, .ref a6, .ref a8, .ref aA])
        have fB : (upd GA so (.lst [.ref a1, .ref a2, .ref a4, .ref a5, .ref a6, .ref a8, .ref aA])) so = some (.lst [.ref a1, .ref a2, .ref a4, .ref a5, .ref a6, .ref a8, .ref aA]) := upd_same
        have nso : so ≠ p := nw4 s0A hso
        generalize upd GA so (.lst [.ref a1, .ref a2, .ref a4, .ref a5, .ref a6, .ref a8, .ref aA]) = GB at sB fB ⊢
        have s0B := s0A.trans sB
        have sAB := sB
        have s9B := sA.trans sB
        have s8B := s9.trans s9B
        have s7B := s8.trans s8B
        have s6B := s7.trans s7B
        have s5B := s6.trans s6B
        have s4B := s5.trans s5B
        have s3B : Same G3 GB := fun c o hc => s4B _ _ (s4 c o hc)
        have s2B := s3.trans s3B
        have s1B := s2.trans s2B
        have tp : ∀ {G' : Hp} {a : Addr} {l : List V}, Same H4 G' → G' a = some (.tup l) → a ≠ p := fun s h z => by
          obtain ⟨_, _, hl, _⟩ := L4
          rw [z, s _ _ hl] at h; cases h
        have kB : ∀ b o, H b = some o → b ≠ p → GB b = some o := fun b o hb nb => s0B _ _ (k4 b o hb nb)
        have smB : Same (off p H) (off p GB) := off_but kB
        have hsB := hs.mono smB
        have hxB := hxd0.mono smB
        have wds : (PyData.tuple ds).weight = PyData.weightAll ds := rfl
        have lds : lfD (.tuple ds) = lfDs ds := rfl
        have wc := wt_cut ds 1
        have lc := lf_cut ds 1
        have etl : ds.drop 1 = ds.tail := List.drop_one
        have extl : xs.drop 1 = xs.tail := List.drop_one
        have w0 := wt_at hd0
        have l0 : lfD ds[0] ≤ lfDs ds := by
          have := congrArg lfDs (split_of hd0)
          rw [lfDs_app, lfDs_app] at this
          have e9 : lfDs [ds[0]] = lfD ds[0] + 0 := rfl
          omega
        have dd : D - ps.length - 1 + 1 = D - ps.length := by omega
        have someB : ∀ v ∈ ([.ref a1, .ref a2, .ref a4, .ref a5, .ref a6, .ref a8, .ref aA] : List V), ∃ e, DH (off p GB) v e ∧ Eb (.tuple ds) e (D - ps.length) := fun v hv => by
          simp only [List.mem_cons, List.not_mem_nil, or_false] at hv
          rcases hv with rfl | rfl | rfl | rfl | rfl | rfl | rfl
          · exact ⟨.list ds, .lst (off_at (s1B _ _ f1) (nw4 (Same.refl _) h1)) hsB, by show lfDs ds ≤ _; omega, by show PyData.weightAll ds ≤ _; omega, (gd_list gp).mono (by omega)⟩
          · refine ⟨.tuple (ds.drop 1), .tup (off_at (s2B _ _ f2) (tp s02 f2)) (by rw [← extl]; exact hsB.drop 1), by show lfDs (ds.drop 1) ≤ _; omega, by show PyData.weightAll (ds.drop 1) ≤ _; omega, (gd_tup fun d hd => gp d (List.mem_of_mem_drop hd)).mono (by omega)⟩
          · refine ⟨.tuple (ds ++ [.int m]), .tup (off_at (s4B _ _ f4) (tp s04 f4)) (hsB.app (.cons (.int _) .nil)), ?_, ?_, (gd_tup fun d hd => ?_).mono (by omega : D - ps.length - 1 + 1 ≤ _)⟩
            · show lfDs (ds ++ [.int m]) ≤ _
              rw [lfDs_app]
              have : lfDs [.int (m : Int)] = 1 := rfl
              omega
            · show PyData.weightAll (ds ++ [.int m]) ≤ _
              rw [wt_app]
              have t2 := (th_int (i := (m : Int)) (by omega)).wt
              have : PyData.weightAll [.int (m : Int)] = (PyData.int (m : Int)).weight + 1 + 0 := rfl
              omega
            · rcases List.mem_append.mp hd with hd | hd
              · exact gp d hd
              · rw [List.mem_singleton.mp hd]
                exact (th_int (i := (m : Int)) (by omega)).gd.mono (Nat.zero_le _)
          · exact ⟨.tuple ds.reverse, .tup (off_at (s5B _ _ f5) (tp s05 f5)) (DHs.rev hsB), by show lfDs ds.reverse ≤ _; rw [lf_rev]; omega, by show PyData.weightAll ds.reverse ≤ _; rw [wt_rev]; omega, (gd_tup fun d hd => gp d (List.mem_reverse.mp hd)).mono (by omega)⟩
          · refine ⟨.tuple (ds.take 1), .tup (off_at (s6B _ _ f6) (tp s06 f6)) (hsB.take 1), by show lfDs (ds.take 1) ≤ _; omega, by show PyData.weightAll (ds.take 1) ≤ _; omega, (gd_tup fun d hd => gp d (List.mem_of_mem_take hd)).mono (by omega)⟩
          · have h7' := off_at (s7B _ _ f7) (tp s07 f7)
            refine ⟨.tuple [ds[0], .tuple (ds.drop 1)], .tup (off_at (s8B _ _ f8) (tp s08 f8)) (.cons hxB (.cons (.tup h7' (by rw [← extl]; exact hsB.drop 1)) .nil)), ?_, ?_, (gd_tup (D := D - ps.length) fun d hd => ?_).mono (by omega)⟩
            · show lfD ds[0] + (lfDs (ds.drop 1) + 0) ≤ _
              omega
            · show (ds[0]).weight + 1 + (PyData.weightAll (ds.drop 1) + 1 + 0) ≤ _
              omega
            · simp only [List.mem_cons, List.not_mem_nil, or_false] at hd
              rcases hd with rfl | rfl
              · exact (gp _ (List.getElem_mem hi0)).mono (by omega)
              · exact (gd_tup fun d hd => gp d (List.mem_of_mem_drop hd)).mono (by omega)
          · refine ⟨.tuple (ds ++ ds.take 1), .tup (off_at (sAB _ _ fA) (tp s0A fA)) (hsB.app (hsB.take 1)), ?_, ?_, (gd_tup fun d hd => ?_).mono (by omega : D - ps.length - 1 + 1 ≤ _)⟩
            · show lfDs (ds ++ ds.take 1) ≤ _
              rw [lfDs_app]; omega
            · show PyData.weightAll (ds ++ ds.take 1) ≤ _
              rw [wt_app]; omega
            · rcases List.mem_append.mp hd with hd | hd
              · exact gp d hd
              · exact gp d (List.mem_of_mem_take hd)
        have LB := L4.same s0B
        refine ⟨_, rfl, _, rfl, p, c3 + 1, 7, rfl, LB, by omega, by decide, by decide, fun k H8 k0 k1 L8 B8 => ?_⟩
        obtain ⟨v, hv, hat⟩ := at_anyM (xs := [.ref a1, .ref a2, .ref a4, .ref a5, .ref a6, .ref a8, .ref aA]) k0 k1
        obtain ⟨e2, he2, heb2⟩ := someB v hv
        exact ⟨so, _, _, v, rfl, rfl, SqL.of (B8 _ _ fB nso), hat, v, e2, c3 + 1 + 1, _, _, rfl, he2.mono (off_but B8), heb2, B8 _ _ (s0B _ _ hpl4) npp.symm, L8, by omega, by omega, fun b o hb nb => B8 _ _ (kB b o hb nb) nb⟩
    · rintro σ H4 ⟨z, e, c4, v5, v7, rfl, hz, heb, hpl4, L4, b5, b6, k4⟩
      obtain ⟨la, lb, hlp, _⟩ := id L4
      obtain ⟨w1, w2, w3, _, _⟩ := put_bd (e := e) ps hok hth.gd heb.gd
      rw [hu] at w1 w2
      have t1 := hth.lf
      have t2 := hth.wt
      have t3 := heb.lf
      have t4 := heb.wt
      refine ⟨_, rfl, _, rfl, _, rfl, p, _, x, z, pl, ps, d, e, rfl, hlp, hd.mono (off_but k4), hpl4, hz, hok, by omega, by omega, by omega, by omega, fun z' H5 hz' s5 => ?_⟩
      refine q z' _ c4 H5 hz' ⟨?_, ?_, w3.mono ?_⟩ (L4.same s5) (by omega) (by omega) fun b o hb nb => s5 _ _ (k4 b o hb nb)
      · omega
      · omega
      · omega
def lB : Nat → Nat
  | 0 => 1
  | t + 1 => if t % 2 = 1 then 2 * lB t else lB t
def wB : Nat → Nat
  | 0 => 72
  | t + 1 => if t % 2 = 1 then 2 * wB t + 2 else wB t + 1
theorem lwB : ∀ t : Nat, t ≤ 8 → lB t ≤ 16 ∧ wB t ≤ 3000 := by decide +kernel
theorem slA_go {K : PySem.W.Frag} {H : Hp} {a : Addr} {xs : List V} {lo hi : Option Int} {Q : VK} (h : H a = some (.tup xs)) (q : ∀ (r : Addr) (H' : Hp), Same H H' → H' r = some (.tup (cutV xs lo hi)) → Q (.ref r) H') : rSlA K (.ref a) lo hi H Q :=
  ⟨a, xs, rfl, SqT.of h, fun e => q a H (Same.refl _) (by rw [e]; exact h), fun p hp => q p _ (same_new hp _) upd_same⟩
def spDeep : Sp := fun vs H Q _ => ∃ (p : Addr) (c : Int), vs = [.ref p, .int 0] ∧ Left H p c ∧ c < 2 ^ 40 ∧
  ∀ (z : V) (d : PyData) (c' : Int) (H' : Hp), DH (off p H') z d → Th 16 3000 8 d → Left H' p c' → c ≤ c' → c' ≤ c + 20 → But p H H' → Q z H'
theorem ok_deep (T : Tops K mg) (f_l_pick : Df P w K mg base 2 "_law_pick" ["_law_left_here", "_law_many_here"] spPick) : Df P w K mg base 3 "_law_deep" ["_law_left_here", "_law_tree"] spDeep := by
  refine T.t_l_deep.df sc_l_deep (fun vs H Q E h => ?_) (fun cdv f A outer s H vs Q E hr h => ?_)
  · obtain ⟨p, c, rfl, _⟩ := h
    rfl
  obtain ⟨p, c, rfl, hL, c40, q⟩ := h
  refine ⟨_, (@pss_cons _ _ _ _ _ (@ps_for _ _ _ _ _ _ _ _ PassesOwn.never rfl (@pi_range1 _ _ _ _ _ _ rfl T.b.n_range (@pa_cons _ _ _ _ _ (@pe_df _ _ _ _ _ _ _ _ _ _ _ f_l_pick hr (@pa_cons _ _ _ _ _ (@pv _ 0 _ _ (by rfl) (Or.inl rfl) (by decide) (by decide)) (@pa_cons _ _ _ _ _ (@pe_int _ _ _ _) (@pa_nil _) (by rfl)) (by rfl)) (by first | decide | exact Nat.le_refl _ | omega) (by rfl) (by decide) (by rfl) (by rfl)) (@pa_nil _) (by rfl)) (by rfl)) (@pg_name _ _ 2 _ sc_l_deep.nd rfl (Or.inl rfl) (by first | exact .inl rfl | exact .inr rfl)) (@pss_one _ _ _ (@ps_set _ _ 1 _ _ _ _ sc_l_deep.nd rfl (Or.inl rfl) (@pe_ix _ _ _ _ _ _ _ (ixL K) (@pe_lst _ _ _ _ (@pa_cons _ _ _ _ _ (@pe_tup _ _ _ _ _ (@pa_cons _ _ _ _ _ (@pv _ 1 _ _ (by rfl) (Or.inl rfl) (by decide) (by decide)) (@pa_nil _) (by rfl))) (@pa_cons _ _ _ _ _ (@pe_lst _ _ _ _ (@pa_cons _ _ _ _ _ (@pv _ 1 _ _ (by rfl) (Or.inl rfl) (by decide) (by decide)) (@pa_nil _) (by rfl))) (@pa_cons _ _ _ _ _ (@pe_slice _ _ _ _ _ _ _ _ _ _ (@slA _ K (by rfl)) (@pe_tup _ _ _ _ _ (@pa_cons _ _ _ _ _ (@pv _ 1 _ _ (by rfl) (Or.inl rfl) (by decide) (by decide)) (@pa_cons _ _ _ _ _ (@pv _ 1 _ _ (by rfl) (Or.inl rfl) (by decide) (by decide)) (@pa_nil _) (by rfl)) (by rfl))) (@po_none _) (@po_some _ _ _ (@pe_op _ _ _ _ _ _ _ _ op_add (@pe_int _ _ _ _) (@pe_op _ _ _ _ _ _ _ _ op_mod (@pv _ 2 _ _ (by rfl) (Or.inl rfl) (by decide) (by decide)) (@pe_int _ _ _ _))))) (@pa_nil _) (by rfl)) (by rfl)) (by rfl))) (@pe_df _ _ _ _ _ _ _ _ _ _ _ f_l_pick hr (@pa_cons _ _ _ _ _ (@pv _ 0 _ _ (by rfl) (Or.inl rfl) (by decide) (by decide)) (@pa_cons _ _ _ _ _ (@pe_int _ _ _ _) (@pa_nil _) (by rfl)) (by rfl)) (by first | decide | exact Nat.le_refl _ | omega) (by rfl) (by decide) (by rfl) (by rfl)) (fun _ _ => rfl)) (by rfl) (by first | exact .inl rfl | exact .inr rfl))) (by intro _; rfl)) (@pss_one _ _ _ (@ps_ret _ _ _ _ (@pv _ 1 _ _ (by rfl) (Or.inl rfl) (by decide) (by decide))))), ?_⟩
  have c0 := hL.ge
  refine ⟨_, rfl, p, c, 9, rfl, hL, by omega, by decide, by decide, fun r H1 r0 r1 L1 B1 => ⟨_, rfl, by omega, by omega, ?_⟩⟩
  refine for_range (fun i σ H2 => ∃ (y : V) (d : PyData) (v : Option V) (c2 : Int), σ = [some (.ref p), some y, v] ∧ DH (off p H2) y d ∧ Th (lB i) (wB i) i d ∧ Left H2 p c2 ∧ c ≤ c2 ∧ c2 ≤ c + 1 + i ∧ But p H H2)
    ⟨.int 0, .int 0, none, c + 1, rfl, .int 0, th_int (by decide), L1, by omega, by omega, B1⟩ ?_ ?_
  · rintro i σ H2 hi ⟨y, d, v, c2, rfl, hy, hth, L2, b1, b2, B2⟩
    obtain ⟨op, hop⟩ : ∃ o, H2 p = some o := L2.here
    have nw : ∀ {H' : Hp} {a : Addr}, Same H2 H' → H' a = none → a ≠ p := fun s h z => by rw [z] at h; rw [s _ _ hop] at h; cases h
    refine ⟨_, rfl, (by show 1 ≤ sizeLine; decide), fun a1 h1 => ?_⟩
    have s1 := same_new h1 (.tup [y])
    have f1 : (upd H2 a1 (.tup [y])) a1 = some (.tup [y]) := upd_same
    have n1 := nw (Same.refl _) h1
    generalize upd H2 a1 (.tup [y]) = G1 at s1 f1 ⊢
    refine ⟨_, rfl, (by show 1 ≤ sizeLine; decide), fun a2 h2 => ?_⟩
    have s2 := same_new h2 (.lst [y])
    have f2 : (upd G1 a2 (.lst [y])) a2 = some (.lst [y]) := upd_same
    have n2 := nw s1 h2
    generalize upd G1 a2 (.lst [y]) = G2 at s2 f2 ⊢
    have s02 := s1.trans s2
    refine ⟨_, rfl, _, rfl, (by show 2 ≤ sizeLine; decide), fun a3 h3 => ?_⟩
    have s3 := same_new h3 (.tup [y, y])
    have f3 : (upd G2 a3 (.tup [y, y])) a3 = some (.tup [y, y]) := upd_same
    have n3 := nw s02 h3
    generalize upd G2 a3 (.tup [y, y]) = G3 at s3 f3 ⊢
    have s03 := s02.trans s3
    have hcut : ∀ l, l = cutV [y, y] none (some (1 + (0 + (i : Int)) % 2)) → l = [y] ∨ l = [y, y] ∧ i % 2 = 1 := fun l hl => by
      by_cases e : i % 2 = 1
      · have e2 : 1 + (0 + (i : Int)) % 2 = ((2 : Nat) : Int) := by omega
        rw [e2, cutV_to] at hl
        exact .inr ⟨hl, e⟩
      · have e2 : 1 + (0 + (i : Int)) % 2 = ((1 : Nat) : Int) := by omega
        rw [e2, cutV_to] at hl
        exact .inl hl
    have gl := hth.gd
    have tl := hth.lf
    have tw := hth.wt
    have lb1 : lB i ≤ lB (i + 1) := by show _ ≤ (if i % 2 = 1 then 2 * lB i else lB i); split <;> omega
    have wb1 : wB i + 1 ≤ wB (i + 1) := by show _ ≤ (if i % 2 = 1 then 2 * wB i + 2 else wB i + 1); split <;> omega
    have th1 : Th (lB (i + 1)) (wB (i + 1)) (i + 1) (.tuple [d]) := ⟨by show lfD d + 0 ≤ _; omega, by show d.weight + 1 + 0 ≤ _; omega, gd_tup fun d' hd => by rw [List.mem_singleton.mp hd]; exact gl⟩
    have th2 : Th (lB (i + 1)) (wB (i + 1)) (i + 1) (.list [d]) := ⟨by show lfD d + 0 ≤ _; omega, by show d.weight + 1 + 0 ≤ _; omega, gd_list fun d' hd => by rw [List.mem_singleton.mp hd]; exact gl⟩
    have th3 : i % 2 = 1 → Th (lB (i + 1)) (wB (i + 1)) (i + 1) (.tuple [d, d]) := fun e => by
      have e1 : lB (i + 1) = 2 * lB i := by show (if i % 2 = 1 then 2 * lB i else lB i) = _; rw [if_pos e]
      have e2 : wB (i + 1) = 2 * wB i + 2 := by show (if i % 2 = 1 then 2 * wB i + 2 else wB i + 1) = _; rw [if_pos e]
      refine ⟨by show lfD d + (lfD d + 0) ≤ _; omega, by show d.weight + 1 + (d.weight + 1 + 0) ≤ _; omega, gd_tup fun d' hd => ?_⟩
      simp only [List.mem_cons, List.not_mem_nil, or_false] at hd
      rcases hd with rfl | rfl <;> exact gl
    have tp : ∀ {G' : Hp} {a : Addr} {l : List V}, Same H2 G' → G' a = some (.tup l) → a ≠ p := fun s h z => by
      obtain ⟨_, _, hl, _⟩ := L2
      rw [z, s _ _ hl] at h; cases h
    refine ⟨_, rfl, _, _, rfl, rfl, (show (0 : Int) < 2 by decide), _, _, rfl, rfl, _, rfl, ?_⟩
    refine slA_go f3 fun a4 G4 s4 f4 => ?_
    have s04 := s03.trans s4
    refine ⟨(by show 3 ≤ sizeLine; decide), fun so hso => ?_⟩
    have s5 := same_new hso (.lst [.ref a1, .ref a2, .ref a4])
    have f5 : (upd G4 so (.lst [.ref a1, .ref a2, .ref a4])) so = some (.lst [.ref a1, .ref a2, .ref a4]) := upd_same
    have nso := nw s04 hso
    generalize upd G4 so (.lst [.ref a1, .ref a2, .ref a4]) = G5 at s5 f5 ⊢
    have s05 := s04.trans s5
    have hy5 := hy.mono (off_same s05)
    have all : ∀ v ∈ ([.ref a1, .ref a2, .ref a4] : List V), ∃ e, DH (off p G5) v e ∧ Th (lB (i + 1)) (wB (i + 1)) (i + 1) e := fun v hv => by
      simp only [List.mem_cons, List.not_mem_nil, or_false] at hv
      rcases hv with rfl | rfl | rfl
      · exact ⟨_, .tup (off_at (s5 _ _ (s4 _ _ (s3 _ _ (s2 _ _ f1)))) n1) (.cons hy5 .nil), th1⟩
      · exact ⟨_, .lst (off_at (s5 _ _ (s4 _ _ (s3 _ _ f2))) n2) (.cons hy5 .nil), th2⟩
      · rcases hcut _ rfl with e | ⟨e, e1⟩
        · rw [e] at f4
          exact ⟨_, .tup (off_at (s5 _ _ f4) (tp s04 f4)) (.cons hy5 .nil), th1⟩
        · rw [e] at f4
          exact ⟨_, .tup (off_at (s5 _ _ f4) (tp s04 f4)) (.cons hy5 (.cons hy5 .nil)), th3 e1⟩
    refine ⟨_, rfl, p, c2, 3, rfl, L2.same s05, by omega, by decide, by decide, fun k H8 k0 k1 L8 B8 => ?_⟩
    obtain ⟨v', hv, hat⟩ := at_anyM (xs := [.ref a1, .ref a2, .ref a4]) k0 k1
    obtain ⟨e, he, hte⟩ := all v' hv
    exact ⟨so, _, _, v', rfl, rfl, SqL.of (B8 _ _ f5 nso), hat, v', e, _, c2 + 1, rfl, he.mono (off_but B8), hte, L8, by omega, by omega, B2.trans (fun b o hb nb => B8 _ _ (s05 _ _ hb) nb)⟩
  · rintro σ H2 ⟨y, d, v, c2, rfl, hy, hth, L2, b1, b2, B2⟩
    obtain ⟨l1, l2⟩ := lwB r.toNat (by omega)
    exact ⟨_, rfl, q y d c2 H2 hy (hth.mono l1 l2 (by omega)) L2 (by omega) (by omega) B2⟩
mutual
theorem TV.dhO {p : Addr} {H : Hp} {c : Int} (L : Left H p c) : ∀ {x : V} {t : PT}, TV H x t → DH (off p H) x (toD t)
  | _, _, .leaf k => .int k
  | _, _, .node h hs => .tup (off_at h (fun z => by
      obtain ⟨_, _, hl, _⟩ := L
      rw [z, hl] at h; cases h)) (TVs.dhO L hs)
theorem TVs.dhO {p : Addr} {H : Hp} {c : Int} (L : Left H p c) : ∀ {xs : List V} {l : List PT}, TVs H xs l → DHs (off p H) xs (toDs l)
  | _, _, .nil => .nil
  | _, _, .cons h hs => .cons (TV.dhO L h) (TVs.dhO L hs)
end
theorem tree_th {n m : Nat} {t : PT} (hn : n ≤ 1000) (hok : tOk n t) (hg : tGd t) (hl : tLf t = m) (hm : m ≤ 13) : Th m 1100 13 (toD t) ∧ lfD (toD t) = m := by
  obtain ⟨a, b⟩ := tree_gd hn hok
  obtain ⟨g1, g2⟩ := hg
  have e := lf_tree t
  exact ⟨⟨by omega, by omega, a.mono (by omega)⟩, by omega⟩
def Tg (p : Addr) (G : Hp) (v : V) : Prop := ∃ d, DH (off p G) v d ∧ Th 60 8000 20 d
theorem Tg.but {p : Addr} {G G' : Hp} {v : V} (h : Tg p G v) (B : But p G G') : Tg p G' v := by
  obtain ⟨d, a, b⟩ := h
  exact ⟨d, a.mono (off_but B), b⟩
theorem but_same {p : Addr} {G G' : Hp} (s : Same G G') : But p G G' := fun b o h _ => s b o h
theorem tg_ups {n : Nat} (hn : n ≤ 13) : lfDs ((upsI 0 n).map PyData.int) ≤ 13 ∧ PyData.weightAll ((upsI 0 n).map PyData.int) ≤ 1100 ∧ ∀ d ∈ (upsI 0 n).map PyData.int, Gd 0 d := by
  have h1 : ∀ l : List Int, (∀ i ∈ l, i.natAbs < 10 ^ 21) → lfDs (l.map PyData.int) ≤ l.length ∧ PyData.weightAll (l.map PyData.int) ≤ 73 * l.length ∧ ∀ d ∈ l.map PyData.int, Gd 0 d := by
    intro l
    induction l with
    | nil => intro _; exact ⟨Nat.le_refl _, Nat.le_refl _, fun d hd => by cases hd⟩
    | cons i r ih =>
      intro h
      obtain ⟨a, b, c⟩ := ih fun x hx => h x (List.mem_cons_of_mem _ hx)
      obtain ⟨t1, t2, t3⟩ := th_int (h i (List.mem_cons_self ..))
      refine ⟨?_, ?_, fun d hd => ?_⟩
      · show 1 + lfDs (r.map PyData.int) ≤ r.length + 1
        omega
      · show (PyData.int i).weight + 1 + PyData.weightAll (r.map PyData.int) ≤ 73 * (r.length + 1)
        omega
      · rcases List.mem_cons.mp hd with rfl | hd
        · exact t3
        · exact c d hd
  obtain ⟨a, b, c⟩ := h1 (upsI 0 n) fun i hi => by
    unfold upsI at hi
    obtain ⟨k, hk, rfl⟩ := List.mem_map.mp hi
    have := List.mem_range.mp hk
    omega
  rw [upsI_len] at a b
  exact ⟨by omega, by omega, c⟩
theorem ups_in {n k : Nat} (h : n ≤ k) : ∀ v ∈ upsI 0 n, 0 ≤ v ∧ v < (k : Int) := fun v hv => by
  unfold upsI at hv
  obtain ⟨i, hi, rfl⟩ := List.mem_map.mp hv
  have := List.mem_range.mp hi
  omega
mutual
theorem DH.out {H : Hp} {t : Addr} {zs : List V} (ht : H t = some (.lst zs)) : ∀ {x : V} {d : PyData}, DH H x d → DH (off t H) x d ∨ ∃ ds, DHs H zs ds ∧ lfDs ds ≤ lfD d
  | _, _, .non => .inl .non
  | _, _, .bl b => .inl (.bl b)
  | _, _, .int i => .inl (.int i)
  | _, _, .str z => .inl (.str z)
  | _, _, .lst (a := a) (ds := ds) h hs => by
    by_cases e : a = t
    · rw [e, ht] at h
      injection h with h
      injection h with h
      subst h
      exact .inr ⟨ds, hs, Nat.le_refl _⟩
    · rcases DHs.out ht hs with o | o
      · exact .inl (.lst (off_at h e) o)
      · exact .inr o
  | _, _, .tup (a := a) h hs => by
    have e : a ≠ t := fun e => by rw [e, ht] at h; cases h
    rcases DHs.out ht hs with o | o
    · exact .inl (.tup (off_at h e) o)
    · exact .inr o
theorem DHs.out {H : Hp} {t : Addr} {zs : List V} (ht : H t = some (.lst zs)) : ∀ {xs : List V} {ds : List PyData}, DHs H xs ds → DHs (off t H) xs ds ∨ ∃ es, DHs H zs es ∧ lfDs es ≤ lfDs ds
  | _, _, .nil => .inl .nil
  | _, _, .cons (d := d) (ds := ds) h hs => by
    rcases DH.out ht h with o | ⟨es, o1, o2⟩
    · rcases DHs.out ht hs with o' | ⟨es, o1, o2⟩
      · exact .inl (.cons o o')
      · exact .inr ⟨es, o1, by show _ ≤ lfD d + lfDs ds; omega⟩
    · exact .inr ⟨es, o1, by show _ ≤ lfD d + lfDs ds; omega⟩
end
mutual
theorem DH.fn {H : Hp} : ∀ {x : V} {d d' : PyData}, DH H x d → DH H x d' → d = d'
  | _, _, _, .non, .non => rfl
  | _, _, _, .bl b, .bl _ => rfl
  | _, _, _, .int i, .int _ => rfl
  | _, _, _, .str z, .str _ => rfl
  | _, _, _, .lst h hs, .lst h' hs' => by
    rw [h] at h'
    injection h' with h'
    injection h' with h'
    subst h'
    rw [DHs.fn hs hs']
  | _, _, _, .tup h hs, .tup h' hs' => by
    rw [h] at h'
    injection h' with h'
    injection h' with h'
    subst h'
    rw [DHs.fn hs hs']
  | _, _, _, .lst h _, .tup h' _ => by rw [h] at h'; cases h'
  | _, _, _, .tup h _, .lst h' _ => by rw [h] at h'; cases h'
theorem DHs.fn {H : Hp} : ∀ {x : List V} {d d' : List PyData}, DHs H x d → DHs H x d' → d = d'
  | _, _, _, .nil, .nil => rfl
  | _, _, _, .cons h hs, .cons h' hs' => by rw [DH.fn h h', DHs.fn hs hs']
end
theorem out_of {H : Hp} {t : Addr} {x1 x2 x3 x4 z : V} {zs : List V} {e1 e2 e3 e4 d : PyData} {m : Nat} (ht : H t = some (.lst (x1 :: x2 :: x3 :: x4 :: zs))) (h1 : DH H x1 e1) (h2 : DH H x2 e2) (h3 : DH H x3 e3) (h4 : DH H x4 e4) (hm : 1 ≤ m)
    (l1 : lfD e1 = m) (l2 : lfD e2 = m) (l3 : lfD e3 = m) (l4 : lfD e4 = m + 1) (hz : DH H z d) (hl : lfD d ≤ 2 * m + 2) : DH (off t H) z d := by
  rcases DH.out ht hz with o | ⟨ds, o1, o2⟩
  · exact o
  · exfalso
    cases o1 with
    | cons a1 o1 =>
      cases o1 with
      | cons a2 o1 =>
        cases o1 with
        | cons a3 o1 =>
          cases o1 with
          | cons a4 o1 =>
            rw [← DH.fn h1 a1, ← DH.fn h2 a2, ← DH.fn h3 a3, ← DH.fn h4 a4] at o2
            have : lfD e1 + (lfD e2 + (lfD e3 + (lfD e4 + lfDs _))) ≤ lfD d := o2
            omega
theorem off_new {p t : Addr} {G : Hp} {o : HO} (h : G t = none) : Same (off p G) (off t (off p (upd G t o))) := fun b o hb => by
  have hg := off_on _ _ hb
  have nb : b ≠ t := ne_of_none hg h
  refine off_at ?_ nb
  unfold off at hb ⊢
  split at hb
  · cases hb
  · rw [if_neg (by assumption), upd_ne nb]; exact hb
theorem off_put {p t : Addr} {G : Hp} {o : HO} : Same (off t (off p G)) (off t (off p (upd G t o))) := fun b o hb => by
  have hg := off_on _ _ hb
  have nb : b ≠ t := fun z => by rw [z] at hb; unfold off at hb; rw [if_pos rfl] at hb; cases hb
  refine off_at ?_ nb
  unfold off at hg ⊢
  split at hg
  · cases hg
  · rw [if_neg (by assumption), upd_ne nb]; exact hg
def Tg2 (p t : Addr) (G : Hp) (v : V) : Prop := ∃ d, DH (off t (off p G)) v d ∧ Th 60 8000 20 d
def spThings : Sp := fun vs H Q _ => ∃ (p sa : Addr) (c wy : Int) (ns : List Int), vs = [.ref p, .ref sa, .int wy] ∧ Left H p c ∧ c < 2 ^ 39 ∧ H sa = some (.lst (ns.map V.int)) ∧ sa ≠ p ∧ 1 ≤ ns.length ∧ ns.length ≤ 12 ∧ 2 ≤ wy ∧ wy ≤ 6 ∧
  ∀ (r : Addr) (xs : List V) (c' : Int) (H' : Hp), H' r = some (.lst xs) → r ≠ p → (∀ v ∈ xs, Tg p H' v) → xs.length ≤ 20 → Left H' p c' → c ≤ c' → c' ≤ c + 2000 → But p H H' → Q (.ref r) H'
theorem ok_things (T : Tops K mg) (f_l_mixed : Df P w K mg base 3 "_law_mixed" ["_law_left_here", "_law_many_here"] spMixed) (f_l_joined : Df P w K mg base 3 "_law_joined" ["_law_left_here", "_law_items", "_law_ways_here"] spJoined) (f_l_deep : Df P w K mg base 3 "_law_deep" ["_law_left_here", "_law_tree"] spDeep) (f_l_spoilt : Df P w K mg base 62 "_law_spoilt" ["_law_left_here", "_law_tree", "_law_many_here"] spSpoilt) : Df P w K mg base 63 "_law_things" ["_law_left_here", "_law_sizes_here", "_law_ways_here"] spThings := by
  refine T.t_l_things.df sc_l_things (fun vs H Q E h => ?_) (fun cdv f A outer s H vs Q E hr h => ?_)
  · obtain ⟨p, sa, c, wy, ns, rfl, _⟩ := h
    rfl
  obtain ⟨p, sa, c, wy, ns, rfl, hL, c39, hS, nsp, n1, n12, w2, w6, q⟩ := h
  refine ⟨_, (@pss_cons _ _ _ _ _ (@ps_set _ _ 3 _ _ _ _ sc_l_things.nd rfl (Or.inl rfl) (@pe_callB _ _ _ _ _ _ _ _ _ (lenQ K) (by rfl) T.b.n_len PySem.boot_len (@pa_cons _ _ _ _ _ (@pv _ 1 _ _ (by rfl) (Or.inl rfl) (by decide) (by decide)) (@pa_nil _) (by rfl)) (by decide) (by decide) (by rfl) (by rfl)) (by rfl) (by first | exact .inl rfl | exact .inr rfl)) (@pss_cons _ _ _ _ _ (@ps_set _ _ 4 _ _ _ _ sc_l_things.nd rfl (Or.inl rfl) (@pe_df _ _ _ _ _ _ _ _ _ _ _ f_l_joined hr (@pa_cons _ _ _ _ _ (@pv _ 0 _ _ (by rfl) (Or.inl rfl) (by decide) (by decide)) (@pa_cons _ _ _ _ _ (@pe_df _ _ _ _ _ _ _ _ _ _ _ f_l_mixed hr (@pa_cons _ _ _ _ _ (@pv _ 0 _ _ (by rfl) (Or.inl rfl) (by decide) (by decide)) (@pa_cons _ _ _ _ _ (@pv _ 3 _ _ (by rfl) (Or.inl rfl) (by decide) (by decide)) (@pa_nil _) (by rfl)) (by rfl)) (by first | decide | exact Nat.le_refl _ | omega) (by rfl) (by decide) (by rfl) (by rfl)) (@pa_cons _ _ _ _ _ (@pv _ 2 _ _ (by rfl) (Or.inl rfl) (by decide) (by decide)) (@pa_nil _) (by rfl)) (by rfl)) (by rfl)) (by first | decide | exact Nat.le_refl _ | omega) (by rfl) (by decide) (by rfl) (by rfl)) (by rfl) (by first | exact .inl rfl | exact .inr rfl)) (@pss_cons _ _ _ _ _ (@ps_set _ _ 5 _ _ _ _ sc_l_things.nd rfl (Or.inl rfl) (@pe_df _ _ _ _ _ _ _ _ _ _ _ f_l_joined hr (@pa_cons _ _ _ _ _ (@pv _ 0 _ _ (by rfl) (Or.inl rfl) (by decide) (by decide)) (@pa_cons _ _ _ _ _ (@pe_df _ _ _ _ _ _ _ _ _ _ _ f_l_mixed hr (@pa_cons _ _ _ _ _ (@pv _ 0 _ _ (by rfl) (Or.inl rfl) (by decide) (by decide)) (@pa_cons _ _ _ _ _ (@pv _ 3 _ _ (by rfl) (Or.inl rfl) (by decide) (by decide)) (@pa_nil _) (by rfl)) (by rfl)) (by first | decide | exact Nat.le_refl _ | omega) (by rfl) (by decide) (by rfl) (by rfl)) (@pa_cons _ _ _ _ _ (@pe_op _ _ _ _ _ _ _ _ op_add (@pv _ 2 _ _ (by rfl) (Or.inl rfl) (by decide) (by decide)) (@pe_int _ _ _ _)) (@pa_nil _) (by rfl)) (by rfl)) (by rfl)) (by first | decide | exact Nat.le_refl _ | omega) (by rfl) (by decide) (by rfl) (by rfl)) (by rfl) (by first | exact .inl rfl | exact .inr rfl)) (@pss_cons _ _ _ _ _ (@ps_set _ _ 6 _ _ _ _ sc_l_things.nd rfl (Or.inl rfl) (@pe_lst _ _ _ _ (@pa_cons _ _ _ _ _ (@pv _ 4 _ _ (by rfl) (Or.inl rfl) (by decide) (by decide)) (@pa_cons _ _ _ _ _ (@pv _ 5 _ _ (by rfl) (Or.inl rfl) (by decide) (by decide)) (@pa_cons _ _ _ _ _ (@pe_df _ _ _ _ _ _ _ _ _ _ _ f_l_joined hr (@pa_cons _ _ _ _ _ (@pv _ 0 _ _ (by rfl) (Or.inl rfl) (by decide) (by decide)) (@pa_cons _ _ _ _ _ (@pe_callTy _ _ _ _ _ _ _ _ _ listR (by rfl) T.b.n_list boot_list (@pa_cons _ _ _ _ _ (@pe_callTy _ _ _ _ _ _ _ _ _ rng1 (by rfl) T.b.n_range boot_range (@pa_cons _ _ _ _ _ (@pv _ 3 _ _ (by rfl) (Or.inl rfl) (by decide) (by decide)) (@pa_nil _) (by rfl)) (by decide) (by decide) (by rfl) (by rfl)) (@pa_nil _) (by rfl)) (by decide) (by decide) (by rfl) (by rfl)) (@pa_cons _ _ _ _ _ (@pv _ 2 _ _ (by rfl) (Or.inl rfl) (by decide) (by decide)) (@pa_nil _) (by rfl)) (by rfl)) (by rfl)) (by first | decide | exact Nat.le_refl _ | omega) (by rfl) (by decide) (by rfl) (by rfl)) (@pa_nil _) (by rfl)) (by rfl)) (by rfl))) (by rfl) (by first | exact .inl rfl | exact .inr rfl)) (@pss_cons _ _ _ _ _ (@ps_set _ _ 6 _ _ _ _ sc_l_things.nd rfl (Or.inl rfl) (@pe_op _ _ _ _ _ _ _ _ op_cat (@pv _ 6 _ _ (by rfl) (Or.inl rfl) (by decide) (by decide)) (@pe_lst _ _ _ _ (@pa_cons _ _ _ _ _ (@pe_df _ _ _ _ _ _ _ _ _ _ _ f_l_joined hr (@pa_cons _ _ _ _ _ (@pv _ 0 _ _ (by rfl) (Or.inl rfl) (by decide) (by decide)) (@pa_cons _ _ _ _ _ (@pe_callTy _ _ _ _ _ _ _ _ _ listR (by rfl) T.b.n_list boot_list (@pa_cons _ _ _ _ _ (@pe_callTy _ _ _ _ _ _ _ _ _ rng1 (by rfl) T.b.n_range boot_range (@pa_cons _ _ _ _ _ (@pe_op _ _ _ _ _ _ _ _ op_add (@pv _ 3 _ _ (by rfl) (Or.inl rfl) (by decide) (by decide)) (@pe_int _ _ _ _)) (@pa_nil _) (by rfl)) (by decide) (by decide) (by rfl) (by rfl)) (@pa_nil _) (by rfl)) (by decide) (by decide) (by rfl) (by rfl)) (@pa_cons _ _ _ _ _ (@pv _ 2 _ _ (by rfl) (Or.inl rfl) (by decide) (by decide)) (@pa_nil _) (by rfl)) (by rfl)) (by rfl)) (by first | decide | exact Nat.le_refl _ | omega) (by rfl) (by decide) (by rfl) (by rfl)) (@pa_cons _ _ _ _ _ (@pe_lst _ _ _ _ (@pa_nil _)) (@pa_cons _ _ _ _ _ (@pe_non _ _ _) (@pa_nil _) (by rfl)) (by rfl)) (by rfl)))) (by rfl) (by first | exact .inl rfl | exact .inr rfl)) (@pss_cons _ _ _ _ _ (@ps_set _ _ 6 _ _ _ _ sc_l_things.nd rfl (Or.inl rfl) (@pe_op _ _ _ _ _ _ _ _ op_cat (@pv _ 6 _ _ (by rfl) (Or.inl rfl) (by decide) (by decide)) (@pe_lst _ _ _ _ (@pa_cons _ _ _ _ _ (@pe_callTy _ _ _ _ _ _ _ _ _ tupR (by rfl) T.b.n_tuple boot_tuple (@pa_cons _ _ _ _ _ (@pe_callTy _ _ _ _ _ _ _ _ _ rng1 (by rfl) T.b.n_range boot_range (@pa_cons _ _ _ _ _ (@pv _ 3 _ _ (by rfl) (Or.inl rfl) (by decide) (by decide)) (@pa_nil _) (by rfl)) (by decide) (by decide) (by rfl) (by rfl)) (@pa_nil _) (by rfl)) (by decide) (by decide) (by rfl) (by rfl)) (@pa_cons _ _ _ _ _ (@pe_callTy _ _ _ _ _ _ _ _ _ listR (by rfl) T.b.n_list boot_list (@pa_cons _ _ _ _ _ (@pe_callTy _ _ _ _ _ _ _ _ _ rng1 (by rfl) T.b.n_range boot_range (@pa_cons _ _ _ _ _ (@pv _ 3 _ _ (by rfl) (Or.inl rfl) (by decide) (by decide)) (@pa_nil _) (by rfl)) (by decide) (by decide) (by rfl) (by rfl)) (@pa_nil _) (by rfl)) (by decide) (by decide) (by rfl) (by rfl)) (@pa_cons _ _ _ _ _ (@pe_df _ _ _ _ _ _ _ _ _ _ _ f_l_deep hr (@pa_cons _ _ _ _ _ (@pv _ 0 _ _ (by rfl) (Or.inl rfl) (by decide) (by decide)) (@pa_cons _ _ _ _ _ (@pe_int _ _ _ _) (@pa_nil _) (by rfl)) (by rfl)) (by first | decide | exact Nat.le_refl _ | omega) (by rfl) (by decide) (by rfl) (by rfl)) (@pa_nil _) (by rfl)) (by rfl)) (by rfl)))) (by rfl) (by first | exact .inl rfl | exact .inr rfl)) (@pss_cons _ _ _ _ _ (@ps_for _ _ _ _ _ _ _ _ PassesOwn.never rfl (@pi_range1 _ _ _ _ _ _ rfl T.b.n_range (@pa_cons _ _ _ _ _ (@pe_int _ _ _ _) (@pa_nil _) (by rfl)) (by rfl)) (@pg_name _ _ 7 _ sc_l_things.nd rfl (Or.inl rfl) (by first | exact .inl rfl | exact .inr rfl)) (@pss_one _ _ _ (@ps_expr _ _ _ _ (@pe_bm _ _ _ _ _ _ _ _ _ _ _ _ PySem.F.plainAttrs_list PySem.F.slot_list_append PySem.F.type_list_append mt_append (@pv _ 6 _ _ (by rfl) (Or.inl rfl) (by decide) (by decide)) (@pa_cons _ _ _ _ _ (@pe_df _ _ _ _ _ _ _ _ _ _ _ f_l_spoilt hr (@pa_cons _ _ _ _ _ (@pv _ 0 _ _ (by rfl) (Or.inl rfl) (by decide) (by decide)) (@pa_cons _ _ _ _ _ (@pv _ 4 _ _ (by rfl) (Or.inl rfl) (by decide) (by decide)) (@pa_cons _ _ _ _ _ (@pv _ 3 _ _ (by rfl) (Or.inl rfl) (by decide) (by decide)) (@pa_nil _) (by rfl)) (by rfl)) (by rfl)) (by first | decide | exact Nat.le_refl _ | omega) (by rfl) (by decide) (by rfl) (by rfl)) (@pa_nil _) (by rfl)) (by rfl) (by rfl) (by rfl) (by rfl) (by rfl)) (by rfl))) (by intro _; rfl)) (@pss_one _ _ _ (@ps_ret _ _ _ _ (@pe_op _ _ _ _ _ _ _ _ op_cat (@pv _ 6 _ _ (by rfl) (Or.inl rfl) (by decide) (by decide)) (@pe_lst _ _ _ _ (@pa_cons _ _ _ _ _ (@pe_df _ _ _ _ _ _ _ _ _ _ _ f_l_spoilt hr (@pa_cons _ _ _ _ _ (@pv _ 0 _ _ (by rfl) (Or.inl rfl) (by decide) (by decide)) (@pa_cons _ _ _ _ _ (@pe_df _ _ _ _ _ _ _ _ _ _ _ f_l_spoilt hr (@pa_cons _ _ _ _ _ (@pv _ 0 _ _ (by rfl) (Or.inl rfl) (by decide) (by decide)) (@pa_cons _ _ _ _ _ (@pv _ 4 _ _ (by rfl) (Or.inl rfl) (by decide) (by decide)) (@pa_cons _ _ _ _ _ (@pv _ 3 _ _ (by rfl) (Or.inl rfl) (by decide) (by decide)) (@pa_nil _) (by rfl)) (by rfl)) (by rfl)) (by first | decide | exact Nat.le_refl _ | omega) (by rfl) (by decide) (by rfl) (by rfl)) (@pa_cons _ _ _ _ _ (@pv _ 3 _ _ (by rfl) (Or.inl rfl) (by decide) (by decide)) (@pa_nil _) (by rfl)) (by rfl)) (by rfl)) (by first | decide | exact Nat.le_refl _ | omega) (by rfl) (by decide) (by rfl) (by rfl)) (@pa_nil _) (by rfl))))))))))))), ?_⟩
  have c0 := hL.ge
  refine ⟨_, rfl, sa, _, rfl, .inl (SqL.of hS), ?_⟩
  have em : (ns.map V.int).length = ns.length := List.length_map ..
  generalize hm : (ns.map V.int).length = m at em ⊢
  have m1 : 1 ≤ m := by omega
  have m12 : m ≤ 12 := by omega
  refine ⟨_, rfl, _, rfl, _, rfl, p, c, m, rfl, hL, by omega, by omega, fun r1 ks1 c1 H1 hr1 hk1 l1 b1 p1 L1 g1 g2 B1 => ?_⟩
  refine ⟨_, rfl, p, r1, c1, wy, ks1, m, rfl, L1, by omega, w2, by omega, hk1, by omega, by omega, b1, fun x1 t1 c2 H2 hT1 ok1 gd1 lf1 L2 g3 g4 B2 => ?_⟩
  have d1 := hT1.dhO L2
  obtain ⟨th1, lf1⟩ := tree_th (by omega) ok1 gd1 (lf1.trans l1) (by omega)
  have B02 := B1.trans B2
  clear hT1 ok1 gd1 p1 b1 hk1
  generalize toD t1 = e1 at d1 th1 lf1
  refine ⟨_, rfl, _, rfl, _, rfl, p, c2, m, rfl, L2, by omega, by omega, fun r3 ks3 c3 H3 hr3 hk3 l3 b3 p3 L3 g5 g6 B3 => ?_⟩
  refine ⟨_, rfl, _, _, rfl, rfl, p, r3, c3, wy + 1, ks3, m, rfl, L3, by omega, by omega, by omega, hk3, by omega, by omega, b3, fun x2 t2 c4 H4 hT2 ok2 gd2 lf2 L4 g7 g8 B4 => ?_⟩
  have B04 := B02.trans (B3.trans B4)
  have d1 := d1.mono (off_but (B3.trans B4))
  have d2 := hT2.dhO L4
  obtain ⟨th2, lf2⟩ := tree_th (by omega) ok2 gd2 (lf2.trans l3) (by omega)
  clear hT2 ok2 gd2 p3 b3 hk3 B3 B4
  generalize toD t2 = e2 at d2 th2 lf2
  refine ⟨_, rfl, _, rfl, _, rfl, _, rfl, _, rfl, fun rp hrp => ?_⟩
  have eR : ∀ k : Nat, ((k : Int) - 0).toNat = k := fun k => by omega
  have nP : ∀ {G : Hp} {c : Int} {a : Addr}, Left G p c → G a = none → a ≠ p := fun L h z => by
    obtain ⟨o, ho⟩ := L.here
    rw [z, ho] at h; cases h
  have s1 := same_new hrp (.rng 0 m)
  have f1 : (upd H4 rp (.rng 0 m)) rp = some (.rng 0 m) := upd_same
  generalize upd H4 rp (.rng 0 m) = G1 at s1 f1 ⊢
  refine ⟨rp, 0, m, rfl, f1, by omega, by omega, by omega, by omega, by omega, fun l5 hl5 => ?_⟩
  rw [eR]
  have s2 := same_new hl5 (.lst ((upsI 0 m).map V.int))
  have f2 : (upd G1 l5 (.lst ((upsI 0 m).map V.int))) l5 = some (.lst ((upsI 0 m).map V.int)) := upd_same
  generalize upd G1 l5 (.lst ((upsI 0 m).map V.int)) = G2 at s2 f2 ⊢
  have s02 := s1.trans s2
  refine ⟨_, rfl, p, l5, c4, wy, upsI 0 m, m, rfl, L4.same s02, by omega, by omega, by omega, f2, by rw [upsI_len]; exact m1, by rw [upsI_len]; omega, ups_in (Nat.le_refl m), fun x3 t3 c5 H5 hT3 ok3 gd3 lf3 L5 g9 g10 B5 => ?_⟩
  rw [upsI_len] at lf3
  have B45 : But p H4 H5 := (but_same s02).trans B5
  have B05 := B04.trans B45
  have d1 := d1.mono (off_but B45)
  have d2 := d2.mono (off_but B45)
  have d3 := hT3.dhO L5
  obtain ⟨th3, lf3⟩ := tree_th (by omega) ok3 gd3 lf3 (by omega)
  clear hT3 ok3 gd3 B5 s02 f2 s2 f1 s1 hl5 hrp B45
  generalize toD t3 = e3 at d3 th3 lf3
  refine ⟨(by show 3 ≤ sizeLine; decide), fun t5 h5 => ?_⟩
  have s1 := same_new h5 (.lst [x1, x2, x3])
  have f5 : (upd H5 t5 (.lst [x1, x2, x3])) t5 = some (.lst [x1, x2, x3]) := upd_same
  have n5 := nP L5 h5
  generalize upd H5 t5 (.lst [x1, x2, x3]) = G0 at s1 f5 ⊢
  refine ⟨_, rfl, _, rfl, _, rfl, _, _, rfl, rfl, _, rfl, fun rp hrp => ?_⟩
  have s2 := same_new hrp (.rng 0 ((m : Int) + 1))
  have f2 : (upd G0 rp (.rng 0 ((m : Int) + 1))) rp = some (.rng 0 ((m : Int) + 1)) := upd_same
  generalize upd G0 rp (.rng 0 ((m : Int) + 1)) = G1 at s2 f2 ⊢
  refine ⟨rp, 0, (m : Int) + 1, rfl, f2, by omega, by omega, by omega, by omega, by omega, fun l5 hl5 => ?_⟩
  rw [show ((m : Int) + 1 - 0).toNat = m + 1 by omega]
  have s3 := same_new hl5 (.lst ((upsI 0 (m + 1)).map V.int))
  have f3 : (upd G1 l5 (.lst ((upsI 0 (m + 1)).map V.int))) l5 = some (.lst ((upsI 0 (m + 1)).map V.int)) := upd_same
  generalize upd G1 l5 (.lst ((upsI 0 (m + 1)).map V.int)) = G2 at s3 f3 ⊢
  have s13 := s1.trans (s2.trans s3)
  have f5 := (s2.trans s3) _ _ f5
  refine ⟨_, rfl, p, l5, c5, wy, upsI 0 (m + 1), m + 1, rfl, L5.same s13, by omega, by omega, by omega, f3, by rw [upsI_len]; omega, by rw [upsI_len]; omega, ups_in (Nat.le_refl _), fun x4 t4 c6 H6 hT4 ok4 gd4 lf4 L6 g11 g12 B6 => ?_⟩
  rw [upsI_len] at lf4
  have B56 : But p H5 H6 := (but_same s13).trans B6
  have B06 := B05.trans B56
  have d1 := d1.mono (off_but B56)
  have d2 := d2.mono (off_but B56)
  have d3 := d3.mono (off_but B56)
  have f5 := B6 _ _ f5 n5
  have d4 := hT4.dhO L6
  obtain ⟨th4, lf4⟩ := tree_th (by omega) ok4 gd4 lf4 (by omega)
  clear hT4 ok4 gd4 B6 s13 s3 f3 s2 f2 s1 hl5 hrp B56
  generalize toD t4 = e4 at d4 th4 lf4
  refine ⟨(by show 0 ≤ sizeLine; decide), fun a1 h1 => ?_⟩
  have s1 := same_new h1 (.lst [])
  have f1 : (upd H6 a1 (.lst [])) a1 = some (.lst []) := upd_same
  have n1' := nP L6 h1
  generalize upd H6 a1 (.lst []) = G1 at s1 f1 ⊢
  refine ⟨(by show 3 ≤ sizeLine; decide), fun a2 h2 => ?_⟩
  have s2 := same_new h2 (.lst [x4, .ref a1, .non])
  have f2 : (upd G1 a2 (.lst [x4, .ref a1, .non])) a2 = some (.lst [x4, .ref a1, .non]) := upd_same
  generalize upd G1 a2 (.lst [x4, .ref a1, .non]) = G2 at s2 f2 ⊢
  refine ⟨t5, a2, _, _, rfl, rfl, s2 _ _ (s1 _ _ f5), f2, (by show 6 ≤ sizeLine; decide), fun t6 h6 => ?_⟩
  have s3 := same_new h6 (.lst [x1, x2, x3, x4, .ref a1, .non])
  have f6 : (upd G2 t6 (.lst [x1, x2, x3, x4, .ref a1, .non])) t6 = some (.lst [x1, x2, x3, x4, .ref a1, .non]) := upd_same
  have n6 := nP (L6.same (s1.trans s2)) h6
  have e6 : [x1, x2, x3] ++ [x4, .ref a1, .non] = [x1, x2, x3, x4, .ref a1, .non] := rfl
  rw [e6]
  generalize upd G2 t6 (.lst [x1, x2, x3, x4, .ref a1, .non]) = G3 at s3 f6 ⊢
  have s03 := s1.trans (s2.trans s3)
  have f1 := s3 _ _ (s2 _ _ f1)
  refine ⟨_, rfl, _, rfl, _, rfl, fun rp hrp => ?_⟩
  have s4 := same_new hrp (.rng 0 m)
  have f4 : (upd G3 rp (.rng 0 m)) rp = some (.rng 0 m) := upd_same
  generalize upd G3 rp (.rng 0 m) = G4 at s4 f4 ⊢
  refine ⟨rp, 0, m, rfl, f4, by omega, by omega, by omega, by omega, by omega, fun a5 h5 => ?_⟩
  rw [eR]
  have s5 := same_new h5 (.tup ((upsI 0 m).map V.int))
  have f5 : (upd G4 a5 (.tup ((upsI 0 m).map V.int))) a5 = some (.tup ((upsI 0 m).map V.int)) := upd_same
  have n5 := nP (L6.same (s03.trans s4)) h5
  generalize upd G4 a5 (.tup ((upsI 0 m).map V.int)) = G5 at s5 f5 ⊢
  refine ⟨_, rfl, _, rfl, fun rq hrq => ?_⟩
  have s7 := same_new hrq (.rng 0 m)
  have f7 : (upd G5 rq (.rng 0 m)) rq = some (.rng 0 m) := upd_same
  generalize upd G5 rq (.rng 0 m) = G7 at s7 f7 ⊢
  refine ⟨rq, 0, m, rfl, f7, by omega, by omega, by omega, by omega, by omega, fun a8 h8 => ?_⟩
  rw [eR]
  have s8 := same_new h8 (.lst ((upsI 0 m).map V.int))
  have f8 : (upd G7 a8 (.lst ((upsI 0 m).map V.int))) a8 = some (.lst ((upsI 0 m).map V.int)) := upd_same
  have n8 := nP (L6.same (s03.trans (s4.trans (s5.trans s7)))) h8
  generalize upd G7 a8 (.lst ((upsI 0 m).map V.int)) = G8 at s8 f8 ⊢
  have s38 := s4.trans (s5.trans (s7.trans s8))
  have s08 := s03.trans s38
  refine ⟨_, rfl, p, c6, rfl, L6.same s08, by omega, fun x5 e5 c7 H7 d5 th5 L7 g13 g14 B7 => ?_⟩
  have B67 : But p H6 H7 := (but_same s08).trans B7
  have B07 := B06.trans B67
  have d1 := d1.mono (off_but B67)
  have d2 := d2.mono (off_but B67)
  have d3 := d3.mono (off_but B67)
  have d4 := d4.mono (off_but B67)
  have f6 := B7 _ _ (s38 _ _ f6) n6
  have f1 := B7 _ _ (s38 _ _ f1) n1'
  have f5 := B7 _ _ (s8 _ _ (s7 _ _ f5)) n5
  have f8 := B7 _ _ f8 n8
  clear B7 s08 s38 s8 s7 s5 s4 s03 s3 s2 s1
  refine ⟨(by show 3 ≤ sizeLine; decide), fun a2 h2 => ?_⟩
  have s1 := same_new h2 (.lst [.ref a5, .ref a8, x5])
  have f2 : (upd H7 a2 (.lst [.ref a5, .ref a8, x5])) a2 = some (.lst [.ref a5, .ref a8, x5]) := upd_same
  generalize upd H7 a2 (.lst [.ref a5, .ref a8, x5]) = G1 at s1 f2 ⊢
  refine ⟨t6, a2, _, _, rfl, rfl, s1 _ _ f6, f2, (by show 9 ≤ sizeLine; decide), fun t9 h9 => ?_⟩
  have e9 : [x1, x2, x3, x4, .ref a1, .non] ++ [.ref a5, .ref a8, x5] = [x1, x2, x3, x4, .ref a1, .non, .ref a5, .ref a8, x5] := rfl
  rw [e9]
  have n9 := nP (L7.same s1) h9
  have hfree : H t9 = none := by
    cases e : H t9 with
    | none => rfl
    | some o => have := s1 _ _ (B07 _ _ e n9); rw [h9] at this; cases this
  have f9 : (upd G1 t9 (.lst [x1, x2, x3, x4, .ref a1, .non, .ref a5, .ref a8, x5])) t9 = some (.lst [x1, x2, x3, x4, .ref a1, .non, .ref a5, .ref a8, x5]) := upd_same
  have sO : Same (off p H7) (off t9 (off p (upd G1 t9 (.lst [x1, x2, x3, x4, .ref a1, .non, .ref a5, .ref a8, x5])))) := (off_same s1).trans (off_new h9)
  have s9 := s1.trans (same_new h9 (.lst [x1, x2, x3, x4, .ref a1, .non, .ref a5, .ref a8, x5]))
  generalize upd G1 t9 (.lst [x1, x2, x3, x4, .ref a1, .non, .ref a5, .ref a8, x5]) = G9 at f9 sO s9 ⊢
  have d1 := d1.mono sO
  have d2 := d2.mono sO
  have d3 := d3.mono sO
  have d4 := d4.mono sO
  have d5 := d5.mono sO
  have L9 := L7.same s9
  have B9 : But p H G9 := B07.trans (but_same s9)
  have all9 : ∀ v ∈ ([x1, x2, x3, x4, .ref a1, .non, .ref a5, .ref a8, x5] : List V), Tg2 p t9 G9 v := fun v hv => by
    obtain ⟨u1, u2, u3⟩ := tg_ups (n := m) (by omega)
    simp only [List.mem_cons, List.not_mem_nil, or_false] at hv
    rcases hv with rfl | rfl | rfl | rfl | rfl | rfl | rfl | rfl | rfl
    · exact ⟨_, d1, th1.mono (by omega) (by omega) (by omega)⟩
    · exact ⟨_, d2, th2.mono (by omega) (by omega) (by omega)⟩
    · exact ⟨_, d3, th3.mono (by omega) (by omega) (by omega)⟩
    · exact ⟨_, d4, th4.mono (by omega) (by omega) (by omega)⟩
    · exact ⟨.list [], (DH.lst (off_at f1 n1') .nil).mono sO, by show 0 ≤ _; omega, by show 0 ≤ _; omega, (gd_list (D := 0) fun d hd => by cases hd).mono (by omega)⟩
    · exact ⟨.none, .non, by show 1 ≤ _; omega, by show 0 ≤ _; omega, Nat.zero_le _, rfl, rfl, rfl⟩
    · exact ⟨.tuple ((upsI 0 m).map PyData.int), (DH.tup (off_at f5 n5) (DHs.ints _)).mono sO, by show lfDs _ ≤ _; omega, by show PyData.weightAll _ ≤ _; omega, (gd_tup u3).mono (by omega)⟩
    · exact ⟨.list ((upsI 0 m).map PyData.int), (DH.lst (off_at f8 n8) (DHs.ints _)).mono sO, by show lfDs _ ≤ _; omega, by show PyData.weightAll _ ≤ _; omega, (gd_list u3).mono (by omega)⟩
    · exact ⟨_, d5, th5.mono (by omega) (by omega) (by omega)⟩
  clear f1 f2 f5 f6 f8 sO s9 s1 h9
  refine ⟨_, rfl, by omega, by omega, ?_⟩
  refine for_range (fun i σ H2 => ∃ (xs : List V) (v : Option V) (c2 : Int), σ = [some (.ref p), some (.ref sa), some (.int wy), some (.int m), some x1, some x2, some (.ref t9), v] ∧ H2 t9 = some (.lst (x1 :: x2 :: x3 :: x4 :: xs)) ∧ xs.length = 5 + i ∧ (∀ v ∈ x1 :: x2 :: x3 :: x4 :: xs, Tg2 p t9 H2 v) ∧ DH (off t9 (off p H2)) x1 e1 ∧ DH (off t9 (off p H2)) x2 e2 ∧ DH (off t9 (off p H2)) x3 e3 ∧ DH (off t9 (off p H2)) x4 e4 ∧ Left H2 p c2 ∧ c ≤ c2 ∧ c2 ≤ c + 300 + 100 * i ∧ But p H H2)
    ⟨_, none, c7, rfl, f9, rfl, all9, d1, d2, d3, d4, L9, by omega, by omega, B9⟩ ?_ ?_
  · rintro i σ H2 hi ⟨xs, v, c2, rfl, h9, hn, hall, d1, d2, d3, d4, L2, b1, b2, B2⟩
    refine ⟨_, rfl, .inl ⟨rfl, _, SqL.of h9⟩, _, rfl, _, rfl, _, rfl, p, c2, x1, m, m, 1100, 13, e1, rfl, L2, by omega, d1.mono off_on, by omega, th1, by decide, by decide, fun z dz c3 H3 hz tz L3 g1 g2 B3 => ?_⟩
    have o3 : Same (off t9 (off p H2)) (off t9 (off p H3)) := off_same (off_but B3)
    have h93 := B3 _ _ h9 n9
    have hz' : DH (off t9 (off p H3)) z dz := out_of (off_at h93 n9) ((d1.mono o3).mono off_on) ((d2.mono o3).mono off_on) ((d3.mono o3).mono off_on) ((d4.mono o3).mono off_on) m1 lf1 lf2 lf3 lf4 hz tz.lf
    refine ⟨t9, _, _, rfl, rfl, h93, by simp only [List.length_cons, sizeLine_eq]; omega, xs ++ [z], _, c3, rfl, upd_same, by rw [List.length_append, List.length_singleton]; omega, fun v' hv' => ?_, (d1.mono o3).mono off_put, (d2.mono o3).mono off_put, (d3.mono o3).mono off_put, (d4.mono o3).mono off_put, L3.at n9.symm, by omega, by omega, fun b o hb nb => ?_⟩
    · rcases (List.mem_append (s := x1 :: x2 :: x3 :: x4 :: xs) (t := [z])).mp hv' with hv' | hv'
      · obtain ⟨d, hd, td⟩ := hall v' hv'
        exact ⟨d, (hd.mono o3).mono off_put, td⟩
      · rw [List.mem_singleton.mp hv']
        exact ⟨dz, hz'.mono off_put, tz.mono (by omega) (by omega) (by omega)⟩
    · have nb9 : b ≠ t9 := fun z => by rw [z] at hb; rw [hfree] at hb; cases hb
      rw [upd_ne nb9]; exact B3 _ _ (B2 _ _ hb nb) nb
  · rintro σ H2 ⟨xs, v, c2, rfl, h9, hn, hall, d1, d2, d3, d4, L2, b1, b2, B2⟩
    have hn : xs.length = 11 := by omega
    refine ⟨_, rfl, _, rfl, _, rfl, _, rfl, _, rfl, p, c2, x1, m, m, 1100, 13, e1, rfl, L2, by omega, d1.mono off_on, by omega, th1, by decide, by decide, fun z dz c3 H3 hz tz L3 g1 g2 B3 => ?_⟩
    refine ⟨_, rfl, p, c3, z, m, _, _, _, dz, rfl, L3, by omega, hz, by omega, tz, by decide, by decide, fun z2 dz2 c4 H4 hz2 tz2 L4 g3 g4 B4 => ?_⟩
    have B24 := B3.trans B4
    have h94 := B24 _ _ h9 n9
    refine ⟨(by show 1 ≤ sizeLine; decide), fun a1 h1 => ?_⟩
    have s1 := same_new h1 (.lst [z2])
    have f1 : (upd H4 a1 (.lst [z2])) a1 = some (.lst [z2]) := upd_same
    generalize upd H4 a1 (.lst [z2]) = G1 at s1 f1 ⊢
    refine ⟨t9, a1, _, _, rfl, rfl, s1 _ _ h94, f1, by simp only [List.length_cons, List.length_nil, sizeLine_eq]; omega, fun a2 h2 => ?_⟩
    have n2 := nP (L4.same s1) h2
    have s2 := same_new h2 (.lst (x1 :: x2 :: x3 :: x4 :: xs ++ [z2]))
    refine q a2 (x1 :: x2 :: x3 :: x4 :: xs ++ [z2]) c4 _ upd_same n2 (fun v' hv' => ?_) (by simp only [List.length_cons, List.length_append, List.length_nil]; omega) (L4.same (s1.trans s2)) (by omega) (by omega) (B2.trans (B24.trans (but_same (s1.trans s2))))
    have T4 : Tg p H4 v' := by
      rcases List.mem_append.mp hv' with hv' | hv'
      · obtain ⟨d, hd, td⟩ := hall v' hv'
        exact ⟨d, (hd.mono off_on).mono (off_but B24), td⟩
      · rw [List.mem_singleton.mp hv']
        exact ⟨dz2, hz2, tz2.mono (by omega) (by omega) (by omega)⟩
    exact T4.but (but_same (s1.trans s2))
theorem ints_gd : ∀ l : List Int, (∀ i ∈ l, i.natAbs < 10 ^ 21) → PyData.weightAll (l.map PyData.int) ≤ 73 * l.length ∧ ∀ d ∈ l.map PyData.int, Gd 0 d
  | [], _ => ⟨Nat.le_refl _, fun d hd => by cases hd⟩
  | i :: r, h => by
    obtain ⟨b, c⟩ := ints_gd r fun x hx => h x (List.mem_cons_of_mem _ hx)
    obtain ⟨t1, t2, t3⟩ := th_int (h i (List.mem_cons_self ..))
    refine ⟨?_, fun d hd => ?_⟩
    · show (PyData.int i).weight + 1 + PyData.weightAll (r.map PyData.int) ≤ 73 * (r.length + 1)
      omega
    · rcases List.mem_cons.mp hd with rfl | hd
      · exact t3
      · exact c d hd
theorem pair_shown {ns : List Int} {d : PyData} (h1 : ∀ v ∈ ns, 0 ≤ v ∧ v ≤ 1000000000) (hn : ns.length ≤ 100) (h : Th 60 8000 20 d) : (PyData.list [.list (ns.map PyData.int), d]).canLay0 = true ∧ (PyData.list [.list (ns.map PyData.int), d]).depth ≤ 64 ∧ (PyData.list [.list (ns.map PyData.int), d]).shown.length ≤ sizeLine ∧ (PyData.list [.list (ns.map PyData.int), d]).showable = true := by
  obtain ⟨a, b⟩ := ints_gd ns fun i hi => by have := h1 i hi; omega
  have g := gd_list (D := 20) (ds := [.list (ns.map PyData.int), d]) fun x hx => by
    simp only [List.mem_cons, List.not_mem_nil, or_false] at hx
    rcases hx with rfl | rfl
    · exact (gd_list b).mono (by omega)
    · exact h.gd
  refine ⟨g.lay, Nat.le_trans g.dp (by decide), ?_, g.shw⟩
  have s := PyData.shown_le 22 (by decide) _ (PyData.leavesShort_of_canLay0 22 _ g.lay g.sh)
  have hw : (PyData.list [.list (ns.map PyData.int), d]).weight = PyData.weightAll (ns.map PyData.int) + 1 + (d.weight + 1 + 0) := rfl
  have w := h.wt
  rw [sizeLine_eq]
  omega
theorem ok_law {f : Addr} {fd : FuncData} (F : Fun K "law" "law" st_law f fd) (T : Tops K mg) : FnOk P w K mg base CX0 65 f fd ["_law_script"] (spLaw K) := by
  have f_l_mix : Df P w K mg base 1 "_law_mix" ["_law_cell", "_law_k"] spMix := ok_mix T
  have f_l_left : Df P w K mg base 1 "_law_left" ["_law_script", "_law_k"] (spLeft K) := ok_left T
  have f_l_pick : Df P w K mg base 2 "_law_pick" ["_law_left_here", "_law_many_here"] spPick := ok_pick T f_l_mix
  have f_l_sizes : Df P w K mg base 4 "_law_sizes" ["_law_left_here", "_law_most"] spSizes := ok_sizes T f_l_pick (ok_many T f_l_pick)
  have f_l_ways : Df P w K mg base 3 "_law_ways" ["_law_left_here"] spWays := ok_ways T f_l_pick
  have f_l_things : Df P w K mg base 63 "_law_things" ["_law_left_here", "_law_sizes_here", "_law_ways_here"] spThings := ok_things T (ok_mixed T f_l_pick) (ok_joined T f_l_pick) (ok_deep T f_l_pick) (ok_spoilt T f_l_pick (ok_lput T 60))
  have f_l_is_plan : Df P w K mg base 1 "_law_is_plan" ["_law_sizes_here", "_law_ways_here", "_law_thing"] (spLPD K) := ok_lplanD T
  have f_is_plan : Df P w K mg base 32 "is_plan" ["sizes", "ways", "thing"] (spPlanD 30) := ok_planD T 30 (ok_FD T (ok_numD T) 30)
  refine F.ok sc_law (fun vs H Q E h => ?_) (fun cdv A outer s H vs Q E hr h => ?_)
  · obtain ⟨a, ns, rfl, _⟩ := h
    rfl
  obtain ⟨a, ns, rfl, hS, h63, q⟩ := h
  refine ⟨_, (@pss_cons _ _ _ _ _ (@ps_for _ _ _ _ _ _ _ _ PassesOwn.never rfl (@pi_range1 _ _ _ _ _ _ rfl T.b.n_range (@pa_cons _ _ _ _ _ (@pe_op _ _ _ _ _ _ _ _ op_add (@pe_int _ _ _ _) (@pe_callB _ _ _ _ _ _ _ _ _ (call_min2 rfl) (by rfl) T.b.n_min boot_min (@pa_cons _ _ _ _ _ (@pe_int _ _ _ _) (@pa_cons _ _ _ _ _ (@pe_callB _ _ _ _ _ _ _ _ _ (lenQ K) (by rfl) T.b.n_len PySem.boot_len (@pa_cons _ _ _ _ _ (@pv _ 0 _ _ (by rfl) (Or.inl rfl) (by decide) (by decide)) (@pa_nil _) (by rfl)) (by decide) (by decide) (by rfl) (by rfl)) (@pa_nil _) (by rfl)) (by rfl)) (by decide) (by decide) (by rfl) (by rfl))) (@pa_nil _) (by rfl)) (by rfl)) (@pg_name _ _ 1 _ sc_law.nd rfl (Or.inl rfl) (by first | exact .inl rfl | exact .inr rfl)) (@pss_cons _ _ _ _ _ (@ps_set _ _ 2 _ _ _ _ sc_law.nd rfl (Or.inl rfl) (@pe_df _ _ _ _ _ _ _ _ _ _ _ f_l_left hr (@pa_cons _ _ _ _ _ (@pv _ 0 _ _ (by rfl) (Or.inl rfl) (by decide) (by decide)) (@pa_cons _ _ _ _ _ (@pv _ 1 _ _ (by rfl) (Or.inl rfl) (by decide) (by decide)) (@pa_nil _) (by rfl)) (by rfl)) (by first | decide | exact Nat.le_refl _ | omega) (by rfl) (by decide) (by rfl) (by rfl)) (by rfl) (by first | exact .inl rfl | exact .inr rfl)) (@pss_cons _ _ _ _ _ (@ps_par _ _ 3 4 _ _ _ _ _ _ _ _ _ _ _ rfl sc_law.nd rfl rfl (by decide) rfl rfl (@pa_cons _ _ _ _ _ (@pe_df _ _ _ _ _ _ _ _ _ _ _ f_l_sizes hr (@pa_cons _ _ _ _ _ (@pv _ 2 _ _ (by rfl) (Or.inl rfl) (by decide) (by decide)) (@pa_cons _ _ _ _ _ (@pe_int _ _ _ _) (@pa_nil _) (by rfl)) (by rfl)) (by first | decide | exact Nat.le_refl _ | omega) (by rfl) (by decide) (by rfl) (by rfl)) (@pa_cons _ _ _ _ _ (@pe_df _ _ _ _ _ _ _ _ _ _ _ f_l_ways hr (@pa_cons _ _ _ _ _ (@pv _ 2 _ _ (by rfl) (Or.inl rfl) (by decide) (by decide)) (@pa_nil _) (by rfl)) (by first | decide | exact Nat.le_refl _ | omega) (by rfl) (by decide) (by rfl) (by rfl)) (@pa_nil _) (by rfl)) (by rfl)) rfl (by rfl)) (@pss_one _ _ _ (@ps_for _ _ _ _ _ _ _ _ PassesOwn.never rfl (@iL _ K _ _ _ (@pe_df _ _ _ _ _ _ _ _ _ _ _ f_l_things hr (@pa_cons _ _ _ _ _ (@pv _ 2 _ _ (by rfl) (Or.inl rfl) (by decide) (by decide)) (@pa_cons _ _ _ _ _ (@pv _ 3 _ _ (by rfl) (Or.inl rfl) (by decide) (by decide)) (@pa_cons _ _ _ _ _ (@pv _ 4 _ _ (by rfl) (Or.inl rfl) (by decide) (by decide)) (@pa_nil _) (by rfl)) (by rfl)) (by rfl)) (by first | decide | exact Nat.le_refl _ | omega) (by rfl) (by decide) (by rfl) (by rfl)) (by rfl)) (@pg_name _ _ 5 _ sc_law.nd rfl (Or.inl rfl) (by first | exact .inl rfl | exact .inr rfl)) (@pss_cons _ _ _ _ _ (@ps_set _ _ 6 _ _ _ _ sc_law.nd rfl (Or.inl rfl) (@pe_callTy _ _ _ _ _ _ _ _ _ (@strA _ K _ hr (by rfl)) (by rfl) T.b.n_str boot_str (@pa_cons _ _ _ _ _ (@pe_lst _ _ _ _ (@pa_cons _ _ _ _ _ (@pv _ 3 _ _ (by rfl) (Or.inl rfl) (by decide) (by decide)) (@pa_cons _ _ _ _ _ (@pv _ 5 _ _ (by rfl) (Or.inl rfl) (by decide) (by decide)) (@pa_nil _) (by rfl)) (by rfl))) (@pa_nil _) (by rfl)) (by decide) (by decide) (by rfl) (by rfl)) (by rfl) (by first | exact .inl rfl | exact .inr rfl)) (@pss_cons _ _ _ _ _ (@ps_set _ _ 7 _ _ _ _ sc_law.nd rfl (Or.inl rfl) (@pe_df _ _ _ _ _ _ _ _ _ _ _ f_is_plan hr (@pa_cons _ _ _ _ _ (@pv _ 3 _ _ (by rfl) (Or.inl rfl) (by decide) (by decide)) (@pa_cons _ _ _ _ _ (@pv _ 4 _ _ (by rfl) (Or.inl rfl) (by decide) (by decide)) (@pa_cons _ _ _ _ _ (@pv _ 5 _ _ (by rfl) (Or.inl rfl) (by decide) (by decide)) (@pa_nil _) (by rfl)) (by rfl)) (by rfl)) (by first | decide | exact Nat.le_refl _ | omega) (by rfl) (by decide) (by rfl) (by rfl)) (by rfl) (by first | exact .inl rfl | exact .inr rfl)) (@pss_cons _ _ _ _ _ (@ps_if _ _ _ _ _ _ _ _ (@PW.pt _ _ _ (@pw_or _ _ _ _ _ _ _ (@pt_not _ _ _ _ (@pt_val _ _ _ (@pe_callB _ _ _ _ _ _ _ _ _ (isiQ K) (by rfl) T.b.n_isinstance boot_isinstance (@pa_cons _ _ _ _ _ (@pv _ 7 _ _ (by rfl) (Or.inl rfl) (by decide) (by decide)) (@pa_cons _ _ _ _ _ (@pe_ty _ _ _ _ T.b.n_bool boot_bool (by rfl) (by decide) (by decide)) (@pa_nil _) (by rfl)) (by rfl)) (by decide) (by decide) (by rfl) (by rfl)) (by intro _; rfl))) (@pw_or1 _ _ _ _ (@pt_cmpR _ _ _ _ _ _ _ _ op_ne (@pv _ 7 _ _ (by rfl) (Or.inl rfl) (by decide) (by decide)) (@pe_df _ _ _ _ _ _ _ _ _ _ _ f_l_is_plan hr (@pa_cons _ _ _ _ _ (@pv _ 3 _ _ (by rfl) (Or.inl rfl) (by decide) (by decide)) (@pa_cons _ _ _ _ _ (@pv _ 4 _ _ (by rfl) (Or.inl rfl) (by decide) (by decide)) (@pa_cons _ _ _ _ _ (@pv _ 5 _ _ (by rfl) (Or.inl rfl) (by decide) (by decide)) (@pa_nil _) (by rfl)) (by rfl)) (by rfl)) (by first | decide | exact Nat.le_refl _ | omega) (by rfl) (by decide) (by rfl) (by rfl)) (nomark _))))) (@pss_one _ _ _ (@ps_ret _ _ _ _ (@pe_bl _ _ _ _))) (@pss_nil _)) (@pss_one _ _ _ (@ps_if _ _ _ _ _ _ _ _ (@pt_cmpR _ _ _ _ _ _ _ _ op_ne (@pe_callTy _ _ _ _ _ _ _ _ _ (@strA _ K _ hr (by rfl)) (by rfl) T.b.n_str boot_str (@pa_cons _ _ _ _ _ (@pe_lst _ _ _ _ (@pa_cons _ _ _ _ _ (@pv _ 3 _ _ (by rfl) (Or.inl rfl) (by decide) (by decide)) (@pa_cons _ _ _ _ _ (@pv _ 5 _ _ (by rfl) (Or.inl rfl) (by decide) (by decide)) (@pa_nil _) (by rfl)) (by rfl))) (@pa_nil _) (by rfl)) (by decide) (by decide) (by rfl) (by rfl)) (@pv _ 6 _ _ (by rfl) (Or.inl rfl) (by decide) (by decide)) (nomark _)) (@pss_one _ _ _ (@ps_ret _ _ _ _ (@pe_bl _ _ _ _))) (@pss_nil _)))))) (by intro _; rfl))))) (by intro _; rfl)) (@pss_one _ _ _ (@ps_ret _ _ _ _ (@pe_and _ _ _ _ _ _ _ (@pe_df _ _ _ _ _ _ _ _ _ _ _ f_is_plan hr (@pa_cons _ _ _ _ _ (@pe_lst _ _ _ _ (@pa_cons _ _ _ _ _ (@pe_int _ _ _ _) (@pa_nil _) (by rfl))) (@pa_cons _ _ _ _ _ (@pe_int _ _ _ _) (@pa_cons _ _ _ _ _ (@pe_int _ _ _ _) (@pa_nil _) (by rfl)) (by rfl)) (by rfl)) (by first | decide | exact Nat.le_refl _ | omega) (by rfl) (by decide) (by rfl) (by rfl)) (@pe_and _ _ _ _ _ _ _ (@pe_not _ _ _ _ (@pe_df _ _ _ _ _ _ _ _ _ _ _ f_is_plan hr (@pa_cons _ _ _ _ _ (@pe_lst _ _ _ _ (@pa_cons _ _ _ _ _ (@pe_int _ _ _ _) (@pa_nil _) (by rfl))) (@pa_cons _ _ _ _ _ (@pe_int _ _ _ _) (@pa_cons _ _ _ _ _ (@pe_tup _ _ _ _ _ (@pa_cons _ _ _ _ _ (@pe_int _ _ _ _) (@pa_nil _) (by rfl))) (@pa_nil _) (by rfl)) (by rfl)) (by rfl)) (by first | decide | exact Nat.le_refl _ | omega) (by rfl) (by decide) (by rfl) (by rfl))) (@pe_one _ _ _ _ _ (@pe_not _ _ _ _ (@pe_df _ _ _ _ _ _ _ _ _ _ _ f_is_plan hr (@pa_cons _ _ _ _ _ (@pe_lst _ _ _ _ (@pa_cons _ _ _ _ _ (@pe_int _ _ _ _) (@pa_cons _ _ _ _ _ (@pe_int _ _ _ _) (@pa_nil _) (by rfl)) (by rfl))) (@pa_cons _ _ _ _ _ (@pe_int _ _ _ _) (@pa_cons _ _ _ _ _ (@pe_int _ _ _ _) (@pa_nil _) (by rfl)) (by rfl)) (by rfl)) (by first | decide | exact Nat.le_refl _ | omega) (by rfl) (by decide) (by rfl) (by rfl))))))))), ?_⟩
  have hlen : (((ns.map V.int).length : Nat) : Int) = (ns.length : Int) := by rw [List.length_map]
  refine ⟨_, rfl, a, _, rfl, .inl hS, _, _, rfl, _, _, rfl, rfl, _, rfl, ?_, ?_, ?_⟩
  · split <;> omega
  · split <;> omega
  refine for_range (fun i σ H2 => ∃ v1 v2 v3 v4 v5 v6 v7 : Option V, σ = [some (.ref a), v1, v2, v3, v4, v5, v6, v7] ∧ Same H H2) ⟨_, _, _, _, _, _, _, rfl, Same.refl H⟩ ?_ ?_
  · rintro i σ H2 hi ⟨v1, v2, v3, v4, v5, v6, v7, rfl, s2⟩
    have hi9 : (i : Int) < 100 := by
      have : (i : Int) < (1 + (if (((ns.map V.int).length : Nat) : Int) < 10 then (((ns.map V.int).length : Nat) : Int) else 10)).toNat := by omega
      split at this <;> omega
    refine ⟨_, rfl, _, rfl, a, ns, _, rfl, s2.seq hS, h63, by omega, by omega, fun p H3 hp L3 s3 => ?_⟩
    have nHp : H p = none := s2.free hp
    have keep : ∀ {H5 H6 : Hp}, Same H H5 → But p H5 H6 → Same H H6 := fun {H5 H6} s b x o e => b x o (s x o e) (ne_of_none e nHp)
    refine ⟨_, rfl, p, 0, rfl, L3, by omega, fun sz ms c5 H5 hs0 hs5 m1 m12 hms L5 a1 a2 B5 => ?_⟩
    have nps : p ≠ sz := by obtain ⟨o, ho⟩ := L3.here; exact ne_of_none ho hs0
    refine ⟨_, rfl, p, c5, rfl, L5, by omega, fun wy H6 w2 w6 L6 B6 => ⟨_, _, rfl, ?_⟩⟩
    have hs6 := B6 sz _ hs5 nps.symm
    have s6 : Same H H6 := keep (keep (s2.trans s3) B5) B6
    obtain ⟨wn, rfl⟩ : ∃ wn : Nat, wy = wn := ⟨wy.toNat, by omega⟩
    refine ⟨_, rfl, _, rfl, _, rfl, p, sz, c5 + 1, wn, ms, rfl, L6, by omega, hs6, nps.symm, m1, m12, w2, w6, fun ts xs c7 H7 hts nts hall hxl L7 a3 a4 B7 => ?_⟩
    have hs7 := B7 sz _ hs6 nps.symm
    have s7 : Same H H7 := keep s6 B7
    refine ⟨ts, rfl, ⟨_, SqL.of hts⟩, ?_⟩
    refine for_list (K := K) (a := ts) (xs := xs) (fun n σ H8 => ∃ w5 w6 w7 : Option V, σ = [some (.ref a), some (.int (0 + (i : Int))), some (.ref p), some (.ref sz), some (.int wn), w5, w6, w7] ∧ Same H7 H8) ⟨_, _, _, rfl, Same.refl _⟩ (fun _ _ _ _ ⟨_, _, _, _, s8⟩ => SqL.of (s8 _ _ hts)) ?_ ?_
    · rintro j x σ H8 hx ⟨w5, w6', w7, rfl, s8⟩
      obtain ⟨d, hd, th⟩ := hall x (List.mem_of_getElem? hx)
      have hd8 := hd.on.mono s8
      have hs8 := s8 _ _ hs7
      obtain ⟨g1, g2, g3, g4⟩ := pair_shown (ns := ms) hms (by omega) th
      refine ⟨_, rfl, _, rfl, (by show 2 ≤ sizeLine; decide), fun e he => ?_⟩
      have se := same_new he (.lst [.ref sz, x])
      have fe : (upd H8 e (.lst [.ref sz, x])) e = some (.lst [.ref sz, x]) := upd_same
      generalize upd H8 e (.lst [.ref sz, x]) = H9 at se fe ⊢
      have hd9 := hd8.mono se
      have hs9 := se _ _ hs8
      refine ⟨_, .list [.list (ms.map PyData.int), d], rfl, .lst (SqL.of fe) (.cons (.lst (SqL.of hs9) (dv_intsK ms)) (.cons hd9.dv .nil)), g1, g2, g3, g4, ?_⟩
      refine ⟨_, rfl, _, rfl, _, rfl, sz, ms, wn, x, d, rfl, hs9, by omega, hd9, by have := th.gd.dp; omega, fun b1 H10 hb1 s10 => ?_⟩
      have hd10 := hd9.mono s10
      have hs10 := s10 _ _ hs9
      have nd := nd_wt d
      have tw := th.wt
      have tl := th.lf
      have td := th.gd.dp
      refine ⟨_, rfl, _, "bool", _, _, rfl, .bl _, k_bl_bl K, _, rfl, iteF ⟨_, rfl, _, rfl, _, rfl, _, rfl, sz, ms, wn, x, d, rfl, hs10, by omega, hd10, th.gd.lay, by omega, by omega, by omega, fun b2 H11 hb2 s11 => ?_⟩⟩
      have eb : b1 = b2 := by
        cases b1 <;> cases b2
        · rfl
        · have := hb1.mpr (hb2.mp rfl); cases this
        · have := hb2.mpr (hb1.mp rfl); cases this
        · rfl
      subst eb
      refine ⟨rfl, _, rfl, ?_⟩
      refine iteNE rfl ?_
      have hd11 := hd10.mono s11
      have hs11 := s11 _ _ hs10
      refine ⟨_, rfl, _, rfl, (by show 2 ≤ sizeLine; decide), fun e2 he2 => ?_⟩
      have se2 := same_new he2 (.lst [.ref sz, x])
      have fe2 : (upd H11 e2 (.lst [.ref sz, x])) e2 = some (.lst [.ref sz, x]) := upd_same
      generalize upd H11 e2 (.lst [.ref sz, x]) = H12 at se2 fe2 ⊢
      refine ⟨_, .list [.list (ms.map PyData.int), d], rfl, .lst (SqL.of fe2) (.cons (.lst (SqL.of (se2 _ _ hs11)) (dv_intsK ms)) (.cons (hd11.mono se2).dv .nil)), g1, g2, g3, g4, ?_⟩
      exact ⟨_, rfl, rfl, _, rfl, iteNS rfl ⟨_, _, _, rfl, s8.trans (se.trans (s10.trans (s11.trans se2)))⟩⟩
    · rintro σ H8 ⟨w5, w6', w7, rfl, s8⟩
      exact ⟨_, _, _, _, _, _, _, rfl, s7.trans s8⟩
  · rintro σ H2 ⟨v1, v2, v3, v4, v5, v6, v7, rfl, s2⟩
    refine ⟨(by show 1 ≤ sizeLine; decide), fun e1 he1 => ⟨e1, [0], 2, .int 0, .int 0, rfl, upd_same, by decide, .int 0, by show 0 < 30; decide, fun b1 H3 hb1 s3 => ?_⟩⟩
    have eb1 : b1 = true := hb1.mpr ⟨trivial, by show [(0 : Int)].Nodup; simp, fun k hk => by
      have hk : k ∈ [(0 : Int)] := hk
      rw [List.mem_singleton.mp hk]; exact ⟨by decide, by decide⟩, rfl⟩
    subst eb1
    refine ⟨_, rfl, iteT ⟨(by show 1 ≤ sizeLine; decide), fun e2 he2 => ⟨(by show 1 ≤ sizeLine; decide), fun t2 ht2 => ?_⟩⟩⟩
    refine ⟨e2, [0], 2, .ref t2, .tuple [.int 0], rfl, same_new ht2 _ _ _ upd_same, by decide, .tup upd_same (.cons (.int 0) .nil), by show 0 + 1 < 30; decide, fun b2 H4 hb2 s4 => ?_⟩
    have eb2 : b2 = false := by
      cases b2 with
      | false => rfl
      | true =>
        have z : 2 ≤ 1 := (hb2.mp rfl).1.1
        omega
    subst eb2
    refine ⟨_, rfl, _, rfl, iteT ⟨(by show 2 ≤ sizeLine; decide), fun e3 he3 => ⟨e3, [1, 1], 2, .int 0, .int 0, rfl, upd_same, by decide, .int 0, by show 0 < 30; decide, fun b3 H5 hb3 s5 => ?_⟩⟩⟩
    have eb3 : b3 = false := by
      cases b3 with
      | false => rfl
      | true =>
        have z : 1 = 2 := (hb3.mp rfl).2.2.2
        omega
    subst eb3
    exact ⟨_, rfl, q H5⟩
end
theorem top_mk {K : PySem.W.Frag} {h : Heap} {mg : Str → Option Value} {x : Str} {st : Stmt} {ps : List Str} {f : Addr} {od an : Option Addr} {sl : Array (Option Value)} {oc kV dc pm cd ct : Value} (X : K.In h) (G : h.Ns mainGlobals mg)
    (a : PySem.W.nsIn K mainGlobals x = some (some (.ref f))) (l : K.lookup f = some ⟨oc, od, .func (PySem.W.fnOf x x (defArgs st) (defBody st) (defScope st) .none kV dc pm an cd ct), sl⟩) (c : PySem.W.codeIn K cd x = true) (k : PySem.W.keepIn K (.ref f) = true)
    (hb : ∀ (kV doc pm : Value) (an : Option Addr) (cdv ct : Value) (us : List Value), us.length = ps.length → bindArgs (PySem.W.fnOf x x (defArgs st) (defBody st) (defScope st) .none kV doc pm an cdv ct) ⟨us, []⟩ = pure (ps.zip us)) : Top K mg x st ps :=
  ⟨_, _, fun_mk (st := st) l c k, PySem.W.mg_of X G a, (fun_mk (st := st) l c k).binds hb⟩
theorem us_c {n : Nat} {us : List Value} (h : us.length = n + 1) : ∃ a r, us = a :: r ∧ r.length = n := by
  obtain ⟨a, r, rfl⟩ := List.exists_cons_of_length_eq_add_one h
  exact ⟨a, r, rfl, Nat.succ.inj h⟩
theorem us_1 (us : List Value) (h : us.length = 1) : ∃ a0, us = [a0] := List.length_eq_one_iff.mp h
theorem us_2 (us : List Value) (h : us.length = 2) : ∃ a0 a1, us = [a0, a1] := by
  obtain ⟨a, r, rfl, g⟩ := us_c h
  obtain ⟨b0, rfl⟩ := us_1 r g
  exact ⟨a, b0, rfl⟩
theorem us_3 (us : List Value) (h : us.length = 3) : ∃ a0 a1 a2, us = [a0, a1, a2] := by
  obtain ⟨a, r, rfl, g⟩ := us_c h
  obtain ⟨b0, b1, rfl⟩ := us_2 r g
  exact ⟨a, b0, b1, rfl⟩
theorem us_4 (us : List Value) (h : us.length = 4) : ∃ a0 a1 a2 a3, us = [a0, a1, a2, a3] := by
  obtain ⟨a, r, rfl, g⟩ := us_c h
  obtain ⟨b0, b1, b2, rfl⟩ := us_3 r g
  exact ⟨a, b0, b1, b2, rfl⟩
theorem all_mk {l : PySem.W.OpenLaw} {w : World} {K : PySem.W.Frag} {h : Heap} {mg : Str → Option Value} {fa : Addr} (X : K.In h) (G : h.Ns mainGlobals mg) (hfa : mg "law" = some (.ref fa))
    {f0 : Addr} {od0 an0 : Option Addr} {sl0 : Array (Option Value)} {oc0 kV0 dc0 pm0 cd0 ct0 : Value}
    {f1 : Addr} {od1 an1 : Option Addr} {sl1 : Array (Option Value)} {oc1 kV1 dc1 pm1 cd1 ct1 : Value}
    {f2 : Addr} {od2 an2 : Option Addr} {sl2 : Array (Option Value)} {oc2 kV2 dc2 pm2 cd2 ct2 : Value}
    {f3 : Addr} {od3 an3 : Option Addr} {sl3 : Array (Option Value)} {oc3 kV3 dc3 pm3 cd3 ct3 : Value}
    {f4 : Addr} {od4 an4 : Option Addr} {sl4 : Array (Option Value)} {oc4 kV4 dc4 pm4 cd4 ct4 : Value}
    {f5 : Addr} {od5 an5 : Option Addr} {sl5 : Array (Option Value)} {oc5 kV5 dc5 pm5 cd5 ct5 : Value}
    {f6 : Addr} {od6 an6 : Option Addr} {sl6 : Array (Option Value)} {oc6 kV6 dc6 pm6 cd6 ct6 : Value}
    {f7 : Addr} {od7 an7 : Option Addr} {sl7 : Array (Option Value)} {oc7 kV7 dc7 pm7 cd7 ct7 : Value}
    {f8 : Addr} {od8 an8 : Option Addr} {sl8 : Array (Option Value)} {oc8 kV8 dc8 pm8 cd8 ct8 : Value}
    {f9 : Addr} {od9 an9 : Option Addr} {sl9 : Array (Option Value)} {oc9 kV9 dc9 pm9 cd9 ct9 : Value}
    {f10 : Addr} {od10 an10 : Option Addr} {sl10 : Array (Option Value)} {oc10 kV10 dc10 pm10 cd10 ct10 : Value}
    {f11 : Addr} {od11 an11 : Option Addr} {sl11 : Array (Option Value)} {oc11 kV11 dc11 pm11 cd11 ct11 : Value}
    {f12 : Addr} {od12 an12 : Option Addr} {sl12 : Array (Option Value)} {oc12 kV12 dc12 pm12 cd12 ct12 : Value}
    {f13 : Addr} {od13 an13 : Option Addr} {sl13 : Array (Option Value)} {oc13 kV13 dc13 pm13 cd13 ct13 : Value}
    {f14 : Addr} {od14 an14 : Option Addr} {sl14 : Array (Option Value)} {oc14 kV14 dc14 pm14 cd14 ct14 : Value}
    {f15 : Addr} {od15 an15 : Option Addr} {sl15 : Array (Option Value)} {oc15 kV15 dc15 pm15 cd15 ct15 : Value}
    {f16 : Addr} {od16 an16 : Option Addr} {sl16 : Array (Option Value)} {oc16 kV16 dc16 pm16 cd16 ct16 : Value}
    (a0 : PySem.W.nsIn K mainGlobals "is_number" = some (some (.ref f0))) (l0 : K.lookup f0 = some ⟨oc0, od0, .func (PySem.W.fnOf "is_number" "is_number" (defArgs st_is_number) (defBody st_is_number) (defScope st_is_number) .none kV0 dc0 pm0 an0 cd0 ct0), sl0⟩) (c0 : PySem.W.codeIn K cd0 "is_number" = true) (k0 : PySem.W.keepIn K (.ref f0) = true)
    (a1 : PySem.W.nsIn K mainGlobals "is_plan" = some (some (.ref f1))) (l1 : K.lookup f1 = some ⟨oc1, od1, .func (PySem.W.fnOf "is_plan" "is_plan" (defArgs st_is_plan) (defBody st_is_plan) (defScope st_is_plan) .none kV1 dc1 pm1 an1 cd1 ct1), sl1⟩) (c1 : PySem.W.codeIn K cd1 "is_plan" = true) (k1 : PySem.W.keepIn K (.ref f1) = true)
    (a2 : PySem.W.nsIn K mainGlobals "finds_rows" = some (some (.ref f2))) (l2 : K.lookup f2 = some ⟨oc2, od2, .func (PySem.W.fnOf "finds_rows" "finds_rows" (defArgs st_finds_rows) (defBody st_finds_rows) (defScope st_finds_rows) .none kV2 dc2 pm2 an2 cd2 ct2), sl2⟩) (c2 : PySem.W.codeIn K cd2 "finds_rows" = true) (k2 : PySem.W.keepIn K (.ref f2) = true)
    (a3 : PySem.W.nsIn K mainGlobals "_law_mix" = some (some (.ref f3))) (l3 : K.lookup f3 = some ⟨oc3, od3, .func (PySem.W.fnOf "_law_mix" "_law_mix" (defArgs st_l_mix) (defBody st_l_mix) (defScope st_l_mix) .none kV3 dc3 pm3 an3 cd3 ct3), sl3⟩) (c3 : PySem.W.codeIn K cd3 "_law_mix" = true) (k3 : PySem.W.keepIn K (.ref f3) = true)
    (a4 : PySem.W.nsIn K mainGlobals "_law_left" = some (some (.ref f4))) (l4 : K.lookup f4 = some ⟨oc4, od4, .func (PySem.W.fnOf "_law_left" "_law_left" (defArgs st_l_left) (defBody st_l_left) (defScope st_l_left) .none kV4 dc4 pm4 an4 cd4 ct4), sl4⟩) (c4 : PySem.W.codeIn K cd4 "_law_left" = true) (k4 : PySem.W.keepIn K (.ref f4) = true)
    (a5 : PySem.W.nsIn K mainGlobals "_law_pick" = some (some (.ref f5))) (l5 : K.lookup f5 = some ⟨oc5, od5, .func (PySem.W.fnOf "_law_pick" "_law_pick" (defArgs st_l_pick) (defBody st_l_pick) (defScope st_l_pick) .none kV5 dc5 pm5 an5 cd5 ct5), sl5⟩) (c5 : PySem.W.codeIn K cd5 "_law_pick" = true) (k5 : PySem.W.keepIn K (.ref f5) = true)
    (a6 : PySem.W.nsIn K mainGlobals "_law_many" = some (some (.ref f6))) (l6 : K.lookup f6 = some ⟨oc6, od6, .func (PySem.W.fnOf "_law_many" "_law_many" (defArgs st_l_many) (defBody st_l_many) (defScope st_l_many) .none kV6 dc6 pm6 an6 cd6 ct6), sl6⟩) (c6 : PySem.W.codeIn K cd6 "_law_many" = true) (k6 : PySem.W.keepIn K (.ref f6) = true)
    (a7 : PySem.W.nsIn K mainGlobals "_law_sizes" = some (some (.ref f7))) (l7 : K.lookup f7 = some ⟨oc7, od7, .func (PySem.W.fnOf "_law_sizes" "_law_sizes" (defArgs st_l_sizes) (defBody st_l_sizes) (defScope st_l_sizes) .none kV7 dc7 pm7 an7 cd7 ct7), sl7⟩) (c7 : PySem.W.codeIn K cd7 "_law_sizes" = true) (k7 : PySem.W.keepIn K (.ref f7) = true)
    (a8 : PySem.W.nsIn K mainGlobals "_law_ways" = some (some (.ref f8))) (l8 : K.lookup f8 = some ⟨oc8, od8, .func (PySem.W.fnOf "_law_ways" "_law_ways" (defArgs st_l_ways) (defBody st_l_ways) (defScope st_l_ways) .none kV8 dc8 pm8 an8 cd8 ct8), sl8⟩) (c8 : PySem.W.codeIn K cd8 "_law_ways" = true) (k8 : PySem.W.keepIn K (.ref f8) = true)
    (a9 : PySem.W.nsIn K mainGlobals "_law_joined" = some (some (.ref f9))) (l9 : K.lookup f9 = some ⟨oc9, od9, .func (PySem.W.fnOf "_law_joined" "_law_joined" (defArgs st_l_joined) (defBody st_l_joined) (defScope st_l_joined) .none kV9 dc9 pm9 an9 cd9 ct9), sl9⟩) (c9 : PySem.W.codeIn K cd9 "_law_joined" = true) (k9 : PySem.W.keepIn K (.ref f9) = true)
    (a10 : PySem.W.nsIn K mainGlobals "_law_mixed" = some (some (.ref f10))) (l10 : K.lookup f10 = some ⟨oc10, od10, .func (PySem.W.fnOf "_law_mixed" "_law_mixed" (defArgs st_l_mixed) (defBody st_l_mixed) (defScope st_l_mixed) .none kV10 dc10 pm10 an10 cd10 ct10), sl10⟩) (c10 : PySem.W.codeIn K cd10 "_law_mixed" = true) (k10 : PySem.W.keepIn K (.ref f10) = true)
    (a11 : PySem.W.nsIn K mainGlobals "_law_is_plan" = some (some (.ref f11))) (l11 : K.lookup f11 = some ⟨oc11, od11, .func (PySem.W.fnOf "_law_is_plan" "_law_is_plan" (defArgs st_l_is_plan) (defBody st_l_is_plan) (defScope st_l_is_plan) .none kV11 dc11 pm11 an11 cd11 ct11), sl11⟩) (c11 : PySem.W.codeIn K cd11 "_law_is_plan" = true) (k11 : PySem.W.keepIn K (.ref f11) = true)
    (a12 : PySem.W.nsIn K mainGlobals "_law_put" = some (some (.ref f12))) (l12 : K.lookup f12 = some ⟨oc12, od12, .func (PySem.W.fnOf "_law_put" "_law_put" (defArgs st_l_put) (defBody st_l_put) (defScope st_l_put) .none kV12 dc12 pm12 an12 cd12 ct12), sl12⟩) (c12 : PySem.W.codeIn K cd12 "_law_put" = true) (k12 : PySem.W.keepIn K (.ref f12) = true)
    (a13 : PySem.W.nsIn K mainGlobals "_law_spoilt" = some (some (.ref f13))) (l13 : K.lookup f13 = some ⟨oc13, od13, .func (PySem.W.fnOf "_law_spoilt" "_law_spoilt" (defArgs st_l_spoilt) (defBody st_l_spoilt) (defScope st_l_spoilt) .none kV13 dc13 pm13 an13 cd13 ct13), sl13⟩) (c13 : PySem.W.codeIn K cd13 "_law_spoilt" = true) (k13 : PySem.W.keepIn K (.ref f13) = true)
    (a14 : PySem.W.nsIn K mainGlobals "_law_deep" = some (some (.ref f14))) (l14 : K.lookup f14 = some ⟨oc14, od14, .func (PySem.W.fnOf "_law_deep" "_law_deep" (defArgs st_l_deep) (defBody st_l_deep) (defScope st_l_deep) .none kV14 dc14 pm14 an14 cd14 ct14), sl14⟩) (c14 : PySem.W.codeIn K cd14 "_law_deep" = true) (k14 : PySem.W.keepIn K (.ref f14) = true)
    (a15 : PySem.W.nsIn K mainGlobals "_law_things" = some (some (.ref f15))) (l15 : K.lookup f15 = some ⟨oc15, od15, .func (PySem.W.fnOf "_law_things" "_law_things" (defArgs st_l_things) (defBody st_l_things) (defScope st_l_things) .none kV15 dc15 pm15 an15 cd15 ct15), sl15⟩) (c15 : PySem.W.codeIn K cd15 "_law_things" = true) (k15 : PySem.W.keepIn K (.ref f15) = true)
    (a16 : PySem.W.nsIn K mainGlobals "law" = some (some (.ref f16))) (l16 : K.lookup f16 = some ⟨oc16, od16, .func (PySem.W.fnOf "law" "law" (defArgs st_law) (defBody st_law) (defScope st_law) .none kV16 dc16 pm16 an16 cd16 ct16), sl16⟩) (c16 : PySem.W.codeIn K cd16 "law" = true) (k16 : PySem.W.keepIn K (.ref f16) = true)
    (z0 : PySem.W.nsIn K mainGlobals "abs" = some none) (z1 : PySem.W.nsIn K mainGlobals "bool" = some none) (z2 : PySem.W.nsIn K mainGlobals "int" = some none) (z3 : PySem.W.nsIn K mainGlobals "isinstance" = some none) (z4 : PySem.W.nsIn K mainGlobals "len" = some none) (z5 : PySem.W.nsIn K mainGlobals "list" = some none) (z6 : PySem.W.nsIn K mainGlobals "max" = some none) (z7 : PySem.W.nsIn K mainGlobals "min" = some none) (z8 : PySem.W.nsIn K mainGlobals "range" = some none) (z9 : PySem.W.nsIn K mainGlobals "sorted" = some none) (z10 : PySem.W.nsIn K mainGlobals "str" = some none) (z11 : PySem.W.nsIn K mainGlobals "tuple" = some none) :
    ∃ fd : FuncData, (∀ (s : Shared) (v : Value), BindsTo s fd ⟨[v], []⟩ [("_law_script", v)]) ∧ ∀ base : Heap, K.In base → base.Ns mainGlobals mg → FnOk l.prog w K mg base CX0 65 fa fd ["_law_script"] (spLaw K) := by
  have e := hfa.symm.trans (PySem.W.mg_of X G a16)
  cases e
  have T : Tops K mg := ⟨⟨PySem.W.mg_none_of X G z0, PySem.W.mg_none_of X G z1, PySem.W.mg_none_of X G z2, PySem.W.mg_none_of X G z3, PySem.W.mg_none_of X G z4, PySem.W.mg_none_of X G z5, PySem.W.mg_none_of X G z6, PySem.W.mg_none_of X G z7, PySem.W.mg_none_of X G z8, PySem.W.mg_none_of X G z9, PySem.W.mg_none_of X G z10, PySem.W.mg_none_of X G z11⟩, top_mk X G a0 l0 c0 k0 (fun _ _ _ _ _ _ us hl => by obtain ⟨_, rfl⟩ := us_1 us hl; exact rfl), top_mk X G a1 l1 c1 k1 (fun _ _ _ _ _ _ us hl => by obtain ⟨_, _, _, rfl⟩ := us_3 us hl; exact rfl), top_mk X G a2 l2 c2 k2 (fun _ _ _ _ _ _ us hl => by obtain ⟨_, _, _, _, rfl⟩ := us_4 us hl; exact rfl), top_mk X G a3 l3 c3 k3 (fun _ _ _ _ _ _ us hl => by obtain ⟨_, _, rfl⟩ := us_2 us hl; exact rfl), top_mk X G a4 l4 c4 k4 (fun _ _ _ _ _ _ us hl => by obtain ⟨_, _, rfl⟩ := us_2 us hl; exact rfl), top_mk X G a5 l5 c5 k5 (fun _ _ _ _ _ _ us hl => by obtain ⟨_, _, rfl⟩ := us_2 us hl; exact rfl), top_mk X G a6 l6 c6 k6 (fun _ _ _ _ _ _ us hl => by obtain ⟨_, rfl⟩ := us_1 us hl; exact rfl), top_mk X G a7 l7 c7 k7 (fun _ _ _ _ _ _ us hl => by obtain ⟨_, _, rfl⟩ := us_2 us hl; exact rfl), top_mk X G a8 l8 c8 k8 (fun _ _ _ _ _ _ us hl => by obtain ⟨_, rfl⟩ := us_1 us hl; exact rfl), top_mk X G a9 l9 c9 k9 (fun _ _ _ _ _ _ us hl => by obtain ⟨_, _, _, rfl⟩ := us_3 us hl; exact rfl), top_mk X G a10 l10 c10 k10 (fun _ _ _ _ _ _ us hl => by obtain ⟨_, _, rfl⟩ := us_2 us hl; exact rfl), top_mk X G a11 l11 c11 k11 (fun _ _ _ _ _ _ us hl => by obtain ⟨_, _, _, rfl⟩ := us_3 us hl; exact rfl), top_mk X G a12 l12 c12 k12 (fun _ _ _ _ _ _ us hl => by obtain ⟨_, _, _, rfl⟩ := us_3 us hl; exact rfl), top_mk X G a13 l13 c13 k13 (fun _ _ _ _ _ _ us hl => by obtain ⟨_, _, _, rfl⟩ := us_3 us hl; exact rfl), top_mk X G a14 l14 c14 k14 (fun _ _ _ _ _ _ us hl => by obtain ⟨_, _, rfl⟩ := us_2 us hl; exact rfl), top_mk X G a15 l15 c15 k15 (fun _ _ _ _ _ _ us hl => by obtain ⟨_, _, _, rfl⟩ := us_3 us hl; exact rfl)⟩
  exact ⟨PySem.W.fnOf "law" "law" (defArgs st_law) (defBody st_law) (defScope st_law) .none kV16 dc16 pm16 an16 cd16 ct16, fun s v => .of_eq rfl, fun base _ _ => ok_law (fun_mk (st := st_law) l16 c16 k16) T⟩
theorem walk {l : PySem.W.OpenLaw} {q : Program} {loose : List Str} {XP : (Str → Option Value) → Heap → Prop} {YP : World → Heap → Prop} {d : DefRec} {K : Params → PySem.W.Frag} (hn : l.most = some 63) (hdf : d.params.defaults = [])
    (hY : ∀ (w : World) (h : Heap), YP w h → (K w.params).In h)
    (F : ∀ (w : World) (mg : Str → Option Value) (fa : Addr) (h : Heap), (K w.params).In h → h.Ns mainGlobals mg → mg d.name = some (.ref fa) →
      ∃ fd : FuncData, (∀ (s : Shared) (u : Value), BindsTo s fd ⟨[u], []⟩ [("_law_script", u)]) ∧ ∀ base : Heap, (K w.params).In base → base.Ns mainGlobals mg → FnOk l.prog w (K w.params) mg base CX0 65 fa fd ["_law_script"] (spLaw (K w.params))) :
    PySem.W.WalkO q loose XP YP l.row.toRowW d [] (fun f vs => PySem.call f vs) :=
  L2.walk_of (n := 63) (k := 65) (x := "_law_script") (CX := fun _ => CX0) (sp := fun w => spLaw (K w.params)) hn (by decide) hdf ⟨rfl, by decide, by decide, rfl⟩ hY F (fun _ _ a ns hl _ hS => ⟨a, ns, rfl, hS, hl, fun _ => rfl⟩) fun _ _ _ _ _ z => z
end My
open PySem PySem.W PyProof.Rows
set_option maxRecDepth 100000 in
set_option maxHeartbeats 0 in
theorem PySem.Challenge.cw_mergetree_k37_what_is_a_tree_holds : PySem.Challenge.rw_mergetree_k37_what_is_a_tree.Holds := by
  w_on; o_law; k_head; (case hw => w_witness2)
  k_fill
  refine My.walk (l := PySem.Challenge.rw_mergetree_k37_what_is_a_tree) rfl rfl (fun w h Y => PySem.W.kIn_of Y) ?F
  case F =>
    intro w mg fa h KX G hmg
    refine' My.all_mk KX G hmg ?a0 ?l0 ?c0 ?k0 ?a1 ?l1 ?c1 ?k1 ?a2 ?l2 ?c2 ?k2 ?a3 ?l3 ?c3 ?k3 ?a4 ?l4 ?c4 ?k4 ?a5 ?l5 ?c5 ?k5 ?a6 ?l6 ?c6 ?k6 ?a7 ?l7 ?c7 ?k7 ?a8 ?l8 ?c8 ?k8 ?a9 ?l9 ?c9 ?k9 ?a10 ?l10 ?c10 ?k10 ?a11 ?l11 ?c11 ?k11 ?a12 ?l12 ?c12 ?k12 ?a13 ?l13 ?c13 ?k13 ?a14 ?l14 ?c14 ?k14 ?a15 ?l15 ?c15 ?k15 ?a16 ?l16 ?c16 ?k16 ?z0 ?z1 ?z2 ?z3 ?z4 ?z5 ?z6 ?z7 ?z8 ?z9 ?z10 ?z11
    (case a0 => k_is); (case l0 => k_is); (case c0 => k_is); (case k0 => k_is)
    (case a1 => k_is); (case l1 => k_is); (case c1 => k_is); (case k1 => k_is)
    (case a2 => k_is); (case l2 => k_is); (case c2 => k_is); (case k2 => k_is)
    (case a3 => k_is); (case l3 => k_is); (case c3 => k_is); (case k3 => k_is)
    (case a4 => k_is); (case l4 => k_is); (case c4 => k_is); (case k4 => k_is)
    (case a5 => k_is); (case l5 => k_is); (case c5 => k_is); (case k5 => k_is)
    (case a6 => k_is); (case l6 => k_is); (case c6 => k_is); (case k6 => k_is)
    (case a7 => k_is); (case l7 => k_is); (case c7 => k_is); (case k7 => k_is)
    (case a8 => k_is); (case l8 => k_is); (case c8 => k_is); (case k8 => k_is)
    (case a9 => k_is); (case l9 => k_is); (case c9 => k_is); (case k9 => k_is)
    (case a10 => k_is); (case l10 => k_is); (case c10 => k_is); (case k10 => k_is)
    (case a11 => k_is); (case l11 => k_is); (case c11 => k_is); (case k11 => k_is)
    (case a12 => k_is); (case l12 => k_is); (case c12 => k_is); (case k12 => k_is)
    (case a13 => k_is); (case l13 => k_is); (case c13 => k_is); (case k13 => k_is)
    (case a14 => k_is); (case l14 => k_is); (case c14 => k_is); (case k14 => k_is)
    (case a15 => k_is); (case l15 => k_is); (case c15 => k_is); (case k15 => k_is)
    (case a16 => k_is); (case l16 => k_is); (case c16 => k_is); (case k16 => k_is)
    (case z0 => k_is)
    (case z1 => k_is)
    (case z2 => k_is)
    (case z3 => k_is)
    (case z4 => k_is)
    (case z5 => k_is)
    (case z6 => k_is)
    (case z7 => k_is)
    (case z8 => k_is)
    (case z9 => k_is)
    (case z10 => k_is)
    (case z11 => k_is)
