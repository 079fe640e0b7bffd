import PyProof.Rows.All
import Wide.All
import OpenK.AllK
import Wide.FinOn
import Lean
import PyProof.EqAt
import PyProof.EqKinds
import PyProof.TupleCall
import PyProof.AttrMissHeap
import KE.KEqDict
import KE.KItemsList
import PyProof.WalksMore
import PyProof.TupleOfStr
import PySem.Challenge.RW_mergetree_k69_whole_free_beside_all_tree
set_option Elab.async false
set_option linter.all false
set_option maxRecDepth 100000
namespace L2
open PySem PySem.Spec PyProof.Rows
abbrev Key := Sum Int Str
def keyIs : Key → Value → Bool
  | .inl k, v => Value.isInt k v
  | .inr x, v => Value.isStrOf x v
def keyH (w : World) : Key → Int
  | .inl k => hashInt k
  | .inr x => hashStr w x
theorem keyIs_shape : ∀ {k : Key} {v : Value}, keyIs k v = true → (∃ i t, k = Sum.inl i ∧ v = Value.int i t) ∨ (∃ x t, k = Sum.inr x ∧ v = Value.str x t)
  | .inl i, v, h => by
    obtain ⟨t, e⟩ := Value.isInt_shape (k := i) (v := v) h
    exact .inl ⟨i, t, rfl, e⟩
  | .inr x, v, h => by
    obtain ⟨t, e⟩ := Value.isStrOf_shape (x := x) (v := v) h
    exact .inr ⟨x, t, rfl, e⟩
theorem keyIs_int (i : Int) (t : Tok) : keyIs (.inl i) (.int i t) = true := by simp [keyIs, Value.isInt]
theorem keyIs_str (x : Str) (t : Tok) : keyIs (.inr x) (.str x t) = true := by simp [keyIs, Value.isStrOf]
theorem key_ll (a b : Int) : decide ((Sum.inl a : Key) = Sum.inl b) = (a == b) := by
  by_cases e : a = b
  · subst e; simp
  · have h : ¬ (Sum.inl a : Key) = Sum.inl b := fun q => e (Sum.inl.inj q)
    rw [decide_eq_false h]
    exact (beq_eq_false_iff_ne.mpr e).symm
theorem key_rr (a b : Str) : decide ((Sum.inr a : Key) = Sum.inr b) = decide (a = b) := by
  by_cases e : a = b
  · subst e; simp
  · have h : ¬ (Sum.inr a : Key) = Sum.inr b := fun q => e (Sum.inr.inj q)
    rw [decide_eq_false h, decide_eq_false e]
theorem key_lr (a : Int) (b : Str) : decide ((Sum.inl a : Key) = Sum.inr b) = false := decide_eq_false (fun q => nomatch q)
theorem key_rl (a : Str) (b : Int) : decide ((Sum.inr a : Key) = Sum.inl b) = false := decide_eq_false (fun q => nomatch q)
def mixKind (prog : Program) (w : World) : PySem.KeyKind prog w Key where
  is := keyIs
  hash := keyH w
  inj := fun v a b ha hb => by
    rcases keyIs_shape ha with ⟨i, t, rfl, rfl⟩ | ⟨x, t, rfl, rfl⟩
    · rcases keyIs_shape hb with ⟨j, u, rfl, e⟩ | ⟨y, u, rfl, e⟩
      · injection e with e1 _; rw [e1]
      · exact nomatch e
    · rcases keyIs_shape hb with ⟨j, u, rfl, e⟩ | ⟨y, u, rfl, e⟩
      · exact nomatch e
      · injection e with e1 _; rw [e1]
  byValue := fun k v h => by
    rcases keyIs_shape h with ⟨i, t, rfl, rfl⟩ | ⟨x, t, rfl, rfl⟩ <;> rfl
  pyHash := fun hv h => by
    rcases keyIs_shape hv with ⟨i, t, rfl, rfl⟩ | ⟨x, t, rfl, rfl⟩
    · exact wpAny_pyHash_int h
    · exact wpAny_pyHash_str h
  eqBool := fun hu hv h => by
    rcases keyIs_shape hu with ⟨i, t, rfl, rfl⟩ | ⟨x, t, rfl, rfl⟩
    · rcases keyIs_shape hv with ⟨j, u, rfl, rfl⟩ | ⟨y, u, rfl, rfl⟩
      · rw [key_ll] at h; exact wpAny_eqBool_int h
      · rw [key_lr] at h; exact SeqAt.EqAt.int_str i t y u _ _ _ _ h
    · rcases keyIs_shape hv with ⟨j, u, rfl, rfl⟩ | ⟨y, u, rfl, rfl⟩
      · rw [key_rl] at h; exact SeqAt.EqAt.str_int x t j u _ _ _ _ h
      · rw [key_rr] at h; exact wpAny_eqBool_str h
  «strs» := fun k x t v h => by
    rcases keyIs_shape h with ⟨i, u, rfl, e⟩ | ⟨y, u, rfl, e⟩
    · exact nomatch e
    · injection e with e1 _
      subst e1
      cases v <;> rfl
theorem mixKind_is (prog : Program) (w : World) (k : Key) (v : Value) : (mixKind prog w).is k v = keyIs k v := rfl
theorem mixKind_int (prog : Program) (w : World) (i : Int) (t : Tok) : (mixKind prog w).is (.inl i) (.int i t) = true := keyIs_int i t
theorem mixKind_str (prog : Program) (w : World) (x : Str) (t : Tok) : (mixKind prog w).is (.inr x) (.str x t) = true := keyIs_str x t
end L2
namespace L2
open PySem PySem.Spec PyProof.Rows
inductive V where
  | non | bl (b : Bool) | int (i : Int) | str (x : Str) | byt (b : Array UInt8) | flt (b : UInt64) | ref (a : Addr) | ty (n : String)
  deriving DecidableEq
def RelV : V → Value → Prop
  | .non, u => u = Value.none
  | .bl b, u => u = Value.bool b
  | .int i, u => ∃ t, u = Value.int i t
  | .str x, u => ∃ t, u = Value.str x t
  | .byt b, u => ∃ t, u = Value.bytes b t
  | .flt b, u => ∃ t, u = Value.float b t
  | .ref a, u => u = Value.ref a
  | .ty n, u => u = Value.type n
abbrev Vals : List V → List Value → Prop := Paired RelV
theorem Vals.length {xs : List V} {us : List Value} (r : Vals xs us) : xs.length = us.length := Paired.length r
theorem Vals.get : ∀ {xs : List V} {us : List Value} {i : Nat} {x : V}, Vals xs us → xs[i]? = some x → ∃ u, us[i]? = some u ∧ RelV x u
  | _, _, _, _, .nil, e => by simp at e
  | _, _, 0, _, .cons r _, e => by simp at e; subst e; exact ⟨_, rfl, r⟩
  | _, _, i + 1, x, .cons _ t, e => by
    obtain ⟨u, h1, h2⟩ := Vals.get (i := i) (x := x) t (by simpa using e)
    exact ⟨u, by simpa using h1, h2⟩
theorem Vals.set {x : V} {u : Value} (r : RelV x u) : ∀ {xs : List V} {us : List Value} (i : Nat), Vals xs us → Vals (xs.set i x) (us.set i u)
  | _, _, _, .nil => .nil
  | _, _, 0, .cons _ t => .cons r t
  | _, _, i + 1, .cons q t => .cons q (Vals.set r i t)
theorem Vals.append : ∀ {xs ys : List V} {us ws : List Value}, Vals xs us → Vals ys ws → Vals (xs ++ ys) (us ++ ws)
  | _, _, _, _, .nil, s => s
  | _, _, _, _, .cons r t, s => .cons r (Vals.append t s)
theorem Vals.take : ∀ {xs : List V} {us : List Value} (n : Nat), Vals xs us → Vals (xs.take n) (us.take n)
  | _, _, 0, _ => .nil
  | _, _, _ + 1, .nil => .nil
  | _, _, n + 1, .cons r t => .cons r (Vals.take n t)
theorem Vals.drop : ∀ {xs : List V} {us : List Value} (n : Nat), Vals xs us → Vals (xs.drop n) (us.drop n)
  | _, _, 0, r => r
  | _, _, _ + 1, .nil => .nil
  | _, _, n + 1, .cons _ t => Vals.drop n t
def RelO : Option V → Option Value → Prop
  | some v, some u => RelV v u
  | none, none => True
  | _, _ => False
def KV {κ : Type} : List (κ × V) → List (κ × Value) → Prop := Paired fun (p : κ × V) (q : κ × Value) => p.1 = q.1 ∧ RelV p.2 q.2
def kV : Key → V
  | .inl i => .int i
  | .inr x => .str x
inductive HO where
  /-- a list -/
  | lst (xs : List V)
  /-- a tuple (never changes) -/
  | tup (xs : List V)
  /-- a dict whose keys are ints and texts; one whose keys are tuples of ints and texts (the empty one is both) -/
  | dK (kvs : List (Key × V)) | dT (kvs : List (List Key × V))
  /-- a set of ints: its members, its size -/
  | set (S : Int → Bool) (n : Nat)
  /-- an instance of the class at C, its dict at dx, its attributes -/
  | ins (C dx : Addr) (fs : List (Str × V))
  /-- the dict of the instance at x -/
  | own (x : Addr)
  /-- the dict of an exception -/
  | xd (fs : List (Str × V))
  /-- a bound method, f of x -/
  | met (f x : Addr)
  /-- a range object lo, lo + 1, .. below hi -/
  | rng (lo hi : Int)
  /-- a thing that is known to the object (the script; a dict while a loop walks it): read, never written while it is so -/
  | frz (o : Obj) (u : HO)
  /-- a code object's table -/
  | tbl (ps : Array Value)
  /-- any other thing, by what is true of its one object (a def of one's own: SetO a S n := HO.ext fun h => ..) -/
  | ext (φ : Heap → Prop)
abbrev Hp := Addr → Option HO
def upd (H : Hp) (a : Addr) (o : HO) : Hp := fun b => if b = a then some o else H b
theorem upd_same {H : Hp} {a : Addr} {o : HO} : upd H a o a = some o := by unfold upd; rw [if_pos rfl]
theorem upd_ne {H : Hp} {a b : Addr} {o : HO} (h : b ≠ a) : upd H a o b = H b := by unfold upd; rw [if_neg h]
theorem ne_of {H : Hp} {a b : Addr} {o u : HO} (h : H a = some o) (h' : H b = some u) (d : o ≠ u) : a ≠ b := by
  intro e; subst e; rw [h] at h'; exact d (Option.some.inj h')
theorem ne_of_none {H : Hp} {a b : Addr} {o : HO} (h : H a = some o) (h' : H b = none) : a ≠ b := by
  intro e; subst e; rw [h] at h'; cases h'
section
variable (P : Program) (w : World)
def ObjOk (H : Hp) (h : Heap) (a : Addr) : HO → Prop
  | .lst xs => xs.length ≤ sizeLine ∧ ∃ (its : List Value) (n : Nat), Vals xs its ∧ h.get? a = some { cls := .type "list", data := .seq its.toArray n }
  | .tup xs => xs.length ≤ sizeLine ∧ ∃ its : List Value, Vals xs its ∧ IsTup h a its.toArray
  | .dK kvs => kvs.length ≤ sizeLine ∧ (a == sysModules) = false ∧ ∃ vs, KV kvs vs ∧ h.DictOf (mixKind P w) a vs
  | .dT kvs => kvs.length ≤ sizeLine ∧ (a == sysModules) = false ∧ ∃ xs : List (List Key × Addr × Value),
      Paired (fun (p : List Key × V) (q : List Key × Addr × Value) => p.1 = q.1 ∧ H q.2.1 = some (.tup (p.1.map kV)) ∧ RelV p.2 q.2.2) kvs xs ∧
      ∃ o es ep, h.get? a = some o ∧ o.ExactDict ∧ o.data = .dict es ep ∧ es.toList = xs.map (entryOfKey (tupleKind (mixKind P w))) ∧ (xs.map (·.1)).Nodup
  | .set S n => h.SetOf (intKind P w) a S n
  | .ins C dx fs => H dx = some (.own a) ∧ fs.length ≤ 1000 ∧ dx ≠ a ∧ h.get? a = some (PySem.W.instObj C dx) ∧
      ∃ mA, h.Ns1 dx mA ∧ (∀ f, RelO (fs.lookup f) (mA f)) ∧ PySem.Within mA (fs.map (·.1))
  | .own _ => ∃ o, h.get? a = some o
  | .xd fs => ∃ mA, h.Ns1 a mA ∧ ∀ f, RelO (fs.lookup f) (mA f)
  | .rng lo hi => ∃ t u v, h.get? a = some { cls := .type "range", data := .fields #[.int lo t, .int hi u, .int 1 v] }
  | .frz o u => h.get? a = some o ∧ ObjOk H h a u
  | .tbl ps => h.get? a = some { cls := .none, data := .fields ps }
  | .met f x => h.get? a = some (PySem.W.methodObj (.ref f) (.ref x))
  | .ext φ => φ h ∧ (∃ o, h.get? a = some o) ∧ ∀ h1 h2 : Heap, φ h1 → (∀ o, h1.get? a = some o → h2.get? a = some o) → φ h2
def HOk (H : Hp) (h : Heap) : Prop := ∀ a o, H a = some o → ObjOk P w H h a o
end
section
variable {P : Program} {w : World} {H H' : Hp} {h h' : Heap} {a : Addr} {o : HO}
theorem ObjOk.lt (x : ObjOk P w H h a o) : a < h.objs.size := by
  cases o with
  | lst xs => obtain ⟨_, _, _, _, e⟩ := x; exact Heap.lt_size e
  | tup xs => obtain ⟨_, _, _, p⟩ := x; exact p.lt
  | dK kvs => obtain ⟨_, _, _, _, o, _, _, e, _⟩ := x; exact Heap.lt_size e
  | dT kvs => obtain ⟨_, _, _, _, o, _, _, e, _⟩ := x; exact Heap.lt_size e
  | set S n => obtain ⟨o, _, _, _, e, _⟩ := x; exact Heap.lt_size e
  | ins C dx fs => obtain ⟨_, _, _, e, _⟩ := x; exact Heap.lt_size e
  | own y => obtain ⟨_, e⟩ := x; exact Heap.lt_size e
  | xd fs => obtain ⟨_, ⟨_, _, _, e, _⟩, _⟩ := x; exact Heap.lt_size e
  | rng lo hi => obtain ⟨_, _, _, e⟩ := x; exact Heap.lt_size e
  | frz ob u => obtain ⟨e, _⟩ := x; exact Heap.lt_size e
  | tbl ps => exact Heap.lt_size (show h.get? a = some _ from x)
  | met f y => exact Heap.lt_size (show h.get? a = some _ from x)
  | ext φ => obtain ⟨_, ⟨_, e⟩, _⟩ := x; exact Heap.lt_size e
theorem Paired.mapP {α β : Type} {F G : α → β → Prop} : ∀ {l₁ : List α} {l₂ : List β}, Paired F l₁ l₂ → (∀ a b, F a b → G a b) → Paired G l₁ l₂
  | _, _, .nil, _ => .nil
  | _, _, .cons r t, f => .cons (f _ _ r) (Paired.mapP t f)
theorem ObjOk.stay (x : ObjOk P w H h a o) (k : ∀ b u, (b = a ∨ H b = some (.own a)) → h.get? b = some u → h'.get? b = some u)
    (ho : ∀ b, H b = some (.own a) → H' b = some (.own a)) (ht : ∀ b xs, H b = some (.tup xs) → H' b = some (.tup xs)) : ObjOk P w H' h' a o := by
  induction o with
  | lst xs => obtain ⟨z, its, n, r, e⟩ := x; exact ⟨z, its, n, r, k _ _ (.inl rfl) e⟩
  | tup xs => obtain ⟨z, its, r, ob, e, c⟩ := x; exact ⟨z, its, r, ob, k _ _ (.inl rfl) e, c⟩
  | dK kvs => obtain ⟨z, y, vs, r, ob, es, ep, e, c⟩ := x; exact ⟨z, y, vs, r, ob, es, ep, k _ _ (.inl rfl) e, c⟩
  | dT kvs =>
    obtain ⟨z, y, xs, r, ob, es, ep, e, c⟩ := x
    exact ⟨z, y, xs, Paired.mapP r fun p q z => ⟨z.1, ht _ _ z.2.1, z.2.2⟩, ob, es, ep, k _ _ (.inl rfl) e, c⟩
  | set S n => obtain ⟨ob, es, ep, t, e, c⟩ := x; exact ⟨ob, es, ep, t, k _ _ (.inl rfl) e, c⟩
  | ins C dx fs =>
    obtain ⟨d, z, ne, e, mA, ⟨od, es, ep, e2, c⟩, r⟩ := x
    exact ⟨ho _ d, z, ne, k _ _ (.inl rfl) e, mA, ⟨od, es, ep, k _ _ (.inr d) e2, c⟩, r⟩
  | own y => obtain ⟨ob, e⟩ := x; exact ⟨ob, k _ _ (.inl rfl) e⟩
  | xd fs => obtain ⟨mA, ⟨od, es, ep, e, c⟩, r⟩ := x; exact ⟨mA, ⟨od, es, ep, k _ _ (.inl rfl) e, c⟩, r⟩
  | rng lo hi => obtain ⟨t, u, v, e⟩ := x; exact ⟨t, u, v, k _ _ (.inl rfl) e⟩
  | frz ob u ih => obtain ⟨e, q⟩ := x; exact ⟨k _ _ (.inl rfl) e, ih q⟩
  | tbl ps =>
    have e : h.get? a = some { cls := .none, data := .fields ps } := x
    show h'.get? a = some { cls := .none, data := .fields ps }
    exact k a _ (.inl rfl) e
  | met f y =>
    have e : h.get? a = some (PySem.W.methodObj (.ref f) (.ref y)) := x
    show h'.get? a = some (PySem.W.methodObj (.ref f) (.ref y))
    exact k a _ (.inl rfl) e
  | ext φ => obtain ⟨p, ⟨o, e⟩, st⟩ := x; exact ⟨st _ _ p fun o q => k _ _ (.inl rfl) q, ⟨o, k _ _ (.inl rfl) e⟩, st⟩
theorem HOk.lt (x : HOk P w H h) (e : H a = some o) : a < h.objs.size := (x a o e).lt
theorem HOk.fresh (x : HOk P w H h) (e : h.objs.size ≤ a) : H a = none := by
  cases q : H a with
  | none => rfl
  | some u => exact absurd (Nat.lt_of_lt_of_le (x.lt q) e) (Nat.lt_irrefl _)
theorem HOk.kept (x : HOk P w H h) (k : ∀ b u, h.get? b = some u → h'.get? b = some u) : HOk P w H h' := fun a o e =>
  (x a o e).stay (fun b u _ q => k b u q) (fun _ q => q) fun _ _ q => q
theorem HOk.laid (x : HOk P w H h) (k : ∀ b u, h.get? b = some u → h'.get? b = some u) (hp : h.objs.size ≤ a) (new : ObjOk P w (upd H a o) h' a o) : HOk P w (upd H a o) h' := fun b u e => by
  have hn := x.fresh hp
  by_cases hb : b = a
  · subst hb; rw [upd_same] at e; cases e; exact new
  · rw [upd_ne hb] at e
    exact (x b u e).stay (fun c v _ q => k c v q) (fun c q => by rw [upd_ne (ne_of_none q hn)]; exact q) fun c xs q => by rw [upd_ne (ne_of_none q hn)]; exact q
end
def Rd (H : Hp) (a : Addr) (u : HO) : Prop := H a = some u ∨ ∃ o, H a = some (.frz o u)
theorem Rd.ok {P : Program} {w : World} {H : Hp} {h : Heap} {a : Addr} {u : HO} (r : Rd H a u) (x : HOk P w H h) : ObjOk P w H h a u := by
  rcases r with r | ⟨o, r⟩
  · exact x a u r
  · obtain ⟨_, q⟩ := x a _ r
    exact q
def Mut : Option HO → Prop
  | some (.lst _) => True
  | some (.dK _) => True
  | some (.dT _) => True
  | some (.set _ _) => True
  | some (.ins _ _ _) => True
  | some (.ext _) => True
  | _ => False
section
variable {P : Program} {w : World} {H : Hp} {h h' : Heap} {x e : Addr} {o' : HO}
theorem HOk.write (ok : HOk P w H h) (mu : Mut (H x)) (he : e = x ∨ H e = some (.own x)) (k : ∀ b u, b ≠ e → h.get? b = some u → h'.get? b = some u) (heo : ∃ u, h'.get? e = some u)
    (new : ObjOk P w (upd H x o') h' x o') : HOk P w (upd H x o') h' := fun b u q => by
  have nown : ∀ c y, H c = some (.own y) → c ≠ x := fun c y r z => by subst z; rw [r] at mu; exact mu
  have ntup : ∀ c xs, H c = some (.tup xs) → c ≠ x := fun c xs r z => by subst z; rw [r] at mu; exact mu
  by_cases hb : b = x
  · subst hb; rw [upd_same] at q; cases q; exact new
  · rw [upd_ne hb] at q
    by_cases hbe : b = e
    · have q' : H b = some (.own x) := by
        rcases he with z | z
        · exact absurd (hbe.trans z) hb
        · rw [hbe]; exact z
      rw [q] at q'; cases q'
      obtain ⟨v, hv⟩ := heo
      exact ⟨v, by rw [hbe]; exact hv⟩
    · refine (ok b u q).stay (fun c v hc r => k c v ?_ r) (fun c r => by rw [upd_ne (nown c b r)]; exact r) fun c xs r => by rw [upd_ne (ntup c xs r)]; exact r
      rcases hc with rfl | hc
      · exact hbe
      · rintro rfl
        rcases he with z | z
        · exact nown c b hc z
        · rw [hc] at z; cases z; exact hb rfl
end
structure Un (fs ex : List Addr) (H H' : Hp) (h h' : Heap) : Prop where
  keep : ∀ b o, h.get? b = some o → H b = none → b ∉ fs → b ∉ ex → h'.get? b = some o
  slot : ∀ b o, h.get? b = some o → H b = none → b ∈ fs → b ∉ ex → ∃ sl, h'.get? b = some { o with slots := sl }
  free : ∀ b o, h.get? b = some o → H b = none → b ∉ ex → H' b = none
  there : ∀ b o, h.get? b = some o → b ∉ ex → ∃ o', h'.get? b = some o'
  tups : ∀ b xs, H b = some (.tup xs) → H' b = some (.tup xs)
  frzs : ∀ b o u, H b = some (.frz o u) → H' b = some (.frz o u)
  tbls : ∀ b ps, H b = some (.tbl ps) → ∃ more, H' b = some (.tbl (ps ++ more))
section
variable {fs fs' ex ex' : List Addr} {H H1 H2 : Hp} {h h1 h2 h' : Heap} {a x e : Addr} {o : HO}
theorem Un.any (u : Un fs ex H H1 h h1) {b : Addr} {ob : Obj} (q : h.get? b = some ob) (n : H b = none) (hx : b ∉ ex) : ∃ sl, h1.get? b = some { ob with slots := sl } := by
  by_cases hb : b ∈ fs
  · exact u.slot b ob q n hb hx
  · exact ⟨ob.slots, u.keep b ob q n hb hx⟩
theorem Un.kept (k : ∀ b u, h.get? b = some u → h'.get? b = some u) : Un fs ex H H h h' :=
  ⟨fun b ob q _ _ _ => k b ob q, fun b ob q _ _ _ => ⟨ob.slots, k b ob q⟩, fun _ _ _ n _ => n, fun b ob q _ => ⟨ob, k b ob q⟩, fun _ _ q => q, fun _ _ _ q => q, fun _ ps q => ⟨#[], by rw [q]; simp⟩⟩
theorem Un.refl : Un fs ex H H h h := Un.kept fun _ _ q => q
theorem Un.laid (k : ∀ b u, h.get? b = some u → h'.get? b = some u) (hp : h.objs.size ≤ a) (hn : H a = none) : Un fs ex H (upd H a o) h h' where
  keep := fun b u q _ _ _ => k b u q
  slot := fun b u q _ _ _ => ⟨u.slots, k b u q⟩
  free := fun b u q n _ => by rw [upd_ne (Nat.ne_of_lt (Nat.lt_of_lt_of_le (Heap.lt_size q) hp))]; exact n
  there := fun b u q _ => ⟨u, k b u q⟩
  tups := fun b xs q => by rw [upd_ne (ne_of_none q hn)]; exact q
  frzs := fun b u xs q => by rw [upd_ne (ne_of_none q hn)]; exact q
  tbls := fun b ps q => ⟨#[], by rw [upd_ne (ne_of_none q hn), q]; simp⟩
theorem Un.write (mu : Mut (H x)) (he : e = x ∨ H e = some (.own x)) (k : ∀ b u, b ≠ e → h.get? b = some u → h'.get? b = some u) (heo : ∃ u, h'.get? e = some u) : Un fs ex H (upd H x o) h h' := by
  have hx : ∀ b, H b = none → b ≠ x := fun b n z => by subst z; rw [n] at mu; exact mu
  have hb : ∀ b, H b = none → b ≠ e := fun b n z => by
    subst z
    rcases he with r | r
    · exact hx b n r
    · rw [n] at r; cases r
  have hm : ∀ b u, H b = some u → ¬ Mut (some u) → b ≠ x := fun b u q nm z => by subst z; rw [q] at mu; exact nm mu
  refine ⟨fun b u q n _ _ => k b u (hb b n) q, fun b u q n _ _ => ⟨u.slots, k b u (hb b n) q⟩, fun b u q n _ => by rw [upd_ne (hx b n)]; exact n, fun b u q _ => ?_,
    fun b xs q => by rw [upd_ne (hm b _ q fun z => z)]; exact q, fun b u xs q => by rw [upd_ne (hm b _ q fun z => z)]; exact q, fun b ps q => ⟨#[], by rw [upd_ne (hm b _ q fun z => z), q]; simp⟩⟩
  by_cases hbe : b = e
  · subst hbe; exact heo
  · exact ⟨u, k b u hbe q⟩
end
def trk (h : Heap) (H : Hp) : List Addr := (List.range h.objs.size).filter fun a => (H a).isSome
def hidT (h : Heap) (H : Hp) : Heap := PySem.W.hideAll h (trk h H)
theorem hidT_size (h : Heap) (H : Hp) : (hidT h H).objs.size = h.objs.size := PySem.W.hideAll_size _ _
theorem hidT_get {h : Heap} {H : Hp} {b : Addr} {o : Obj} (e : h.get? b = some o) (n : H b = none) : (hidT h H).get? b = some o :=
  PySem.W.hideAll_get _ e fun hm => by
    have q : (H b).isSome = true := (List.mem_filter.mp hm).2
    rw [n] at q; simp at q
theorem of_hidT {h : Heap} {H : Hp} {b : Addr} {o : Obj} (e : (hidT h H).get? b = some o) : h.get? b = some o ∧ H b = none := by
  have e' : h.get? b = some o := PySem.W.of_hideAll (trk h H) e
  refine ⟨e', ?_⟩
  cases q : H b with
  | none => rfl
  | some x =>
    have hm : b ∈ trk h H := List.mem_filter.mpr ⟨List.mem_range.mpr (Heap.lt_size e'), by simp [q]⟩
    have z : (hidT h H).get? b = none := PySem.W.hideAll_none (trk h H) hm
    rw [z] at e; cases e
def allNews (g h : Heap) (L : Addr) : List (Addr × Obj) := (List.range h.objs.size).filterMap fun a => if a = L ∨ (g.get? a).isSome = true then none else (h.get? a).map fun o => (a, o)
def rest (g h : Heap) (L d : Addr) : List (Addr × Obj) := (allNews g h L).filter fun p => decide (p.1 ≠ d)
end L2
namespace L2
open PySem PySem.Spec PyProof.Rows
structure Mod (K : PySem.W.Frag) (mg : Str → Option Value) (base : Heap) : Prop where
  kin : K.In base
  glob : base.Ns mainGlobals mg
  blt : ∃ mb, base.Ns builtinsNs mb ∧ ∀ x : Str, x ≠ "__name__" → mb x = bootBuiltins x
  nolimit : base.NoLimit
structure Cx where
  prog : Program
  w : World
  K : PySem.W.Frag
  mg : Str → Option Value
  base : Heap
  A : Around
  N : List Str
  s₀ : Shared
  H₀ : Hp
  env : Env
  outer : List Env
  stack : List Env
  ex : List Addr
  fn : Str → Bool
  calm : Bool
  pn : List (Addr × Obj)
  xe : Value → Shared → Prop
def frs (l : List Env) : List Addr := l.filterMap (·.frame)
abbrev Cx.fs (X : Cx) : List Addr := frs X.outer
def Vis (sc : Scope) (x : Str) : Prop := sc.names.lookup x = some .local ∨ sc.names.lookup x = some .cell ∨ sc.names.lookup x = some .free
def Loc (sc : Scope) (x : Str) : Prop := sc.names.lookup x = some .local ∨ sc.names.lookup x = some .cell
def Look (env : Env) (h : Heap) (m : Str → Option Value) (x : Str) (u : Value) : Prop :=
  (env.kindOf x = some .local ∧ m x = some u) ∨ ((env.kindOf x = some .cell ∨ env.kindOf x = some .free) ∧ ∃ c, env.cells.lookup x = some c ∧ h.IsCell c (some u))
structure Cx.Ok (X : Cx) : Prop where
  mod : Mod X.K X.mg X.base
  kind : X.env.scope.kind = .function
  glob : X.env.globals = mainGlobals
  blt : X.env.builtins = builtinsNs
  above : X.s₀.heap.objs.size ≤ X.env.locals
  inj : ∀ x y c, X.env.cells.lookup x = some c → X.env.cells.lookup y = some c → x = y
  has : ∀ x, (X.env.kindOf x = some .cell ∨ X.env.kindOf x = some .free) → ∃ c, X.env.cells.lookup x = some c
  cab : ∀ x c, X.fn x = true → X.env.cells.lookup x = some c → X.s₀.heap.objs.size ≤ c
  hd : X.calm = true → X.A.handled = none
  frames : X.A.frames = some X.stack
  stk : X.stack = X.outer ∨ (X.stack = X.env :: X.outer ∧ X.env.frame = some X.env.locals)
  exf : ∀ b ∈ X.ex, b ≠ X.env.locals ∧ ∀ x c, X.env.cells.lookup x = some c → c ≠ b
  bs : ∀ b o, X.base.get? b = some o → X.s₀.heap.get? b = some o ∧ X.H₀ b = none
  bsz : X.base.objs.size ≤ X.s₀.heap.objs.size
  noex : ∀ b o, X.base.get? b = some o → b ∉ X.ex
  exfs : ∀ b ∈ X.ex, b ∉ X.fs
  funs : X.s₀.heap.FunFrames X.base X.outer
  frf : ∀ b ∈ X.fs, X.H₀ b = none
structure Inv (X : Cx) (pins : List (Addr × Obj)) (σ : List (Option V)) (H : Hp) (s : Shared) : Prop where
  ok : X.Ok
  os : s.os = X.s₀.os
  bare : AllBare s.gens
  base : Un X.fs X.ex X.H₀ H X.s₀.heap s.heap
  loc : ∃ m, s.heap.Ns X.env.locals m ∧ ∀ (i : Nat) (x : Str) (v : V), X.N[i]? = some x → σ[i]? = some (some v) → Vis X.env.scope x → ∃ u, RelV v u ∧ Look X.env s.heap m x u
  cell : ∀ x c, X.env.cells.lookup x = some c → ∃ v, s.heap.IsCell c v
  free : H X.env.locals = none
  freeC : ∀ x c, X.env.cells.lookup x = some c → H c = none
  pin : ∀ p ∈ X.pn ++ pins, s.heap.get? p.1 = some p.2 ∧ H p.1 = none ∧ p.1 ≠ X.env.locals ∧ p.1 ∉ X.fs ∧ ∀ v, p.2.data ≠ .cell v
  hok : HOk X.prog X.w H s.heap
  len : σ.length = X.N.length
section
variable {X : Cx} {pins : List (Addr × Obj)} {σ : List (Option V)} {H H' : Hp} {s : Shared} {h' : Heap}
theorem Cx.Ok.nofr (ok : X.Ok) {b : Addr} {o : Obj} (e : X.base.get? b = some o) : b ∉ X.fs := fun hb => by
  have := (ok.funs.mem hb).1
  rw [e] at this; cases this
theorem Inv.bs (I : Inv X pins σ H s) : ∀ b o, X.base.get? b = some o → s.heap.get? b = some o ∧ H b = none := fun b o e =>
  ⟨I.base.keep b o (I.ok.bs b o e).1 (I.ok.bs b o e).2 (I.ok.nofr e) (I.ok.noex b o e), I.base.free b o (I.ok.bs b o e).1 (I.ok.bs b o e).2 (I.ok.noex b o e)⟩
theorem Inv.bk (I : Inv X pins σ H s) : ∀ b o, X.base.get? b = some o → s.heap.get? b = some o := fun b o e => (I.bs b o e).1
theorem Inv.mod (I : Inv X pins σ H s) : Mod X.K X.mg X.base := I.ok.mod
theorem Inv.kIn (I : Inv X pins σ H s) : X.K.In s.heap := I.ok.mod.kin.keeps I.bk
theorem Inv.lt (I : Inv X pins σ H s) : X.env.locals < s.heap.objs.size := let ⟨_, hn, _⟩ := I.loc; hn.lt
theorem Inv.sz (I : Inv X pins σ H s) : X.s₀.heap.objs.size ≤ s.heap.objs.size := Nat.le_trans I.ok.above (Nat.le_of_lt I.lt)
theorem Inv.nofs (I : Inv X pins σ H s) {a : Addr} (h : s.heap.objs.size ≤ a) : a ∉ X.fs := fun hb => by
  obtain ⟨_, o, ho, _⟩ := I.ok.funs.mem hb
  exact absurd (Nat.lt_of_lt_of_le (Heap.lt_size ho) (Nat.le_trans I.sz h)) (Nat.lt_irrefl _)
theorem Inv.cne (I : Inv X pins σ H s) : ∀ x c, X.env.cells.lookup x = some c → c ≠ X.env.locals := fun x c e z => by
  obtain ⟨v, o, ho, hd⟩ := I.cell x c e
  obtain ⟨m, ⟨o', es, ep, ho', hd', _⟩, _⟩ := I.loc
  rw [z, ho'] at ho; cases ho; rw [hd'] at hd; cases hd
theorem Inv.funs (I : Inv X pins σ H s) : s.heap.FunFrames X.base X.outer := by
  have all : ∀ (l : List Env), (∀ b ∈ frs l, b ∈ X.fs) → X.s₀.heap.FunFrames X.base l → s.heap.FunFrames X.base l := by
    intro l
    induction l with
    | nil => intro _ _; trivial
    | cons env r ih =>
      intro hs hl
      obtain ⟨hk, ⟨L, o, hf, hn, ho, hd⟩, hr⟩ := hl
      have hL : L ∈ X.fs := hs L (by unfold frs; rw [List.filterMap_cons, hf]; exact List.mem_cons_self)
      obtain ⟨sl, e⟩ := I.base.slot L o ho (I.ok.frf L hL) hL fun z => I.ok.exfs L z hL
      exact ⟨hk, ⟨L, _, hf, hn, e, hd⟩, ih (fun b hb => hs b (by unfold frs; rw [List.filterMap_cons, hf]; exact List.mem_cons_of_mem _ hb)) hr⟩
  exact all X.outer (fun _ hb => hb) I.ok.funs
theorem Inv.stack (I : Inv X pins σ H s) : s.heap.FunFrames X.base X.stack := by
  rcases I.ok.stk with e | ⟨e, hf⟩
  · rw [e]; exact I.funs
  · rw [e]
    obtain ⟨m, hn, _⟩ := I.loc
    refine .cons (by rw [I.ok.kind]; decide) hf hn ?_ I.funs
    exact Heap.get?_none_of_le (Nat.le_trans I.ok.bsz I.ok.above)
theorem Inv.stkSub (I : Inv X pins σ H s) : ∀ b ∈ frs X.stack, b ∈ X.env.locals :: X.fs := fun b hb => by
  rcases I.ok.stk with e | ⟨e, hf⟩
  · rw [e] at hb; exact List.mem_cons_of_mem _ hb
  · rw [e] at hb
    unfold frs at hb
    rw [List.filterMap_cons, hf] at hb
    exact hb
theorem Inv.stkFree (I : Inv X pins σ H s) : ∀ b ∈ frs X.stack, H b = none := fun b hb => by
  rcases List.mem_cons.mp (I.stkSub b hb) with e | hb
  · rw [e]; exact I.free
  · obtain ⟨_, o, ho, _⟩ := I.ok.funs.mem hb
    exact I.base.free b o ho (I.ok.frf b hb) fun z => I.ok.exfs b z hb
theorem Inv.step {g' : Array GenState} {t' : Nat} {d' : Drawn} {ch : List Addr} (I : Inv X pins σ H s)
    (hch : ∀ b ∈ ch, (b ∈ X.ex ∨ X.s₀.heap.objs.size ≤ b) ∧ b ≠ X.env.locals ∧ (∀ x c, X.env.cells.lookup x = some c → c ≠ b) ∧ ∀ p ∈ X.pn ++ pins, p.1 ≠ b)
    (keep : ∀ b o, b ≠ X.env.locals → b ∉ X.fs → b ∉ ch → s.heap.get? b = some o → H b = none → h'.get? b = some o)
    (slot : ∀ b o, b ≠ X.env.locals → b ∈ X.fs → b ∉ ch → s.heap.get? b = some o → H b = none → ∃ sl, h'.get? b = some { o with slots := sl }) (free : ∀ b o, b ∉ ch → s.heap.get? b = some o → H b = none → H' b = none)
    (there : ∀ b o, b ∉ ch → s.heap.get? b = some o → ∃ o', h'.get? b = some o')
    (tups : ∀ b xs, H b = some (.tup xs) → H' b = some (.tup xs)) (frzs : ∀ b o u, H b = some (.frz o u) → H' b = some (.frz o u)) (tbls : ∀ b ps, H b = some (.tbl ps) → ∃ more, H' b = some (.tbl (ps ++ more)))
    (ns : ∀ m, s.heap.Ns X.env.locals m → h'.Ns X.env.locals m) (hok : HOk X.prog X.w H' h') (hg : AllBare g') :
    Inv X pins σ H' { s with heap := h', gens := g', drawn := d', toks := t' } := by
  have neL : ∀ b o, X.s₀.heap.get? b = some o → b ≠ X.env.locals := fun b o e => Nat.ne_of_lt (Nat.lt_of_lt_of_le (Heap.lt_size e) I.ok.above)
  have neC : ∀ b o, X.s₀.heap.get? b = some o → b ∉ X.ex → b ∉ ch := fun b o e hx hb => by
    rcases (hch b hb).1 with z | z
    · exact hx z
    · exact absurd (Nat.lt_of_lt_of_le (Heap.lt_size e) z) (Nat.lt_irrefl _)
  have cellK : ∀ x c, X.env.cells.lookup x = some c → ∀ v, s.heap.IsCell c v → h'.IsCell c v := fun x c e v ⟨o, ho, hd⟩ => by
    have nch : c ∉ ch := fun z => (hch c z).2.2.1 x c e rfl
    by_cases hc : c ∈ X.fs
    · obtain ⟨sl, q⟩ := slot c o (I.cne x c e) hc nch ho (I.freeC x c e)
      exact ⟨_, q, hd⟩
    · exact ⟨o, keep c o (I.cne x c e) hc nch ho (I.freeC x c e), hd⟩
  refine ⟨I.ok, I.os, hg, ⟨fun b o e n hb hx => ?_, fun b o e n hb hx => ?_, fun b o e n hx => ?_, fun b o e hx => ?_, fun b xs e => tups b xs (I.base.tups b xs e), fun b o xs e => frzs b o xs (I.base.frzs b o xs e), fun b ps e => ?_⟩, ?_, fun x c e => ?_, ?_, fun x c e => ?_, fun p hp => ?_, hok, I.len⟩
  · exact keep b o (neL b o e) hb (neC b o e hx) (I.base.keep b o e n hb hx) (I.base.free b o e n hx)
  · obtain ⟨sl, e1⟩ := I.base.slot b o e n hb hx
    obtain ⟨sl', e2⟩ := slot b _ (neL b o e) hb (neC b o e hx) e1 (I.base.free b o e n hx)
    exact ⟨sl', e2⟩
  · obtain ⟨o', e1⟩ := I.base.there b o e hx
    exact free b o' (neC b o e hx) e1 (I.base.free b o e n hx)
  · obtain ⟨o', e1⟩ := I.base.there b o e hx
    exact there b o' (neC b o e hx) e1
  · obtain ⟨m1, e1⟩ := I.base.tbls b ps e
    obtain ⟨m2, e2⟩ := tbls b _ e1
    exact ⟨m1 ++ m2, by rw [e2, Array.append_assoc]⟩
  · obtain ⟨m, hn, hl⟩ := I.loc
    refine ⟨m, ns m hn, fun i x v e1 e2 e3 => ?_⟩
    obtain ⟨u, r, l⟩ := hl i x v e1 e2 e3
    refine ⟨u, r, ?_⟩
    rcases l with l | ⟨k, c, e, z⟩
    · exact .inl l
    · exact .inr ⟨k, c, e, cellK x c e _ z⟩
  · obtain ⟨v, z⟩ := I.cell x c e
    exact ⟨v, cellK x c e v z⟩
  · obtain ⟨m, ⟨o, _, _, ho, _⟩, _⟩ := I.loc
    exact free _ o (fun z => (hch _ z).2.1 rfl) ho I.free
  · obtain ⟨v, o, ho, hd⟩ := I.cell x c e
    exact free c o (fun z => (hch c z).2.2.1 x c e rfl) ho (I.freeC x c e)
  · obtain ⟨e, n, ne, nf, d⟩ := I.pin p hp
    have nch : p.1 ∉ ch := fun z => (hch p.1 z).2.2.2 p hp rfl
    exact ⟨keep p.1 p.2 ne nf nch e n, free p.1 p.2 nch e n, ne, nf, d⟩
theorem Inv.un {t' : Nat} (I : Inv X pins σ H s) (u : Un X.fs [] H H' s.heap h') (hok : HOk X.prog X.w H' h') : Inv X pins σ H' { s with heap := h', toks := t' } := by
  obtain ⟨m, ⟨o, es, ep, ho, r⟩, _⟩ := id I.loc
  obtain ⟨sl, hL⟩ := u.any ho I.free (by simp)
  exact I.step (g' := s.gens) (d' := s.drawn) (ch := []) (fun _ z => nomatch z) (fun b o _ hb _ e n => u.keep b o e n hb (by simp)) (fun b o _ hb _ e n => u.slot b o e n hb (by simp)) (fun b o _ e n => u.free b o e n (by simp)) (fun b o _ e => u.there b o e (by simp)) u.tups u.frzs u.tbls (fun m' hm => by
    obtain ⟨o', es', ep', ho', r'⟩ := hm
    rw [ho] at ho'; cases ho'
    exact ⟨_, es', ep', hL, r'⟩) hok I.bare
theorem Inv.call {g' : Array GenState} {t' : Nat} {d' : Drawn} {ch : List Addr} (I : Inv X pins σ H s) (u : Un (frs X.stack) ch H H' s.heap h') (hok : HOk X.prog X.w H' h') (hg : AllBare g')
    (hch : ∀ b ∈ ch, (b ∈ X.ex ∨ X.s₀.heap.objs.size ≤ b) ∧ b ≠ X.env.locals ∧ (∀ x c, X.env.cells.lookup x = some c → c ≠ b) ∧ ∀ p ∈ X.pn ++ pins, p.1 ≠ b) :
    Inv X pins σ H' { s with heap := h', gens := g', drawn := d', toks := t' } := by
  obtain ⟨m, ⟨o, es, ep, ho, r⟩, _⟩ := id I.loc
  obtain ⟨sl, hL⟩ := u.any ho I.free fun z => (hch _ z).2.1 rfl
  exact I.step (ch := ch) hch (fun b o hL hb hc e n => u.keep b o e n (fun z => (List.mem_cons.mp (I.stkSub b z)).elim hL hb) hc) (fun b o _ _ hc e n => u.any e n hc) (fun b o hc e n => u.free b o e n hc) (fun b o hc e => u.there b o e hc) u.tups u.frzs u.tbls (fun m' hm => by
    obtain ⟨o', es', ep', ho', r'⟩ := hm
    rw [ho] at ho'; cases ho'
    exact ⟨_, es', ep', hL, r'⟩) hok hg
theorem Inv.turned {t' : Nat} {it : Addr} (I : Inv X pins σ H s) (k : ∀ b o, b ≠ it → s.heap.get? b = some o → h'.get? b = some o) (hn : H it = none) (hL : it ≠ X.env.locals)
    (h1 : it ∈ X.ex ∨ X.s₀.heap.objs.size ≤ it) (h2 : ∀ x c, X.env.cells.lookup x = some c → c ≠ it) (h3 : ∀ p ∈ X.pn ++ pins, p.1 ≠ it) : Inv X pins σ H { s with heap := h', toks := t' } := by
  have nit : ∀ b u, H b = some u → b ≠ it := fun b u e z => by rw [z, hn] at e; cases e
  refine I.step (g' := s.gens) (d' := s.drawn) (ch := [it]) (fun b hb => ?_) (fun b o _ _ hc e _ => k b o (fun z => hc (by simp [z])) e) (fun b o _ _ hc e _ => ⟨o.slots, k b o (fun z => hc (by simp [z])) e⟩) (fun _ _ _ _ n => n)
    (fun b o hc e => ⟨o, k b o (fun z => hc (by simp [z])) e⟩) (fun _ _ e => e) (fun _ _ _ e => e) (fun b ps e => ⟨#[], by rw [e]; simp⟩) (fun m hm => ?_) (fun b u e => ?_) I.bare
  · have e : b = it := by simpa using hb
    subst e
    exact ⟨h1, hL, h2, h3⟩
  · obtain ⟨o, es, ep, ho, r⟩ := hm
    exact ⟨o, es, ep, k _ o (Ne.symm hL) ho, r⟩
  · refine (I.hok b u e).stay (fun c v hc q => k c v ?_ q) (fun _ q => q) fun _ _ q => q
    rcases hc with z | z
    · rw [z]; exact nit b u e
    · exact nit c _ z
theorem Inv.tok (I : Inv X pins σ H s) (t : Nat) : Inv X pins σ H { s with toks := t } := I.un (h' := s.heap) (t' := t) Un.refl I.hok
theorem Inv.kept {t' : Nat} (I : Inv X pins σ H s) (k : ∀ b u, s.heap.get? b = some u → h'.get? b = some u) : Inv X pins σ H { s with heap := h', toks := t' } := I.un (Un.kept k) (I.hok.kept k)
theorem Inv.laid {a : Addr} {o : HO} {t' : Nat} (I : Inv X pins σ H s) (k : ∀ b u, s.heap.get? b = some u → h'.get? b = some u) (hp : s.heap.objs.size ≤ a) (new : ObjOk X.prog X.w (upd H a o) h' a o) :
    Inv X pins σ (upd H a o) { s with heap := h', toks := t' } := I.un (Un.laid k hp (I.hok.fresh hp)) (I.hok.laid k hp new)
theorem Inv.write {x e : Addr} {o : HO} {t' : Nat} (I : Inv X pins σ H s) (mu : Mut (H x)) (he : e = x ∨ H e = some (.own x)) (k : ∀ b u, b ≠ e → s.heap.get? b = some u → h'.get? b = some u) (heo : ∃ u, h'.get? e = some u)
    (new : ObjOk X.prog X.w (upd H x o) h' x o) : Inv X pins σ (upd H x o) { s with heap := h', toks := t' } := I.un (Un.write mu he k heo) (I.hok.write mu he k heo new)
theorem Inv.pins_of {pins' : List (Addr × Obj)} (I : Inv X pins σ H s) (h : ∀ p ∈ pins', s.heap.get? p.1 = some p.2 ∧ H p.1 = none ∧ p.1 ≠ X.env.locals ∧ p.1 ∉ X.fs ∧ ∀ v, p.2.data ≠ .cell v) : Inv X pins' σ H s :=
  ⟨I.ok, I.os, I.bare, I.base, I.loc, I.cell, I.free, I.freeC, fun p hp => (List.mem_append.mp hp).elim (fun z => I.pin p (List.mem_append_left _ z)) (h p), I.hok, I.len⟩
theorem nodup_ix {N : List Str} (hN : N.Nodup) {i j : Nat} {x : Str} (a : N[i]? = some x) (b : N[j]? = some x) : i = j := by
  obtain ⟨h1, e1⟩ := List.getElem?_eq_some_iff.mp a
  obtain ⟨h2, e2⟩ := List.getElem?_eq_some_iff.mp b
  exact (List.getElem_inj hN).mp (e1.trans e2.symm)
theorem store_ok2 {M : Model} {A : Around} {E : Value → Shared → Prop} {i : Nat} {x : Str} {v : V} {u : Value} {Q : Unit → Shared → Prop} (I : Inv X pins σ H s) (hN : X.N.Nodup) (hi : X.N[i]? = some x) (hx : Loc X.env.scope x) (r : RelV v u)
    (h : ∀ s', Inv X pins (σ.set i (some v)) H s' → (∃ a, Heap.SameBut a s.heap s'.heap ∧ (a = X.env.locals ∨ X.env.cells.lookup x = some a)) → Q () s') (hf : X.fn x = true ∨ X.env.scope.names.lookup x = some .local := by first | exact .inl rfl | exact .inr rfl | assumption) : wpAny M A (storeName X.env x u) Q E s := by
  obtain ⟨m, hn, hl⟩ := id I.loc
  have hcls : (X.env.scope.kind == .class || (X.env.scope.kind == .module && X.env.locals != X.env.globals)) = false := by rw [I.ok.kind]; rfl
  have hiσ : i < σ.length := by rw [I.len]; exact (List.getElem?_eq_some_iff.mp hi).1
  have cne := I.cne
  have tracked : ∀ {a : Addr} {h' : Heap}, (∃ o, s.heap.get? a = some o ∧ H a = none) → Heap.SameBut a s.heap h' → HOk X.prog X.w H h' := fun {a h'} ha hs b ob e => by
    obtain ⟨_, _, hfree⟩ := ha
    refine (I.hok b ob e).stay (fun c w' hc q => (hs.2 c ?_).trans q) (fun _ q => q) fun _ _ q => q
    rintro rfl
    rcases hc with rfl | hc
    · rw [hfree] at e; cases e
    · rw [hfree] at hc; cases hc
  rcases hx with hk | hk
  · refine wpAny_storeName_local hk hn (fun h' hn' hs => ?_) hcls
    obtain ⟨oL, _, _, hoL, _⟩ := id hn
    refine h _ ⟨I.ok, I.os, I.bare, ⟨fun b o e n hb hx => ?_, fun b o e n hb hx => ?_, I.base.free, fun b o e hx => ?_, I.base.tups, I.base.frzs, I.base.tbls⟩, ⟨_, hn', fun j y v' e1 e2 e3 => ?_⟩, fun y c e => ?_, I.free, I.freeC, fun p hp => ?_, tracked ⟨oL, hoL, I.free⟩ hs, by simpa using I.len⟩ ⟨_, hs, .inl rfl⟩
    · exact (hs.2 b (Nat.ne_of_lt (Nat.lt_of_lt_of_le (Heap.lt_size e) I.ok.above))).trans (I.base.keep b o e n hb hx)
    · obtain ⟨sl, e1⟩ := I.base.slot b o e n hb hx
      exact ⟨sl, (hs.2 b (Nat.ne_of_lt (Nat.lt_of_lt_of_le (Heap.lt_size e) I.ok.above))).trans e1⟩
    · obtain ⟨o', e1⟩ := I.base.there b o e hx
      exact ⟨o', (hs.2 b (Nat.ne_of_lt (Nat.lt_of_lt_of_le (Heap.lt_size e) I.ok.above))).trans e1⟩
    · by_cases hj : j = i
      · subst hj
        rw [hi] at e1; cases e1
        rw [List.getElem?_set_self hiσ] at e2
        cases e2
        exact ⟨u, r, .inl ⟨hk, by simp⟩⟩
      · rw [List.getElem?_set_ne (Ne.symm hj)] at e2
        obtain ⟨u', r', q⟩ := hl j y v' e1 e2 e3
        refine ⟨u', r', ?_⟩
        rcases q with ⟨k, e⟩ | ⟨k, c, e, z⟩
        · refine .inl ⟨k, ?_⟩
          have : y ≠ x := fun e => hj (nodup_ix hN e1 (e ▸ hi))
          simp [this, e]
        · exact .inr ⟨k, c, e, z.sameBut hs (cne y c e)⟩
    · obtain ⟨w', z⟩ := I.cell y c e
      exact ⟨w', z.sameBut hs (cne y c e)⟩
    · obtain ⟨e, n, ne, nf, d⟩ := I.pin p hp
      exact ⟨(hs.2 p.1 ne).trans e, n, ne, nf, d⟩
  · have hfn : X.fn x = true := by
      rcases hf with z | z
      · exact z
      · rw [z] at hk; cases hk
    obtain ⟨c, hc⟩ := I.ok.has x (.inl hk)
    obtain ⟨w', z⟩ := I.cell x c hc
    refine wpAny_storeName_cell I.ok.kind hk hc z (fun h' hc' hs => ?_)
    obtain ⟨oc, hoc, hocd⟩ := id z
    refine h { s with heap := h' } ⟨I.ok, I.os, I.bare, ⟨fun b o e n hb hx => ?_, fun b o e n hb hx => ?_, I.base.free, fun b o e hx => ?_, I.base.tups, I.base.frzs, I.base.tbls⟩, ⟨m, hn.sameBut hs (Ne.symm (cne x c hc)), fun j y v' e1 e2 e3 => ?_⟩, fun y c' e => ?_, I.free, I.freeC, fun p hp => ?_, tracked ⟨oc, hoc, I.freeC x c hc⟩ hs, by simpa using I.len⟩ ⟨c, hs, .inr hc⟩
    · exact (hs.2 b (Nat.ne_of_lt (Nat.lt_of_lt_of_le (Heap.lt_size e) (I.ok.cab x c hfn hc)))).trans (I.base.keep b o e n hb hx)
    · obtain ⟨sl, e1⟩ := I.base.slot b o e n hb hx
      exact ⟨sl, (hs.2 b (Nat.ne_of_lt (Nat.lt_of_lt_of_le (Heap.lt_size e) (I.ok.cab x c hfn hc)))).trans e1⟩
    · obtain ⟨o', e1⟩ := I.base.there b o e hx
      exact ⟨o', (hs.2 b (Nat.ne_of_lt (Nat.lt_of_lt_of_le (Heap.lt_size e) (I.ok.cab x c hfn hc)))).trans e1⟩
    · by_cases hj : j = i
      · subst hj
        rw [hi] at e1; cases e1
        rw [List.getElem?_set_self hiσ] at e2
        cases e2
        exact ⟨u, r, .inr ⟨.inl hk, c, hc, hc'⟩⟩
      · rw [List.getElem?_set_ne (Ne.symm hj)] at e2
        obtain ⟨u', r', q⟩ := hl j y v' e1 e2 e3
        refine ⟨u', r', ?_⟩
        rcases q with q | ⟨k, c', e, z'⟩
        · exact .inl q
        · refine .inr ⟨k, c', e, z'.sameBut hs ?_⟩
          rintro rfl
          exact hj (nodup_ix hN e1 (I.ok.inj _ _ _ e hc ▸ hi))
    · by_cases hcc : c' = c
      · subst hcc; exact ⟨_, hc'⟩
      · obtain ⟨w2, z2⟩ := I.cell y c' e
        exact ⟨w2, z2.sameBut hs hcc⟩
    · obtain ⟨e, n, ne, nf, d⟩ := I.pin p hp
      refine ⟨(hs.2 p.1 ?_).trans e, n, ne, nf, d⟩
      intro q
      rw [q, hoc] at e
      have q' : oc = p.2 := Option.some.inj e
      exact d w' (by rw [← q']; exact hocd)
theorem store_ok {M : Model} {A : Around} {E : Value → Shared → Prop} {i : Nat} {x : Str} {v : V} {u : Value} {Q : Unit → Shared → Prop} (I : Inv X pins σ H s) (hN : X.N.Nodup) (hi : X.N[i]? = some x) (hx : Loc X.env.scope x) (r : RelV v u)
    (h : ∀ s', Inv X pins (σ.set i (some v)) H s' → Q () s') (hf : X.fn x = true ∨ X.env.scope.names.lookup x = some .local := by first | exact .inl rfl | exact .inr rfl | assumption) : wpAny M A (storeName X.env x u) Q E s :=
  store_ok2 I hN hi hx r (fun s' I' _ => h s' I') hf
theorem Inv.call' {s' : Shared} {ch : List Addr} (I : Inv X pins σ H s) (ho : s'.os = s.os) (u : Un (frs X.stack) ch H H' s.heap s'.heap) (hok : HOk X.prog X.w H' s'.heap) (hg : AllBare s'.gens)
    (hch : ∀ b ∈ ch, (b ∈ X.ex ∨ X.s₀.heap.objs.size ≤ b) ∧ b ≠ X.env.locals ∧ (∀ x c, X.env.cells.lookup x = some c → c ≠ b) ∧ ∀ p ∈ X.pn ++ pins, p.1 ≠ b) : Inv X pins σ H' s' := by
  obtain ⟨h', g', d', t', o'⟩ := s'
  have e : o' = s.os := ho
  subst e
  exact I.call (g' := g') (t' := t') (d' := d') u hok hg hch
end
abbrev XK := Value → Option Addr → Hp → Prop
abbrev St := List (Option V)
abbrev VK := V → Hp → Prop
abbrev TE := St → Hp → VK → Prop
abbrev TT := St → Hp → (Bool → Hp → Prop) → Prop
abbrev TA := St → Hp → (List V → Hp → Prop) → Prop
structure Ends where
  nx : St → Hp → Prop
  rt : VK
  bk : St → Hp → Prop := fun _ _ => False
  ct : St → Hp → Prop := fun _ _ => False
abbrev TS := Ends → St → Hp → Prop
def EP (X : Cx) (pins : List (Addr × Obj)) (σ : St) (Q : VK) (u : Value) (s' : Shared) : Prop := ∃ v H', Inv X pins σ H' s' ∧ RelV v u ∧ Q v H'
def TP (X : Cx) (pins : List (Addr × Obj)) (σ : St) (Q : Bool → Hp → Prop) (b : Bool) (s' : Shared) : Prop := ∃ H', Inv X pins σ H' s' ∧ Q b H'
def AP (X : Cx) (pins : List (Addr × Obj)) (σ : St) (Q : List V → Hp → Prop) (us : List Value) (s' : Shared) : Prop := ∃ vs H', Inv X pins σ H' s' ∧ Vals vs us ∧ Q vs H'
def SP (X : Cx) (pins : List (Addr × Obj)) (D : Ends) (f : Flow) (s' : Shared) : Prop :=
  match f with
  | .next => ∃ σ' H', Inv X pins σ' H' s' ∧ D.nx σ' H'
  | .brk => ∃ σ' H', Inv X pins σ' H' s' ∧ D.bk σ' H'
  | .cont => ∃ σ' H', Inv X pins σ' H' s' ∧ D.ct σ' H'
  | .ret u => ∃ v σ' H', Inv X pins σ' H' s' ∧ RelV v u ∧ D.rt v H'
def PE (X : Cx) (e : Expr) (t : TE) : Prop :=
  ∀ (pins : List (Addr × Obj)) (s : Shared) (σ : St) (H : Hp) (Q : VK), Inv X pins σ H s → t σ H Q → wpAny (model X.prog X.w) X.A (eval e X.env) (EP X pins σ Q) X.xe s
def PT (X : Cx) (e : Expr) (t : TT) : Prop :=
  ∀ (pins : List (Addr × Obj)) (s : Shared) (σ : St) (H : Hp) (Q : Bool → Hp → Prop), Inv X pins σ H s → t σ H Q → wpAny (model X.prog X.w) X.A (isTrue e X.env (eval e X.env)) (TP X pins σ Q) X.xe s
def PW (X : Cx) (e : Expr) (t : TT) : Prop :=
  ∀ (whole : Sem Value) (pins : List (Addr × Obj)) (s : Shared) (σ : St) (H : Hp) (Q : Bool → Hp → Prop), Inv X pins σ H s → t σ H Q → wpAny (model X.prog X.w) X.A (isTrue e X.env whole) (TP X pins σ Q) X.xe s
theorem PW.pt {X : Cx} {e : Expr} {t : TT} (h : PW X e t) : PT X e t := h _
def PA (X : Cx) (es : List Expr) (t : TA) : Prop :=
  ∀ (pos : Pos) (pins : List (Addr × Obj)) (s : Shared) (σ : St) (H : Hp) (Q : List V → Hp → Prop), Inv X pins σ H s → t σ H Q → wpAny (model X.prog X.w) X.A (spliced (backTo pos (starEach es X.env))) (AP X pins σ Q) X.xe s
def PS (X : Cx) (st : Stmt) (t : TS) : Prop :=
  ∀ (pins : List (Addr × Obj)) (s : Shared) (σ : St) (H : Hp) (D : Ends), Inv X pins σ H s → t D σ H → wpAny (model X.prog X.w) X.A (exec st X.env) (SP X pins D) X.xe s
def PSs (X : Cx) (st : List Stmt) (t : TS) : Prop :=
  ∀ (pins : List (Addr × Obj)) (s : Shared) (σ : St) (H : Hp) (D : Ends), Inv X pins σ H s → t D σ H → wpAny (model X.prog X.w) X.A (execs st X.env) (SP X pins D) X.xe s
theorem thn {α : Type} {t : Sem α} {Q Q' : α → Shared → Prop} {M : Model} {A : Around} {E : Value → Shared → Prop} {s : Shared} (h : wpAny M A t Q E s) (hQ : ∀ a s, Q a s → Q' a s) : wpAny M A t Q' E s := wpAny_mono h hQ fun _ _ x => x
end L2
namespace L2
open PySem PySem.Spec PyProof.Rows
section
variable {X : Cx}
def tVar (i : Nat) : TE := fun σ H Q => ∃ v, σ[i]? = some (some v) ∧ Q v H
def tC (v : V) : TE := fun _ H Q => Q v H
theorem pe_var {i : Nat} {x : Str} {pos : Pos} (hN : X.N[i]? = some x) (hv : Vis X.env.scope x) (hd : (x == ("__debug__" : Str)) = false := by decide) (hcd : (x == ("__classdict__" : Str)) = false := by decide) : PE X (.Name x pos) (tVar i) := by
  intro pins s σ H Q I h
  obtain ⟨v, e, h⟩ := h
  obtain ⟨m, hn, hl⟩ := I.loc
  obtain ⟨u, r, l⟩ := hl i x v hN e hv
  have fin : EP X pins σ Q u s := ⟨v, H, I, r, h⟩
  rcases l with ⟨hk, hm⟩ | ⟨hk, c, hc, hcell⟩
  · exact wpAny_Name (wpAny_loadName_local I.ok.kind hk hn hm fin) hd
  · rcases hk with hk | hk
    · exact wpAny_Name (wpAny_loadName_cell I.ok.kind hk hc hcell fin) hd
    · exact wpAny_Name (wpAny_loadName_free I.ok.kind hk hc hcell fin hcd) hd
theorem pe_int {i j pos} : PE X (.Constant (.int i) j pos) (tC (.int i)) := fun _ _ _ H _ I h => wpAny_Constant_int ⟨.int i, H, I.tok _, ⟨_, rfl⟩, h⟩
theorem pe_bl {b j pos} : PE X (.Constant (.bool b) j pos) (tC (.bl b)) := fun _ _ _ H _ I h => Constant_bool ⟨.bl b, H, I, rfl, h⟩
theorem pe_non {j pos} : PE X (.Constant .none j pos) (tC .non) := fun _ _ _ H _ I h => Constant_none ⟨.non, H, I, rfl, h⟩
def Gl (X : Cx) (x : Str) : Prop := X.env.kindOf x = some .globalImplicit
theorem ld_glob {E : Value → Shared → Prop} {pins : List (Addr × Obj)} {s : Shared} {σ : St} {H : Hp} {x : Str} {u : Value} {pos : Pos} {Q : Value → Shared → Prop} (I : Inv X pins σ H s) (hg : Gl X x) (hm : X.mg x = some u) (h : Q u s)
    (hd : (x == ("__debug__" : Str)) = false := by decide) : wpAny (model X.prog X.w) X.A (eval (.Name x pos) X.env) Q E s :=
  Calls.Name_function_global I.ok.kind hg (Calls.loadGlobal_global (by rw [I.ok.glob]; exact I.mod.glob.keeps I.bk) hm h) hd
theorem ld_blt {E : Value → Shared → Prop} {pins : List (Addr × Obj)} {s : Shared} {σ : St} {H : Hp} {x : Str} {u : Value} {pos : Pos} {Q : Value → Shared → Prop} (I : Inv X pins σ H s) (hg : Gl X x) (hm : X.mg x = none) (hv : bootBuiltins x = some u) (h : Q u s)
    (hn : x ≠ "__name__" := by decide) (hd : (x == ("__debug__" : Str)) = false := by decide) : wpAny (model X.prog X.w) X.A (eval (.Name x pos) X.env) Q E s := by
  obtain ⟨mb, h1, h2⟩ := I.mod.blt
  exact Calls.Name_function_global I.ok.kind hg (Calls.loadGlobal_builtin (by rw [I.ok.glob]; exact I.mod.glob.keeps I.bk) hm (by rw [I.ok.blt]; exact h1.keeps I.bk) ((h2 x hn).trans hv) h) hd
theorem pe_bltn {x : Str} {v : V} {u : Value} {pos : Pos} (hg : Gl X x) (hm : X.mg x = none) (hv : bootBuiltins x = some u) (r : RelV v u) (hn : x ≠ "__name__" := by decide) (hd : (x == ("__debug__" : Str)) = false := by decide) : PE X (.Name x pos) (tC v) :=
  fun _ _ _ H _ I h => ld_blt I hg hm hv ⟨v, H, I, r, h⟩ hn hd
def t2I (ta tb : TE) (k : Int → Int → Hp → Prop) : St → Hp → Prop := fun σ H => ta σ H fun x H1 => tb σ H1 fun y H2 => ∃ i j, x = .int i ∧ y = .int j ∧ k i j H2
def tAdd (ta tb : TE) : TE := fun σ H Q => t2I ta tb (fun i j H2 => Q (.int (i + j)) H2) σ H
def tSub (ta tb : TE) : TE := fun σ H Q => t2I ta tb (fun i j H2 => Q (.int (i - j)) H2) σ H
def tMul (ta tb : TE) : TE := fun σ H Q => t2I ta tb (fun i j H2 => (-(2 ^ 64) < i ∧ i < 2 ^ 64) ∧ Q (.int (i * j)) H2) σ H
variable {a b : Expr} {ta tb : TE} {pos : Pos}
def PC (X : Cx) (op : CmpOp) (a b : Expr) (t : TE) : Prop :=
  ∀ (pins : List (Addr × Obj)) (s : Shared) (σ : St) (H : Hp) (Q : VK), Inv X pins σ H s → t σ H Q →
    wpAny (model X.prog X.w) X.A (eval a X.env) (fun v s₁ => wpAny (model X.prog X.w) X.A (eval b X.env) (fun u s₂ => wpAny (model X.prog X.w) X.A (compareOp op v u) (EP X pins σ Q) X.xe s₂) X.xe s₁) X.xe s
def tCmp (p : Int → Int → Bool) (ta tb : TE) : TE := fun σ H Q => t2I ta tb (fun i j H2 => Q (.bl (p i j)) H2) σ H
abbrev tLt : TE → TE → TE := tCmp fun i j => decide (i < j)
abbrev tLe : TE → TE → TE := tCmp fun i j => decide (i ≤ j)
abbrev tGt : TE → TE → TE := tCmp fun i j => decide (j < i)
abbrev tGe : TE → TE → TE := tCmp fun i j => decide (j ≤ i)
abbrev tEqI : TE → TE → TE := tCmp fun i j => decide (i = j)
abbrev tNeI : TE → TE → TE := tCmp fun i j => !decide (i = j)
def tIsN (ta : TE) : TE := fun σ H Q => ta σ H fun x H1 => Q (.bl (decide (x = .non))) H1
def tNotN (ta : TE) : TE := fun σ H Q => ta σ H fun x H1 => Q (.bl (!decide (x = .non))) H1
def tB (t : TE) : TT := fun σ H Q => t σ H fun x H1 => ∃ c, x = .bl c ∧ Q c H1
theorem pt_val {e : Expr} {t : TE} (h : PE X e t) (he : ∀ whole, isTrue e X.env whole = (do let v ← whole; standAt e.pos; holding [v] (truthy v)) := by intro _; rfl) : PT X e (tB t) := by
  intro pins s σ H Q I hw
  refine isTrue_plain (thn (h pins s σ H _ I hw) fun v s1 ⟨x, H1, I1, r1, q1⟩ => ?_) (he _)
  obtain ⟨d, rfl, q⟩ := q1
  cases r1
  exact wpAny_truthy_bool ⟨H1, I1, q⟩
variable {tA tB' : TT} {rest : List Expr}
def tAnd (t u : TT) : TT := fun σ H Q => t σ H fun c H1 => if c = true then u σ H1 Q else Q false H1
def tOr (t u : TT) : TT := fun σ H Q => t σ H fun c H1 => if c = true then Q true H1 else u σ H1 Q
def tNot (t : TT) : TT := fun σ H Q => t σ H fun c H1 => Q (!c) H1
theorem pw_or1 (ha : PT X a tA) : PW X (.BoolOp .Or [a] pos) tA := by
  intro wh pins s σ H Q I h
  refine isTrue_or (thn (ha pins s σ H Q I h) fun c s1 e => ?_)
  cases c with
  | false => exact isTrue_or_nil e
  | true => exact e
theorem pw_or (ha : PT X a tA) (hb : PW X (.BoolOp .Or (b :: rest) pos) tB') : PW X (.BoolOp .Or (a :: b :: rest) pos) (tOr tA tB') := by
  intro wh pins s σ H Q I h
  refine isTrue_or (thn (ha pins s σ H _ I h) fun c s1 ⟨H1, I1, q1⟩ => ?_)
  cases c with
  | true => exact ⟨H1, I1, q1⟩
  | false => exact hb wh pins s1 σ H1 Q I1 q1
theorem pt_not (ha : PT X a tA) : PT X (.UnaryOp .Not a pos) (tNot tA) := by
  intro pins s σ H Q I h
  exact isTrue_not (ha pins s σ H (fun c H1 => Q (!c) H1) I h)
def tAndV (ta tb : TE) : TE := fun σ H Q => ta σ H fun x H1 => ∃ c, x = .bl c ∧ if c = true then tb σ H1 Q else Q (.bl false) H1
def tOrV (ta tb : TE) : TE := fun σ H Q => ta σ H fun x H1 => ∃ c, x = .bl c ∧ if c = true then Q (.bl true) H1 else tb σ H1 Q
def tNotV (ta : TE) : TE := fun σ H Q => ta σ H fun x H1 => ∃ c, x = .bl c ∧ Q (.bl (!c)) H1
theorem pe_one {op} {t : TE} (h : PE X a t) : PE X (.BoolOp op [a] pos) t := fun pins s σ H Q I hw => BoolOp_one (h pins s σ H Q I hw)
theorem pe_and (ha : PE X a ta) (hb : PE X (.BoolOp .And (b :: rest) pos) tb) : PE X (.BoolOp .And (a :: b :: rest) pos) (tAndV ta tb) := by
  intro pins s σ H Q I h
  refine BoolOp_and (thn (ha pins s σ H _ I h) fun v s1 ⟨x, H1, I1, r1, q1⟩ => ?_)
  obtain ⟨c, rfl, q1⟩ := q1
  cases r1
  refine wpAny_truthy_bool ?_
  cases c with
  | true => exact hb pins s1 σ H1 Q I1 q1
  | false => exact ⟨.bl false, H1, I1, rfl, q1⟩
theorem pe_not (ha : PE X a ta) : PE X (.UnaryOp .Not a pos) (tNotV ta) := by
  intro pins s σ H Q I h
  refine UnaryOp_ (thn (ha pins s σ H _ I h) fun v s1 ⟨x, H1, I1, r1, q1⟩ => ?_)
  obtain ⟨c, rfl, q1⟩ := q1
  cases r1
  exact not_of (wpAny_truthy_bool ⟨.bl (!c), H1, I1, rfl, q1⟩)
def tIf (t : TT) (ta tb : TE) : TE := fun σ H Q => t σ H fun c H1 => if c = true then ta σ H1 Q else tb σ H1 Q
theorem pe_ifExp {c : Expr} (hc : PT X c tA) (ha : PE X a ta) (hb : PE X b tb) : PE X (.IfExp c a b pos) (tIf tA ta tb) := by
  intro pins s σ H Q I h
  refine wpAny_IfExp (thn (hc pins s σ H _ I h) fun d s1 ⟨H1, I1, q1⟩ => ?_)
  cases d with
  | true => exact ha pins s1 σ H1 Q I1 q1
  | false => exact hb pins s1 σ H1 Q I1 q1
end
end L2
namespace L2
open PySem PySem.Spec PyProof.Rows
def SqL (K : PySem.W.Frag) (H : Hp) (a : Addr) (xs : List V) : Prop :=
  Rd H a (.lst xs) ∨
    ∃ (o : Obj) (its : Array Value) (n : Nat), K.lookup a = some o ∧ o.cls = .type "list" ∧ o.dict = none ∧ o.data = .seq its n ∧ its.size ≤ sizeLine ∧ Vals xs its.toList
def SqT (K : PySem.W.Frag) (H : Hp) (a : Addr) (xs : List V) : Prop :=
  Rd H a (.tup xs) ∨
    ∃ (o : Obj) (its : Array Value) (n : Nat), K.lookup a = some o ∧ o.cls = .type "tuple" ∧ o.data = .seq its n ∧ its.size ≤ sizeLine ∧ Vals xs its.toList
def absV : Value → Option V
  | .none => some .non
  | .bool b => some (.bl b)
  | .int i _ => some (.int i)
  | .str x _ => some (.str x)
  | .bytes b _ => some (.byt b)
  | .float b _ => some (.flt b)
  | .ref a => some (.ref a)
  | .type n => some (.ty n)
  | _ => none
theorem RelV.abs {x : V} {u : Value} (r : RelV x u) : absV u = some x := by
  cases x with
  | non => cases r; rfl
  | bl _ => cases r; rfl
  | int _ => obtain ⟨t, rfl⟩ := r; rfl
  | str _ => obtain ⟨t, rfl⟩ := r; rfl
  | byt _ => obtain ⟨t, rfl⟩ := r; rfl
  | flt _ => obtain ⟨t, rfl⟩ := r; rfl
  | ref _ => cases r; rfl
  | ty _ => cases r; rfl
theorem RelV.inj {x y : V} {u : Value} (r : RelV x u) (q : RelV y u) : x = y := Option.some.inj (r.abs.symm.trans q.abs)
theorem Vals.inj : ∀ {xs ys : List V} {us : List Value}, Vals xs us → Vals ys us → xs = ys
  | _, _, _, .nil, .nil => rfl
  | _, _, _, .cons r t, .cons r' t' => by rw [r.inj r', Vals.inj t t']
section
variable {X : Cx} {pins : List (Addr × Obj)} {σ : St} {H : Hp} {s : Shared} {a : Addr} {xs ys : List V}
theorem SqL.of {K : PySem.W.Frag} (h : H a = some (.lst xs)) : SqL K H a xs := .inl (.inl h)
theorem SqT.of {K : PySem.W.Frag} (h : H a = some (.tup xs)) : SqT K H a xs := .inl (.inl h)
theorem Inv.list (I : Inv X pins σ H s) (h : SqL X.K H a xs) : ∃ its : List Value, Vals xs its ∧ PlainL s.heap a its.toArray ∧ xs.length ≤ sizeLine := by
  rcases h with h | ⟨o, its, n, hk, hc, hd, hs, hz, r⟩
  · obtain ⟨z, its, n, r, e⟩ := h.ok I.hok
    exact ⟨its, r, ⟨_, n, e, rfl, rfl, rfl⟩, z⟩
  · refine ⟨its.toList, r, ⟨o, n, I.kIn a o hk, hc, hd, by simpa using hs⟩, ?_⟩
    have e := r.length
    simp only [Array.length_toList] at e
    omega
theorem Inv.tuple (I : Inv X pins σ H s) (h : SqT X.K H a xs) : ∃ its : List Value, Vals xs its ∧ IsTup s.heap a its.toArray ∧ xs.length ≤ sizeLine := by
  rcases h with h | ⟨o, its, n, hk, hc, hs, hz, r⟩
  · obtain ⟨z, its, r, p⟩ := h.ok I.hok
    exact ⟨its, r, p, z⟩
  · refine ⟨its.toList, r, ⟨o, I.kIn a o hk, hc, n, by simpa using hs⟩, ?_⟩
    have e := r.length
    simp only [Array.length_toList] at e
    omega
theorem Inv.list_inj (I : Inv X pins σ H s) (h : SqL X.K H a xs) (h' : SqL X.K H a ys) : xs = ys := by
  obtain ⟨its, r, ⟨o, n, e, _, _, d⟩, _⟩ := I.list h
  obtain ⟨its', r', ⟨o', n', e', _, _, d'⟩, _⟩ := I.list h'
  rw [e] at e'; cases e'
  rw [d] at d'
  injection d' with d1 _
  have : its = its' := by simpa using congrArg Array.toList d1
  subst this
  exact r.inj r'
theorem Inv.tuple_inj (I : Inv X pins σ H s) (h : SqT X.K H a xs) (h' : SqT X.K H a ys) : xs = ys := by
  obtain ⟨its, r, ⟨o, e, _, n, d⟩, _⟩ := I.tuple h
  obtain ⟨its', r', ⟨o', e', _, n', d'⟩, _⟩ := I.tuple h'
  rw [e] at e'; cases e'
  rw [d] at d'
  injection d' with d1 _
  have : its = its' := by simpa using congrArg Array.toList d1
  subst this
  exact r.inj r'
end
abbrev Cx.wish (X : Cx) (E : Value → Shared → Prop) : Cx := { X with xe := E }
abbrev Cx.nox (X : Cx) : Cx := X.wish fun _ _ => False
theorem Cx.Ok.wish {X : Cx} (ok : X.Ok) (E : Value → Shared → Prop) : (X.wish E).Ok :=
  ⟨ok.mod, ok.kind, ok.glob, ok.blt, ok.above, ok.inj, ok.has, ok.cab, ok.hd, ok.frames, ok.stk, ok.exf, ok.bs, ok.bsz, ok.noex, ok.exfs, ok.funs, ok.frf⟩
theorem Cx.Ok.unwish {X : Cx} {E : Value → Shared → Prop} (ok : (X.wish E).Ok) : X.Ok :=
  ⟨ok.mod, ok.kind, ok.glob, ok.blt, ok.above, ok.inj, ok.has, ok.cab, ok.hd, ok.frames, ok.stk, ok.exf, ok.bs, ok.bsz, ok.noex, ok.exfs, ok.funs, ok.frf⟩
section
variable {X : Cx} {pins : List (Addr × Obj)} {σ : St} {H : Hp} {s : Shared} {E : Value → Shared → Prop}
theorem Inv.wish (I : Inv X pins σ H s) (E : Value → Shared → Prop) : Inv (X.wish E) pins σ H s := ⟨I.ok.wish E, I.os, I.bare, I.base, I.loc, I.cell, I.free, I.freeC, I.pin, I.hok, I.len⟩
theorem Inv.unwish (I : Inv (X.wish E) pins σ H s) : Inv X pins σ H s := ⟨I.ok.unwish, I.os, I.bare, I.base, I.loc, I.cell, I.free, I.freeC, I.pin, I.hok, I.len⟩
theorem SP.unwish {D : Ends} {f : Flow} {s' : Shared} (h : SP (X.wish E) pins D f s') : SP X pins D f s' := by
  cases f with
  | next => obtain ⟨σ', H', I, q⟩ := h; exact ⟨σ', H', I.unwish, q⟩
  | brk => obtain ⟨σ', H', I, q⟩ := h; exact ⟨σ', H', I.unwish, q⟩
  | cont => obtain ⟨σ', H', I, q⟩ := h; exact ⟨σ', H', I.unwish, q⟩
  | ret u => obtain ⟨v, σ', H', I, r, q⟩ := h; exact ⟨v, σ', H', I.unwish, r, q⟩
theorem PSs.nox {st : List Stmt} {t : TS} (h : PSs X.nox st t) : PSs X st t := fun pins s σ H D I hw =>
  wpAny_mono (h pins s σ H D (I.wish _) hw) (fun _ _ q => q.unwish) fun _ _ z => False.elim z
end
section
variable {X : Cx} {st : Stmt} {rest : List Stmt} {t u : TS} {e : Expr} {te : TE} {pos : Pos}
def tNext : TS := fun D σ H => D.nx σ H
def tSeq (t u : TS) : TS := fun D σ H => t { D with nx := u D } σ H
theorem pss_nil : PSs X [] tNext := fun _ _ σ H _ I h => wpAny_execs_nil ⟨σ, H, I, h⟩
theorem pss_cons (h1 : PS X st t) (h2 : PSs X rest u) : PSs X (st :: rest) (tSeq t u) := by
  intro pins s σ H D I h
  refine wpAny_execs_cons (thn (h1 pins s σ H { D with nx := u D } I h) fun f s1 q => ?_)
  cases f with
  | next =>
    obtain ⟨σ', H', I', q⟩ := q
    exact h2 pins s1 σ' H' D I' q
  | ret v => exact q
  | brk => exact q
  | cont => exact q
theorem pss_one (h1 : PS X st t) : PSs X [st] t := by
  intro pins s σ H D I h
  refine wpAny_execs_cons (thn (h1 pins s σ H D I h) fun f s1 q => ?_)
  cases f with
  | next => exact wpAny_execs_nil q
  | ret v => exact q
  | brk => exact q
  | cont => exact q
def tBreak : TS := fun D σ H => D.bk σ H
def tCont : TS := fun D σ H => D.ct σ H
theorem Inv.quiet {pins : List (Addr × Obj)} {σ : St} {H : Hp} {s : Shared} (I : Inv X pins σ H s) : interactive X.env = false := by simp [interactive, I.ok.kind]
def tDrop (te : TE) : TS := fun D σ H => te σ H fun _ H1 => D.nx σ H1
theorem ps_expr (he : PE X e te) (hs : swapsWith e none pos.line X.env = pure false := by rfl) : PS X (.Expr e pos) (tDrop te) := by
  intro pins s σ H D I h
  exact wpAny_Expr_any (thn (he pins s σ H _ I h) fun v s1 ⟨x, H1, I1, r1, q1⟩ => ⟨σ, H1, I1, q1⟩) I.quiet hs
def tRet (te : TE) : TS := fun D σ H => te σ H D.rt
theorem ps_ret (he : PE X e te) : PS X (.Return (some e) pos) (tRet te) := by
  intro pins s σ H D I h
  exact wpAny_Return_some (thn (he pins s σ H _ I h) fun v s1 ⟨x, H1, I1, r1, q1⟩ => ⟨x, σ, H1, I1, r1, q1⟩)
def tRetN : TS := fun D _ H => D.rt .non H
def tIfS (c : TT) (t u : TS) : TS := fun D σ H => c σ H fun b H1 => if b = true then t D σ H1 else u D σ H1
theorem ps_if {c : Expr} {a b : List Stmt} {tc : TT} (hc : PT X c tc) (ha : PSs X a t) (hb : PSs X b u) : PS X (.If c a b pos) (tIfS tc t u) := by
  intro pins s σ H D I h
  refine wpAny_If (thn (hc pins s σ H _ I h) fun d s1 ⟨H1, I1, q1⟩ => ?_)
  cases d with
  | true => exact ha pins s1 σ H1 D I1 q1
  | false => exact hb pins s1 σ H1 D I1 q1
def tNever : TS := fun _ _ _ => False
end
abbrev TG := V → St → Hp → (St → Hp → Prop) → Prop
abbrev TGs := List V → St → Hp → (St → Hp → Prop) → Prop
def PG (X : Cx) (target : Expr) (t : TG) : Prop :=
  ∀ (pins : List (Addr × Obj)) (s : Shared) (σ : St) (H : Hp) (v : V) (u : Value) (Q : St → Hp → Prop), Inv X pins σ H s → RelV v u → t v σ H Q →
    wpAny (model X.prog X.w) X.A (assign target X.env u) (fun _ s' => ∃ σ' H', Inv X pins σ' H' s' ∧ Q σ' H') X.xe s
def PGs (X : Cx) (ts : List Expr) (t : TGs) : Prop :=
  ∀ (pins : List (Addr × Obj)) (s : Shared) (σ : St) (H : Hp) (vs : List V) (us : List Value) (Q : St → Hp → Prop), Inv X pins σ H s → Vals vs us → t vs σ H Q →
    wpAny (model X.prog X.w) X.A (assignInOrder ((assignEach ts X.env).map (·.2)) us) (fun _ s' => ∃ σ' H', Inv X pins σ' H' s' ∧ Q σ' H') X.xe s
abbrev TSet := V → V → V → Hp → (Hp → Prop) → Prop
def PSet (X : Cx) (t : TSet) : Prop :=
  ∀ (pins : List (Addr × Obj)) (s : Shared) (σ : St) (H : Hp) (o i v : V) (ov iv u : Value) (Q : Hp → Prop), Inv X pins σ H s → RelV o ov → RelV i iv → RelV v u → t o i v H Q →
    wpAny (model X.prog X.w) X.A (setItem ov iv u) (fun _ s' => ∃ H', Inv X pins σ H' s' ∧ Q H') X.xe s
abbrev TIp := V → V → Hp → VK → Prop
def PIp (X : Cx) (op : Operator) (t : TIp) : Prop :=
  ∀ (pins : List (Addr × Obj)) (s : Shared) (σ : St) (H : Hp) (x y : V) (v u : Value) (Q : VK), Inv X pins σ H s → RelV x v → RelV y u → t x y H Q →
    wpAny (model X.prog X.w) X.A (inplaceOp op v u) (EP X pins σ Q) X.xe s
section
variable {X : Cx} {pos : Pos}
def gName (i : Nat) : TG := fun v σ H Q => Q (σ.set i (some v)) H
theorem pg_name {i : Nat} {x : Str} (hN : X.N.Nodup) (hi : X.N[i]? = some x) (hx : Loc X.env.scope x) (hf : X.fn x = true ∨ X.env.scope.names.lookup x = some .local := by first | exact .inl rfl | exact .inr rfl | assumption) : PG X (.Name x pos) (gName i) := by
  intro pins s σ H v u Q I r h
  exact wpAny_assign_Name (store_ok I hN hi hx r (fun s' I' => ⟨_, H, I', h⟩) hf)
def gNil : TGs := fun vs σ H Q => vs = [] ∧ Q σ H
def gCons (t : TG) (u : TGs) : TGs := fun vs σ H Q => ∃ v r, vs = v :: r ∧ t v σ H fun σ' H' => u r σ' H' Q
theorem pgs_nil : PGs X [] gNil := by
  intro pins s σ H vs us Q I r h
  obtain ⟨e, h⟩ := h
  subst e
  cases r
  exact assignInOrder_nil ⟨σ, H, I, h⟩
theorem pgs_cons {e : Expr} {es : List Expr} {t : TG} {u : TGs} (h1 : PG X e t) (h2 : PGs X es u)
    (hs : (assignEach (e :: es) X.env).map (·.2) = assign e X.env :: (assignEach es X.env).map (·.2) := by rfl) : PGs X (e :: es) (gCons t u) := by
  intro pins s σ H vs us Q I r h
  obtain ⟨v, vr, e1, h⟩ := h
  subst e1
  cases r with
  | cons r rr =>
    rw [hs]
    refine assignInOrder_cons (thn (h1 pins s σ H _ _ _ I r h) fun _ s1 ⟨σ1, H1, I1, q1⟩ => ?_)
    exact h2 pins s1 σ1 H1 _ _ Q I1 rr q1
def gTup (K : PySem.W.Frag) (n : Nat) (t : TGs) : TG := fun v σ H Q => ∃ a xs, v = .ref a ∧ SqT K H a xs ∧ xs.length = n ∧ t xs σ H Q
theorem pg_tup {es : List Expr} {k : Nat} {t : TGs} {n : Nat} (hc : X.calm = true) (h : PGs X es t)
    (hn : (assignEach es X.env).length = n := by rfl) (hst : (assignEach es X.env).findIdx? (·.1) = none := by rfl) : PG X (.Tuple es k pos) (gTup X.K n t) := by
  intro pins s σ H v u Q I r hw
  obtain ⟨a, xs, e1, hq, hl, hw⟩ := hw
  subst e1
  cases r
  obtain ⟨its, rv, ht, hz⟩ := I.tuple hq
  refine assign_Tuple_tuple (I.ok.hd hc) ht (by simp [hn, ← hl, rv.length]) hst fun h' hx => ?_
  have I1 : Inv X pins σ H { s with heap := h' } := I.kept (t' := s.toks) fun b o e => hx b o (Nat.ne_of_lt (Heap.lt_size e)) e
  exact h pins _ σ H xs _ Q I1 (by simpa using rv) hw
def gSub (to ti : TE) (t : TSet) : TG := fun v σ H Q => to σ H fun o H1 => ti σ H1 fun i H2 => t o i v H2 fun H3 => Q σ H3
theorem pg_sub {o i : Expr} {to ti : TE} {t : TSet} (ho : PE X o to) (hi : PE X i ti) (hs : PSet X t)
    (ha : ∀ v, assign (.Subscript o i pos) X.env v = (do
      let ov ← holding [v] (eval o X.env)
      let iv ← holding [v, ov] (eval i X.env)
      standAt pos
      holding [v, ov, iv] (setItem ov iv v)
      release [v, ov, iv] []) := by intro _; rfl) : PG X (.Subscript o i pos) (gSub to ti t) := by
  intro pins s σ H v u Q I r h
  rw [ha]
  refine wpAny_bind (wpAny_holding (thn (ho pins s σ H _ I h) fun ov s1 ⟨x, H1, I1, r1, q1⟩ => ?_))
  refine wpAny_bind (wpAny_holding (thn (hi pins s1 σ H1 _ I1 q1) fun iv s2 ⟨y, H2, I2, r2, q2⟩ => ?_))
  refine wpAny_bind (wpAny_standAt (wpAny_bind (wpAny_holding (thn (hs pins s2 σ H2 x y v ov iv u _ I2 r1 r2 r q2) fun _ s3 ⟨H3, I3, q3⟩ => ?_))))
  exact wpAny_release ⟨σ, H3, I3, q3⟩
def tAsg (te : TE) (g : TG) : TS := fun D σ H => te σ H fun x H1 => g x σ H1 D.nx
theorem ps_asg {tg e : Expr} {te : TE} {g : TG} (he : PE X e te) (hg : PG X tg g) (hs : swapsWithSole [tg] e pos.line X.env = pure false := by rfl) (hw : swappedStores [tg] e X.env = pure none := by rfl)
    (h1 : (assignEach [tg] X.env).map (·.2) = [assign tg X.env] := by rfl) : PS X (.Assign [tg] e pos) (tAsg te g) := by
  intro pins s σ H D I h
  refine wpAny_Assign_stores (thn (he pins s σ H _ I h) fun v s1 ⟨x, H1, I1, r1, q1⟩ => ?_) hs hw
  rw [h1]
  exact thn (hg pins s1 σ H1 x v _ I1 r1 q1) fun _ s2 q => q
theorem ps_set {i : Nat} {x : Str} {e : Expr} {te : TE} {pos' : Pos} (hN : X.N.Nodup) (hi : X.N[i]? = some x) (hx : Loc X.env.scope x) (he : PE X e te) (hs : swapsWith e (some (.Name x pos')) pos.line X.env = pure false := by rfl) (hf : X.fn x = true ∨ X.env.scope.names.lookup x = some .local := by first | exact .inl rfl | exact .inr rfl | assumption) :
    PS X (.Assign [.Name x pos'] e pos) (tAsg te (gName i)) := by
  intro pins s σ H D I h
  refine wpAny_Assign_Name (thn (he pins s σ H _ I h) fun v s1 ⟨y, H1, I1, r1, q1⟩ => ?_) hs
  exact store_ok I1 hN hi hx r1 (fun s2 I2 => ⟨_, H1, I2, q1⟩) hf
def tPar (i j : Nat) (ta : TA) : TS := fun D σ H => ta σ H fun vs H1 => ∃ v w, vs = [v, w] ∧ D.nx ((σ.set i (some v)).set j (some w)) H1
theorem ps_par {i j : Nat} {x y : Str} {a b : Expr} {ta : TA} {px py pt : Pos} {kt k2 pt2} (hc : X.calm = true) (hN : X.N.Nodup) (hi : X.N[i]? = some x) (hj : X.N[j]? = some y) (hij : i ≠ j)
    (hx : X.env.scope.names.lookup x = some .local) (hy : X.env.scope.names.lookup y = some .local) (ha : PA X [a, b] ta)
    (hw : swappedStores [.Tuple [.Name x px, .Name y py] kt pt] (.Tuple [a, b] k2 pt2) X.env = pure (some [x, y]))
    (hs : swapsWithSole [.Tuple [.Name x px, .Name y py] kt pt] (.Tuple [a, b] k2 pt2) pos.line X.env = pure false := by rfl) :
    PS X (.Assign [.Tuple [.Name x px, .Name y py] kt pt] (.Tuple [a, b] k2 pt2) pos) (tPar i j ta) := by
  intro pins s σ H D I h
  rw [exec_Assign_arm]
  refine wpAny_bind (wpAny_standAt ?_)
  rw [hs]
  refine wpAny_bind (wpAny_pure ?_)
  rw [if_neg (by decide)]
  refine wpAny_bind (Tuple_ (thn (ha _ pins s σ H _ I h) fun us s1 ⟨vs, H1, I1, r1, q1⟩ => ?_))
  obtain ⟨v, w, e1, q1⟩ := q1
  subst e1
  obtain ⟨u1, u2, rfl, rv, rw'⟩ : ∃ u1 u2, us = [u1, u2] ∧ RelV v u1 ∧ RelV w u2 := by
    cases r1 with
    | cons p q =>
      cases q with
      | cons p' q' =>
        cases q'
        exact ⟨_, _, rfl, p, p'⟩
  refine wpAny_newObj_type ?_ (by show 2 ≤ sizeLine; decide)
  have I2 : Inv X pins σ H1 { s1 with heap := s1.heap.push { cls := .type "tuple", data := .seq [u1, u2].toArray } } := I1.kept (t' := s1.toks) fun b o e => Heap.get?_push_of_some _ e
  rw [hw]
  refine wpAny_bind (wpAny_pure ?_)
  show wpAny (model X.prog X.w) X.A (do rule "assign.swapped-stores"; let items ← unpackItems (.ref s1.heap.objs.size) 2 none; assignInOrder [fun v => bindName X.env y v, fun v => bindName X.env x v] items.reverse; pure Flow.next) _ _ _
  refine wpAny_bind (wpAny_rule (wpAny_bind (unpackItems_tuple (items := #[u1, u2]) (I.ok.hd hc) (IsTup.new s1.heap _) fun h' hx' => ?_)))
  have I3 := I2.kept (h' := h') (t' := s1.toks) fun b o e => hx' b o (Nat.ne_of_lt (Heap.lt_size e)) e
  show wpAny _ _ (assignInOrder [fun v => bindName X.env y v, fun v => bindName X.env x v] [u2, u1] >>= fun _ => pure Flow.next) _ _ _
  refine wpAny_bind (assignInOrder_cons (wpAny_bindName (store_ok I3 hN hj (.inl hy) rw' (fun s2 I4 => ?_) (.inr hy))))
  refine assignInOrder_cons (wpAny_bindName (store_ok I4 hN hi (.inl hx) rv (fun s3 I5 => assignInOrder_nil (wpAny_pure ?_)) (.inr hx)))
  rw [List.set_comm _ _ (Ne.symm hij)] at I5
  exact ⟨_, H1, I5, q1⟩
def tAug (i : Nat) (te : TE) (ti : TIp) : TS := fun D σ H => ∃ x, σ[i]? = some (some x) ∧ te σ H fun y H1 => ti x y H1 fun z H2 => D.nx (σ.set i (some z)) H2
theorem ps_aug {i : Nat} {x : Str} {e : Expr} {te : TE} {op : Operator} {ti : TIp} {pos' : Pos} (hN : X.N.Nodup) (hi : X.N[i]? = some x) (hx : Loc X.env.scope x) (he : PE X e te) (ho : PIp X op ti) (hf : X.fn x = true ∨ X.env.scope.names.lookup x = some .local := by first | exact .inl rfl | exact .inr rfl | assumption) :
    PS X (.AugAssign (.Name x pos') op e pos) (tAug i te ti) := by
  intro pins s σ H D I h
  obtain ⟨v, e1, h⟩ := h
  obtain ⟨m, hn, hl⟩ := I.loc
  have vis : Vis X.env.scope x := by rcases hx with k | k; exact .inl k; exact .inr (.inl k)
  obtain ⟨u, r, l⟩ := hl i x v hi e1 vis
  refine wpAny_AugAssign_Name ?_
  have go : wpAny (model X.prog X.w) X.A (eval e X.env) (fun w s₂ => wpAny (model X.prog X.w) X.A (inplaceOp op u w) (fun r s₃ => wpAny (model X.prog X.w) X.A (storeName X.env x r) (fun _ => SP X pins D .next) X.xe s₃) X.xe s₂) X.xe s := by
    refine thn (he pins s σ H _ I h) fun w s1 ⟨y, H1, I1, r1, q1⟩ => ?_
    refine thn (ho pins s1 σ H1 v y u w _ I1 r r1 q1) fun z s2 ⟨zv, H2, I2, r2, q2⟩ => ?_
    exact store_ok I2 hN hi hx r2 (fun s3 I3 => ⟨_, H2, I3, q2⟩) hf
  rcases l with ⟨hk, hm⟩ | ⟨hk, c, hc, hcell⟩
  · exact wpAny_loadName_local I.ok.kind hk hn hm go
  · rcases hk with hk | hk
    · exact wpAny_loadName_cell I.ok.kind hk hc hcell go
    · rcases hx with k | k
      · have : X.env.scope.names.lookup x = some .free := hk
        rw [k] at this; cases this
      · have : X.env.scope.names.lookup x = some .free := hk
        rw [k] at this; cases this
def tAugS (to ti te : TE) (tget : V → V → Hp → VK → Prop) (tip : TIp) (tset : TSet) : TS := fun D σ H => to σ H fun o H1 => ti σ H1 fun i H2 => tget o i H2 fun x H3 => te σ H3 fun y H4 => tip x y H4 fun z H5 => tset o i z H5 fun H6 => D.nx σ H6
def PGet (X : Cx) (t : V → V → Hp → VK → Prop) : Prop :=
  ∀ (pins : List (Addr × Obj)) (s : Shared) (σ : St) (H : Hp) (o i : V) (ov iv : Value) (Q : VK), Inv X pins σ H s → RelV o ov → RelV i iv → t o i H Q →
    wpAny (model X.prog X.w) X.A (getItem ov iv) (EP X pins σ Q) X.xe s
def ipI (f : Int → Int → Int) : TIp := fun x y H Q => ∃ i j, x = .int i ∧ y = .int j ∧ Q (.int (f i j)) H
theorem ip_add : PIp X .Add (ipI fun i j => i + j) := by
  intro pins s σ H x y v u Q I r1 r2 h
  obtain ⟨i, j, e1, e2, q⟩ := h
  subst e1; subst e2
  obtain ⟨t, rfl⟩ := r1
  obtain ⟨t', rfl⟩ := r2
  exact iadd_int ⟨.int _, H, I.tok _, ⟨_, rfl⟩, q⟩
end
section
variable {X : Cx} {pos : Pos}
def tWhile (c : TT) (tb : TS) : TS := fun D σ H => ∃ W : Nat → St → Hp → Prop, (∃ m, W m σ H) ∧ ∀ m σ H, W m σ H →
  c σ H fun b H1 => if b = true then ∃ N : St → Hp → Prop, (∀ σ' H', N σ' H' → ∃ m', m' < m ∧ W m' σ' H') ∧ tb { D with nx := N, ct := N, bk := D.nx } σ H1 else D.nx σ H1
theorem ps_while {c : Expr} {body : List Stmt} {tc : TT} {tb : TS} (hp : PassesOwn (model X.prog X.w) X.A X.env X.xe) (hc : PT X c tc) (hb : PSs X body tb) : PS X (.While c body [] pos) (tWhile tc tb) := by
  intro pins s σ H D I h
  obtain ⟨W, ⟨m0, w0⟩, turn⟩ := h
  refine wpAny_While (codeAny_whileLoop (fun n s' => ∃ σ' H', Inv X pins σ' H' s' ∧ W n σ' H') ?_ m0 ⟨σ, H, I, w0⟩)
  rintro n s1 ⟨σ1, H1, I1, w1⟩
  refine wpAny_passesOwn hp (thn (hc pins s1 σ1 H1 _ I1 (turn n σ1 H1 w1)) fun b s2 ⟨H2, I2, q2⟩ => ?_)
  cases b with
  | true =>
    obtain ⟨N, hN, q2⟩ := q2
    rw [if_pos rfl]
    refine wpAny_passesOwn hp (thn (hb pins s2 σ1 H2 _ I2 q2) fun f s3 q3 => ?_)
    cases f with
    | next =>
      obtain ⟨σ3, H3, I3, n3⟩ := q3
      obtain ⟨m', hm, w3⟩ := hN σ3 H3 n3
      exact ⟨m', hm, σ3, H3, I3, w3⟩
    | cont =>
      obtain ⟨σ3, H3, I3, n3⟩ := q3
      obtain ⟨m', hm, w3⟩ := hN σ3 H3 n3
      exact ⟨m', hm, σ3, H3, I3, w3⟩
    | brk => exact q3
    | ret v => exact q3
  | false =>
    rw [if_neg Bool.false_ne_true]
    exact wpAny_execs_nil ⟨σ1, H2, I2, q2⟩
end
structure It where
  go : Nat → Hp → Prop
  yld : Nat → Hp → V → Hp → Prop
  stop : Nat → Hp → Prop
def FpOk (X : Cx) (pins : List (Addr × Obj)) (H : Hp) (b : Addr) : Prop :=
  H b = none ∧ b ≠ X.env.locals ∧ b ∉ X.fs ∧ (b ∈ X.ex ∨ X.s₀.heap.objs.size ≤ b) ∧ (∀ x c, X.env.cells.lookup x = some c → c ≠ b) ∧ ∀ p ∈ X.pn ++ pins, p.1 ≠ b
theorem Inv.fpOk {X : Cx} {pins : List (Addr × Obj)} {σ : St} {H H' : Hp} {s : Shared} {b : Addr} (I : Inv X pins σ H s) (hb : s.heap.objs.size ≤ b) (hn : H' b = none) : FpOk X pins H' b := by
  refine ⟨hn, Nat.ne_of_gt (Nat.lt_of_lt_of_le I.lt hb), I.nofs hb, .inr (Nat.le_trans I.sz hb), fun x c e z => ?_, fun p hp z => ?_⟩
  · obtain ⟨v, q⟩ := I.cell x c e
    exact absurd (Nat.lt_of_lt_of_le q.lt (by rw [z]; exact hb)) (Nat.lt_irrefl _)
  · exact absurd (Nat.lt_of_lt_of_le (Heap.lt_size (I.pin p hp).1) (by rw [z]; exact hb)) (Nat.lt_irrefl _)
structure Turn (P : Program) (w : World) (K : PySem.W.Frag) (tg : Expr) (J : It) (fp : List Addr) (it : Addr) (tn : Nat → Heap → Prop) : Prop where
  mem : it ∈ fp
  obj : ∀ i h, tn i h → ∀ b ∈ fp, ∃ o, h.get? b = some o ∧ ∀ v, o.data ≠ .cell v
  keep : ∀ i h h', tn i h → (∀ b ∈ fp, ∀ o, h.get? b = some o → h'.get? b = some o) → tn i h'
  item : ∀ (X : Cx), X.prog = P → X.w = w → X.K = K → X.calm = true → ∀ (i : Nat) (pins : List (Addr × Obj)) (s : Shared) (σ : St) (H : Hp) (E : Value → Shared → Prop), Inv X pins σ H s → (∀ b ∈ fp, FpOk X pins H b) → tn i s.heap → J.go i H →
    wpAny (model P w) X.A (pyNext (.ref it)) (fun r s1 => ∃ u, r = some u ∧
      wpAny (model P w) X.A (letOwnedTupleGo tg (.ref it) u) (fun _ s2 => ∃ x H', Inv X pins σ H' s2 ∧ RelV x u ∧ J.yld i H x H' ∧ tn (i + 1) s2.heap ∧ ∀ b ∈ fp, H' b = none) E s1) E s
  done : ∀ (X : Cx), X.prog = P → X.w = w → X.K = K → X.calm = true → ∀ (i : Nat) (pins : List (Addr × Obj)) (s : Shared) (σ : St) (H : Hp) (E : Value → Shared → Prop), Inv X pins σ H s → (∀ b ∈ fp, FpOk X pins H b) → tn i s.heap → J.stop i H →
    wpAny (model P w) X.A (pyNext (.ref it)) (fun r s1 => r = none ∧ Inv X pins σ H s1) E s
  self : ∀ (A : Around) (i : Nat) (s : Shared) (Q : Value → Shared → Prop) (E : Value → Shared → Prop), tn i s.heap → Q (.ref it) s → wpAny (model P w) A (pyIter (.ref it)) Q E s
abbrev TI := St → Hp → (It → Hp → Prop) → Prop
def PIE (X : Cx) (pins : List (Addr × Obj)) (σ : St) (tg : Expr) (R : It → Hp → Prop) (itv : Value) (s2 : Shared) : Prop :=
  ∃ (it : Addr) (fp : List Addr) (tn : Nat → Heap → Prop) (J : It) (H' : Hp), itv = .ref it ∧ Inv X pins σ H' s2 ∧ Turn X.prog X.w X.K tg J fp it tn ∧ tn 0 s2.heap ∧ (∀ b ∈ fp, FpOk X pins H' b) ∧ R J H'
def PI (X : Cx) (tg iter : Expr) (wi : TI) : Prop :=
  ∀ (pins : List (Addr × Obj)) (s : Shared) (σ : St) (H : Hp) (R : It → Hp → Prop), Inv X pins σ H s → wi σ H R →
    wpAny (model X.prog X.w) X.A (eval iter X.env) (fun v s1 => wpAny (model X.prog X.w) X.A (pyIter v) (PIE X pins σ tg R) X.xe s1) X.xe s
theorem go_of {M : Model} {A : Around} {E : Value → Shared → Prop} {s : Shared} {tg : Expr} {it : Addr} {u : Value} {o : Obj} {n : String} {vs : Array Value} {Q : Unit → Shared → Prop} (ho : s.heap.get? it = some o) (hc : o.cls = .type n) (hd : o.data = .fields vs)
    (hn : ["enumerate", "zip", "dict_itemiterator", "dict_reverseitemiterator", "odict_iterator", "itertools.zip_longest", "itertools.pairwise"].contains n = false) (hQ : Q () s) : wpAny M A (letOwnedTupleGo tg (.ref it) u) Q E s := by
  unfold letOwnedTupleGo
  cases tg <;> first
    | exact wpAny_pure hQ
    | (cases u <;> first
        | exact wpAny_pure hQ
        | (refine wpAny_bind (wpAny_load ho ?_)
           rw [hc, hd]
           show wpAny M A (if (["enumerate", "zip", "dict_itemiterator", "dict_reverseitemiterator", "odict_iterator", "itertools.zip_longest", "itertools.pairwise"].contains n && vs[0]? == some (rawInt _)) = true then _ else _) Q E s
           rw [if_neg (by intro h; rw [hn, Bool.false_and] at h; cases h)]
           exact wpAny_pure hQ))
def Itl (K : PySem.W.Frag) (a : Addr) : It :=
  ⟨fun i H => ∃ xs x, SqL K H a xs ∧ xs[i]? = some x, fun i H x H' => H' = H ∧ ∀ xs, SqL K H a xs → xs[i]? = some x, fun i H => ∃ xs, SqL K H a xs ∧ xs.length ≤ i⟩
def Itt (K : PySem.W.Frag) (a : Addr) : It :=
  ⟨fun i H => ∃ xs x, SqT K H a xs ∧ xs[i]? = some x, fun i H x H' => H' = H ∧ ∀ xs, SqT K H a xs → xs[i]? = some x, fun i H => ∃ xs, SqT K H a xs ∧ xs.length ≤ i⟩
def Itr (lo : Int) (n : Nat) : It := ⟨fun i _ => i < n, fun i H x H' => H' = H ∧ x = .int (lo + i), fun i _ => n ≤ i⟩
theorem turn_list {P : Program} {w : World} {K : PySem.W.Frag} {tg : Expr} (a it : Addr) : Turn P w K tg (Itl K a) [it] it (fun i h => h.IsListIter it a i) where
  mem := by simp
  obj := fun i h st b hb => by
    have e : b = it := by simpa using hb
    subst e
    obtain ⟨o, e, c, d⟩ := st
    exact ⟨o, e, fun v z => by rw [d] at z; cases z⟩
  keep := fun i h h' st k => st.at fun o e => k it (by simp) o e
  item := by
    intro X hP hw hK hc i pins s σ H E I hf st hg
    subst hP hw hK
    obtain ⟨xs, x, hq, hx⟩ := hg
    obtain ⟨its, rv, p, hz⟩ := I.list hq
    obtain ⟨u, hu, ru⟩ := rv.get hx
    obtain ⟨f0, f1, f2, f3, f4, f5⟩ := hf it (by simp)
    refine wpAny_pyNext_list_item st p.isList (x := u) (by simpa using hu) fun h' st' sb => ?_
    have I1 : Inv X pins σ H { s with heap := h' } := I.turned (t' := s.toks) (fun b o hb e => (sb.2 b hb).trans e) f0 f1 f3 f4 f5
    obtain ⟨o, e, c, d⟩ := id st'
    exact ⟨u, rfl, go_of (s := { s with heap := h' }) e c d (by decide) ⟨x, H, I1, ru, ⟨rfl, fun ys hy => by rw [I.list_inj hy hq]; exact hx⟩, st', fun b hb => (hf b hb).1⟩⟩
  done := by
    intro X hP hw hK hc i pins s σ H E I hf st hg
    subst hP hw hK
    obtain ⟨xs, hq, hx⟩ := hg
    obtain ⟨its, rv, p, hz⟩ := I.list hq
    obtain ⟨f0, f1, f2, f3, f4, f5⟩ := hf it (by simp)
    have hl := rv.length
    exact wpAny_pyNext_list_end (I.ok.hd hc) st p.isList (by simp; omega) fun h' eb => ⟨rfl, I.turned (t' := s.toks) (fun b o hb e => eb b o hb e) f0 f1 f3 f4 f5⟩
  self := fun _ _ _ _ _ st h => wpAny_pyIter_listiter st h
theorem turn_tuple {P : Program} {w : World} {K : PySem.W.Frag} {tg : Expr} (a it : Addr) : Turn P w K tg (Itt K a) [it] it (fun i h => h.IsTupleIter it a i) where
  mem := by simp
  obj := fun i h st b hb => by
    have e : b = it := by simpa using hb
    subst e
    obtain ⟨o, e, c, d⟩ := st
    exact ⟨o, e, fun v z => by rw [d] at z; cases z⟩
  keep := fun i h h' st k => st.at fun o e => k it (by simp) o e
  item := by
    intro X hP hw hK hc i pins s σ H E I hf st hg
    subst hP hw hK
    obtain ⟨xs, x, hq, hx⟩ := hg
    obtain ⟨its, rv, p, hz⟩ := I.tuple hq
    obtain ⟨u, hu, ru⟩ := rv.get hx
    obtain ⟨f0, f1, f2, f3, f4, f5⟩ := hf it (by simp)
    refine wpAny_pyNext_tuple_item st (show s.heap.IsTuple a its.toArray from p) (x := u) (by simpa using hu) fun h' st' sb => ?_
    have I1 : Inv X pins σ H { s with heap := h' } := I.turned (t' := s.toks) (fun b o hb e => (sb.2 b hb).trans e) f0 f1 f3 f4 f5
    obtain ⟨o, e, c, d⟩ := id st'
    exact ⟨u, rfl, go_of (s := { s with heap := h' }) e c d (by decide) ⟨x, H, I1, ru, ⟨rfl, fun ys hy => by rw [I.tuple_inj hy hq]; exact hx⟩, st', fun b hb => (hf b hb).1⟩⟩
  done := by
    intro X hP hw hK hc i pins s σ H E I hf st hg
    subst hP hw hK
    obtain ⟨xs, hq, hx⟩ := hg
    obtain ⟨its, rv, p, hz⟩ := I.tuple hq
    obtain ⟨f0, f1, f2, f3, f4, f5⟩ := hf it (by simp)
    have hl := rv.length
    exact wpAny_pyNext_tuple_end (I.ok.hd hc) st (show s.heap.IsTuple a its.toArray from p) (by simp; omega) fun h' eb => ⟨rfl, I.turned (t' := s.toks) (fun b o hb e => eb b o hb e) f0 f1 f3 f4 f5⟩
  self := fun _ _ _ _ _ st h => wpAny_pyIter_tupleiter st h
theorem turn_range {P : Program} {w : World} {K : PySem.W.Frag} {tg : Expr} (it : Addr) (lo : Int) (n : Nat) : Turn P w K tg (Itr lo n) [it] it (fun i h => IsRangeIter h it (lo + (i : Nat) * 1) ((n : Int) - (i : Nat)) 1) where
  mem := by simp
  obj := fun i h st b hb => by
    have e : b = it := by simpa using hb
    subst e
    exact ⟨_, st, fun v z => by
      have z' : Data.fields _ = Data.cell v := z
      cases z'⟩
  keep := fun i h h' st k => k it (by simp) _ st
  item := by
    intro X hP hw hK hc i pins s σ H E I hf st hg
    subst hP hw hK
    obtain ⟨f0, f1, f2, f3, f4, f5⟩ := hf it (by simp)
    have W := Walks.range (prog := X.prog) (w := X.w) (I.ok.hd hc) it lo 1 n
    refine W.item i s _ _ hg st fun v h' tk hv st' kk => ?_
    obtain ⟨t, rfl⟩ := hv
    have I1 : Inv X pins σ H { s with heap := h', toks := tk } := I.turned (fun b o hb e => kk b o (by simpa using hb) e) f0 f1 f3 f4 f5
    refine ⟨_, rfl, go_of (s := { s with heap := h', toks := tk }) (n := "range_iterator") st' rfl rfl (by decide) ⟨.int (lo + i), H, I1, ⟨t, ?_⟩, ⟨rfl, rfl⟩, st', fun b hb => (hf b hb).1⟩⟩
    rw [Int.mul_one]
  done := by
    intro X hP hw hK hc i pins s σ H E I hf st hg
    subst hP hw hK
    obtain ⟨f0, f1, f2, f3, f4, f5⟩ := hf it (by simp)
    exact wpAny_pyNext_range_end (I.ok.hd hc) st (by have : n ≤ i := hg; omega) fun h' eb => ⟨rfl, I.turned (t' := s.toks) (fun b o hb e => eb b o hb e) f0 f1 f3 f4 f5⟩
  self := fun _ _ _ _ _ st h => wpAny_pyIter_rangeiter st h
end L2
namespace L2
open PySem PySem.Spec PyProof.Rows
section
variable {X : Cx} {tg : Expr}
def iList (K : PySem.W.Frag) (tl : TE) : TI := fun σ H R => tl σ H fun x H1 => ∃ a, x = .ref a ∧ (∃ xs, SqL K H1 a xs) ∧ R (Itl K a) H1
def iTup (K : PySem.W.Frag) (tl : TE) : TI := fun σ H R => tl σ H fun x H1 => ∃ a, x = .ref a ∧ (∃ xs, SqT K H1 a xs) ∧ R (Itt K a) H1
theorem pi_list {l : Expr} {tl : TE} (hl : PE X l tl) : PI X tg l (iList X.K tl) := by
  intro pins s σ H R I h
  refine thn (hl pins s σ H _ I h) fun v s1 ⟨x, H1, I1, r1, q1⟩ => ?_
  obtain ⟨a, e, ⟨xs, hq⟩, q⟩ := q1
  subst e
  cases r1
  obtain ⟨its, rv, p, hz⟩ := I1.list hq
  refine wpAny_pyIter_list p.isList ?_
  refine ⟨s1.heap.objs.size, [s1.heap.objs.size], _, _, H1, rfl, I1.kept (t' := s1.toks) fun b o e => Heap.get?_push_of_some _ e, turn_list a _, ⟨_, Heap.get?_push_size _ rfl, rfl, rfl⟩, fun b hb => ?_, q⟩
  have e : b = s1.heap.objs.size := by simpa using hb
  subst e
  exact I1.fpOk (Nat.le_refl _) (I1.hok.fresh (Nat.le_refl _))
theorem pi_tup {l : Expr} {tl : TE} (hl : PE X l tl) : PI X tg l (iTup X.K tl) := by
  intro pins s σ H R I h
  refine thn (hl pins s σ H _ I h) fun v s1 ⟨x, H1, I1, r1, q1⟩ => ?_
  obtain ⟨a, e, ⟨xs, hq⟩, q⟩ := q1
  subst e
  cases r1
  obtain ⟨its, rv, p, hz⟩ := I1.tuple hq
  refine wpAny_pyIter_tuple (show s1.heap.IsTuple a its.toArray from p) ?_
  refine ⟨s1.heap.objs.size, [s1.heap.objs.size], _, _, H1, rfl, I1.kept (t' := s1.toks) fun b o e => Heap.get?_push_of_some _ e, turn_tuple a _, ⟨_, Heap.get?_push_size _ rfl, rfl, rfl⟩, fun b hb => ?_, q⟩
  have e : b = s1.heap.objs.size := by simpa using hb
  subst e
  exact I1.fpOk (Nat.le_refl _) (I1.hok.fresh (Nat.le_refl _))
theorem range_it {pins : List (Addr × Obj)} {σ : St} {H : Hp} {s : Shared} {R : It → Hp → Prop} {E : Value → Shared → Prop} {lo hi : Int} {t u v : Tok} {tk : Nat} (I : Inv X pins σ H s) (h1 : -(2 ^ 62) ≤ lo) (h2 : lo < 2 ^ 62) (h3 : -(2 ^ 62) ≤ hi) (h4 : hi < 2 ^ 62)
    (q : R (Itr lo (hi - lo).toNat) H) : wpAny (model X.prog X.w) X.A (pyIter (.ref s.heap.objs.size)) (PIE X pins σ tg R) E { s with heap := s.heap.push { cls := .type "range", data := .fields #[.int lo t, .int hi u, .int 1 v] }, toks := tk } := by
  refine wpAny_pyIter_range (IsRange.new ..) (small_one h1 h2 h3 h4) ?_
  have I1 : Inv X pins σ H { s with heap := s.heap.push { cls := .type "range", data := .fields #[.int lo t, .int hi u, .int 1 v] }, toks := tk } := I.kept fun b o e => Heap.get?_push_of_some _ e
  refine ⟨(s.heap.push { cls := .type "range", data := .fields #[.int lo t, .int hi u, .int 1 v] }).objs.size, [(s.heap.push { cls := .type "range", data := .fields #[.int lo t, .int hi u, .int 1 v] }).objs.size], _, _, H, rfl,
    I1.kept (t' := tk) fun b o e => Heap.get?_push_of_some _ e, turn_range _ lo (hi - lo).toNat, ?_, fun b hb => ?_, q⟩
  · have e1 : lo + ((0 : Nat) : Int) * 1 = lo := by simp
    have e2 : (((hi - lo).toNat : Nat) : Int) - ((0 : Nat) : Int) = Builtin.Range.rangeSize lo hi 1 := by rw [rangeSize_one]; split <;> omega
    show IsRangeIter _ _ (lo + ((0 : Nat) : Int) * 1) ((((hi - lo).toNat : Nat) : Int) - ((0 : Nat) : Int)) 1
    rw [e1, e2]
    exact Heap.get?_push_size _ rfl
  · have e : b = (s.heap.push { cls := .type "range", data := .fields #[.int lo t, .int hi u, .int 1 v] }).objs.size := by simpa using hb
    subst e
    exact I1.fpOk (Nat.le_refl _) (I1.hok.fresh (Nat.le_refl _))
def iRng1 (ta : TA) : TI := fun σ H R => ta σ H fun vs H1 => ∃ j : Int, vs = [.int j] ∧ -(2 ^ 62) ≤ j ∧ j < 2 ^ 62 ∧ R (Itr 0 j.toNat) H1
def iRng2 (ta : TA) : TI := fun σ H R => ta σ H fun vs H1 => ∃ i j : Int, vs = [.int i, .int j] ∧ (-(2 ^ 62) ≤ i ∧ i < 2 ^ 62 ∧ -(2 ^ 62) ≤ j ∧ j < 2 ^ 62) ∧ R (Itr i (j - i).toNat) H1
theorem pi_range1 {a : Expr} {ta : TA} {p pos : Pos} (hg : Gl X "range") (hm : X.mg "range" = none) (ha : PA X [a] ta) (hs : starEach [a] X.env = [(false, eval a X.env)] := by rfl) : PI X tg (.Call (.Name "range" p) [a] [] pos) (iRng1 ta) := by
  intro pins s σ H R I h
  refine Call_ (ld_blt I hg hm boot_range (PyProof.Rows.callWith_type1 (thn (ha pos pins s σ H _ I h) fun us s1 ⟨vs, H1, I1, r1, q1⟩ => ?_) hs rfl))
  obtain ⟨j, e, q1, q2, q⟩ := q1
  subst e
  cases r1 with
  | cons r rr =>
    cases rr
    obtain ⟨t, rfl⟩ := r
    exact call_range_1 (range_it I1 (by omega) (by omega) q1 q2 (by simpa using q))
def tFor (wi : TI) (g : TG) (tb : TS) : TS := fun D σ H => wi σ H fun J H1 => ∃ W : Nat → Nat → St → Hp → Prop, (∃ m, W 0 m σ H1) ∧ ∀ i m σ H, W i m σ H →
  (J.stop i H ∧ D.nx σ H) ∨ (J.go i H ∧ ∃ N : St → Hp → Prop, (∀ σ' H', N σ' H' → ∃ m', m' < m ∧ W (i + 1) m' σ' H') ∧ ∀ x H', J.yld i H x H' → g x σ H' fun σ2 H2 => tb { D with nx := N, ct := N, bk := D.nx } σ2 H2)
def pinsAt (fp : List Addr) (h : Heap) : List (Addr × Obj) := fp.filterMap fun b => (h.get? b).map fun o => (b, o)
theorem mem_pinsAt {fp : List Addr} {h : Heap} {b : Addr} {o : Obj} (hb : b ∈ fp) (e : h.get? b = some o) : (b, o) ∈ pinsAt fp h := List.mem_filterMap.mpr ⟨b, hb, by rw [e]; rfl⟩
theorem of_pinsAt {fp : List Addr} {h : Heap} {p : Addr × Obj} (hp : p ∈ pinsAt fp h) : p.1 ∈ fp ∧ h.get? p.1 = some p.2 := by
  obtain ⟨b, hb, e⟩ := List.mem_filterMap.mp hp
  cases q : h.get? b with
  | none => rw [q] at e; cases e
  | some o =>
    rw [q] at e
    have e' : (b, o) = p := Option.some.inj e
    subst e'
    exact ⟨hb, q⟩
theorem Inv.pinned {pins : List (Addr × Obj)} {σ : St} {H : Hp} {s : Shared} {fp : List Addr} (I : Inv X pins σ H s) (hf : ∀ b ∈ fp, FpOk X pins H b) (ho : ∀ b ∈ fp, ∃ o, s.heap.get? b = some o ∧ ∀ v, o.data ≠ .cell v) : Inv X (pins ++ pinsAt fp s.heap) σ H s :=
  I.pins_of fun p hp => (List.mem_append.mp hp).elim (fun z => I.pin p (List.mem_append_right _ z)) fun z => by
    obtain ⟨hb, e⟩ := of_pinsAt z
    obtain ⟨f0, f1, f2, _⟩ := hf p.1 hb
    obtain ⟨o, e', d⟩ := ho p.1 hb
    rw [e] at e'; cases e'
    exact ⟨e, f0, f1, f2, d⟩
theorem Inv.unpinned {pins pl : List (Addr × Obj)} {σ : St} {H : Hp} {s : Shared} (I : Inv X (pins ++ pl) σ H s) : Inv X pins σ H s := I.pins_of fun p hp => I.pin p (List.mem_append_right _ (List.mem_append_left _ hp))
theorem ps_for {iter : Expr} {body : List Stmt} {wi : TI} {g : TG} {tb : TS} {pos : Pos} (hp : PassesOwn (model X.prog X.w) X.A X.env X.xe) (hc : X.calm = true) (hi : PI X tg iter wi) (hg : PG X tg g) (hb : PSs X body tb)
    (hs : ∀ x, foldedSetIterable iter X.env x = pure x := by intro _; rfl) : PS X (.For tg iter body [] pos) (tFor wi g tb) := by
  intro pins s σ H D I h
  refine wpAny_For (thn (hi pins s σ H _ I h) fun v s1 h1 => thn h1 fun itv s2 h2 => ?_) hs
  obtain ⟨it, fp, tn, J, H2, e, I2, T, st2, f2, W, ⟨m0, w0⟩, turn⟩ := h2
  subst e
  have stat : ∀ {H' : Hp}, (∀ b ∈ fp, H' b = none) → ∀ b ∈ fp, FpOk X pins H' b := fun hn b hb => ⟨hn b hb, (f2 b hb).2⟩
  refine codeAny_forLoop_any (fun n s' => ∃ i σ' H', Inv X pins σ' H' s' ∧ tn i s'.heap ∧ (∀ b ∈ fp, H' b = none) ∧ W i n σ' H') ?_ m0 ⟨0, σ, H2, I2, st2, fun b hb => (f2 b hb).1, w0⟩
  rintro n s3 ⟨i, σ3, H3, I3, st3, fr3, w3⟩
  rcases turn i n σ3 H3 w3 with ⟨stop, qn⟩ | ⟨go, N, hN, step⟩
  · refine wpAny_passesOwn hp (thn (T.done X rfl rfl rfl hc i pins s3 σ3 H3 X.xe I3 (stat fr3) st3 stop) fun r s4 ⟨hr, I4⟩ => ?_)
    subst hr
    exact wpAny_execs_nil ⟨σ3, H3, I4, qn⟩
  · refine wpAny_passesOwn hp (thn (T.item X rfl rfl rfl hc i pins s3 σ3 H3 X.xe I3 (stat fr3) st3 go) fun r s4 ⟨u, hr, h4⟩ => ?_)
    subst hr
    refine wpAny_passesOwn hp (thn h4 fun _ s5 ⟨x, H5, I5, r5, y5, st5, fr5⟩ => ?_)
    have I5' := I5.pinned (stat fr5) (T.obj _ _ st5)
    refine wpAny_passesOwn hp (thn (hg _ s5 σ3 H5 x u _ I5' r5 (step x H5 y5)) fun _ s6 ⟨σ6, H6, I6, q6⟩ => ?_)
    refine wpAny_passesOwn hp (thn (hb _ s6 σ6 H6 _ I6 q6) fun f s7 q7 => ?_)
    have again : ∀ {σ7 : St} {H7 : Hp}, Inv X (pins ++ pinsAt fp s5.heap) σ7 H7 s7 → N σ7 H7 → ∃ m, m < n ∧ ∃ i σ' H', Inv X pins σ' H' s7 ∧ tn i s7.heap ∧ (∀ b ∈ fp, H' b = none) ∧ W i m σ' H' := fun {σ7 H7} I7 n7 => by
      obtain ⟨m', hm, w7⟩ := hN σ7 H7 n7
      refine ⟨m', hm, i + 1, σ7, H7, I7.unpinned, T.keep _ _ _ st5 fun b hb o e => (I7.pin (b, o) (List.mem_append_right _ (List.mem_append_right _ (mem_pinsAt hb e)))).1, fun b hb => ?_, w7⟩
      obtain ⟨o, e, d⟩ := T.obj _ _ st5 b hb
      exact (I7.pin (b, o) (List.mem_append_right _ (List.mem_append_right _ (mem_pinsAt hb e)))).2.1
    cases f with
    | next => obtain ⟨σ7, H7, I7, n7⟩ := q7; exact again I7 n7
    | cont => obtain ⟨σ7, H7, I7, n7⟩ := q7; exact again I7 n7
    | brk => obtain ⟨σ7, H7, I7, q7⟩ := q7; exact ⟨σ7, H7, I7.unpinned, q7⟩
    | ret v => obtain ⟨x7, σ7, H7, I7, r7, q7⟩ := q7; exact ⟨x7, σ7, H7, I7.unpinned, r7, q7⟩
end
theorem for_list {K : PySem.W.Frag} {a : Addr} {xs : List V} {g : TG} {tb : TS} {D : Ends} {σ : St} {H : Hp} (Pv : Nat → St → Hp → Prop) (h0 : Pv 0 σ H) (hl : ∀ i σ H, i ≤ xs.length → Pv i σ H → SqL K H a xs)
    (hs : ∀ i x σ H, xs[i]? = some x → Pv i σ H → g x σ H fun σ2 H2 => tb { D with nx := Pv (i + 1), ct := Pv (i + 1), bk := D.nx } σ2 H2) (hd : ∀ σ H, Pv xs.length σ H → D.nx σ H) :
    ∃ W : Nat → Nat → St → Hp → Prop, (∃ m, W 0 m σ H) ∧ ∀ i m σ H, W i m σ H →
      ((Itl K a).stop i H ∧ D.nx σ H) ∨ ((Itl K a).go i H ∧ ∃ N : St → Hp → Prop, (∀ σ' H', N σ' H' → ∃ m', m' < m ∧ W (i + 1) m' σ' H') ∧ ∀ x H', (Itl K a).yld i H x H' → g x σ H' fun σ2 H2 => tb { D with nx := N, ct := N, bk := D.nx } σ2 H2) := by
  refine ⟨fun i m σ H => m = xs.length - i ∧ i ≤ xs.length ∧ Pv i σ H, ⟨xs.length, by simp, Nat.zero_le _, h0⟩, ?_⟩
  rintro i m σ H ⟨rfl, hi, p⟩
  have q := hl i σ H hi p
  by_cases hlt : i < xs.length
  · refine .inr ⟨⟨xs, xs[i], q, by simp [hlt]⟩, Pv (i + 1), fun σ' H' p' => ⟨xs.length - (i + 1), by omega, rfl, hlt, p'⟩, fun x H' y => ?_⟩
    obtain ⟨e, y⟩ := y
    subst e
    exact hs i x σ _ (y xs q) p
  · have e : i = xs.length := by omega
    subst e
    exact .inl ⟨⟨xs, q, Nat.le_refl _⟩, hd σ H p⟩
theorem for_tup {K : PySem.W.Frag} {a : Addr} {xs : List V} {g : TG} {tb : TS} {D : Ends} {σ : St} {H : Hp} (Pv : Nat → St → Hp → Prop) (h0 : Pv 0 σ H) (hl : ∀ i σ H, i ≤ xs.length → Pv i σ H → SqT K H a xs)
    (hs : ∀ i x σ H, xs[i]? = some x → Pv i σ H → g x σ H fun σ2 H2 => tb { D with nx := Pv (i + 1), ct := Pv (i + 1), bk := D.nx } σ2 H2) (hd : ∀ σ H, Pv xs.length σ H → D.nx σ H) :
    ∃ W : Nat → Nat → St → Hp → Prop, (∃ m, W 0 m σ H) ∧ ∀ i m σ H, W i m σ H →
      ((Itt K a).stop i H ∧ D.nx σ H) ∨ ((Itt K a).go i H ∧ ∃ N : St → Hp → Prop, (∀ σ' H', N σ' H' → ∃ m', m' < m ∧ W (i + 1) m' σ' H') ∧ ∀ x H', (Itt K a).yld i H x H' → g x σ H' fun σ2 H2 => tb { D with nx := N, ct := N, bk := D.nx } σ2 H2) := by
  refine ⟨fun i m σ H => m = xs.length - i ∧ i ≤ xs.length ∧ Pv i σ H, ⟨xs.length, by simp, Nat.zero_le _, h0⟩, ?_⟩
  rintro i m σ H ⟨rfl, hi, p⟩
  have q := hl i σ H hi p
  by_cases hlt : i < xs.length
  · refine .inr ⟨⟨xs, xs[i], q, by simp [hlt]⟩, Pv (i + 1), fun σ' H' p' => ⟨xs.length - (i + 1), by omega, rfl, hlt, p'⟩, fun x H' y => ?_⟩
    obtain ⟨e, y⟩ := y
    subst e
    exact hs i x σ _ (y xs q) p
  · have e : i = xs.length := by omega
    subst e
    exact .inl ⟨⟨xs, q, Nat.le_refl _⟩, hd σ H p⟩
theorem for_range {lo : Int} {n : Nat} {g : TG} {tb : TS} {D : Ends} {σ : St} {H : Hp} (Pv : Nat → St → Hp → Prop) (h0 : Pv 0 σ H)
    (hs : ∀ i σ H, i < n → Pv i σ H → g (.int (lo + i)) σ H fun σ2 H2 => tb { D with nx := Pv (i + 1), ct := Pv (i + 1), bk := D.nx } σ2 H2) (hd : ∀ σ H, Pv n σ H → D.nx σ H) :
    ∃ W : Nat → Nat → St → Hp → Prop, (∃ m, W 0 m σ H) ∧ ∀ i m σ H, W i m σ H →
      ((Itr lo n).stop i H ∧ D.nx σ H) ∨ ((Itr lo n).go i H ∧ ∃ N : St → Hp → Prop, (∀ σ' H', N σ' H' → ∃ m', m' < m ∧ W (i + 1) m' σ' H') ∧ ∀ x H', (Itr lo n).yld i H x H' → g x σ H' fun σ2 H2 => tb { D with nx := N, ct := N, bk := D.nx } σ2 H2) := by
  refine ⟨fun i m σ H => m = n - i ∧ i ≤ n ∧ Pv i σ H, ⟨n, by simp, Nat.zero_le _, h0⟩, ?_⟩
  rintro i m σ H ⟨rfl, hi, p⟩
  by_cases hlt : i < n
  · refine .inr ⟨hlt, Pv (i + 1), fun σ' H' p' => ⟨n - (i + 1), by omega, rfl, hlt, p'⟩, fun x H' y => ?_⟩
    obtain ⟨e, y⟩ := y
    subst e y
    exact hs i σ _ hlt p
  · have e : i = n := by omega
    subst e
    exact .inl ⟨Nat.le_refl _, hd σ H p⟩
end L2
namespace L2
open PySem PySem.Spec PyProof.Rows
abbrev R2 := V → V → Hp → VK → Prop
def OpR (X : Cx) (f : Value → Value → Sem Value) (r : R2) : Prop :=
  ∀ (pins : List (Addr × Obj)) (s : Shared) (σ : St) (H : Hp) (x y : V) (v u : Value) (Q : VK), Inv X pins σ H s → RelV x v → RelV y u → r x y H Q →
    wpAny (model X.prog X.w) X.A (f v u) (EP X pins σ Q) X.xe s
def UnR (X : Cx) (f : Value → Sem Value) (r : V → Hp → VK → Prop) : Prop :=
  ∀ (pins : List (Addr × Obj)) (s : Shared) (σ : St) (H : Hp) (x : V) (v : Value) (Q : VK), Inv X pins σ H s → RelV x v → r x H Q →
    wpAny (model X.prog X.w) X.A (f v) (EP X pins σ Q) X.xe s
def CallR (X : Cx) (f : Value) (r : List V → Hp → VK → Prop) : Prop :=
  ∀ (pins : List (Addr × Obj)) (s : Shared) (σ : St) (H : Hp) (xs : List V) (us : List Value) (Q : VK), Inv X pins σ H s → Vals xs us → r xs H Q →
    wpAny (model X.prog X.w) X.A (call f us) (EP X pins σ Q) X.xe s
def TruR (X : Cx) (r : V → Hp → (Bool → Hp → Prop) → Prop) : Prop :=
  ∀ (pins : List (Addr × Obj)) (s : Shared) (σ : St) (H : Hp) (x : V) (v : Value) (Q : Bool → Hp → Prop), Inv X pins σ H s → RelV x v → r x H Q →
    wpAny (model X.prog X.w) X.A (truthy v) (TP X pins σ Q) X.xe s
def tOp (r : R2) (ta tb : TE) : TE := fun σ H Q => ta σ H fun x H1 => tb σ H1 fun y H2 => r x y H2 Q
def tUn (r : V → Hp → VK → Prop) (ta : TE) : TE := fun σ H Q => ta σ H fun x H1 => r x H1 Q
def rI (C : Int → Int → Prop) (g : Int → Int → V) : R2 := fun x y H Q => ∃ i j, x = .int i ∧ y = .int j ∧ C i j ∧ Q (g i j) H
def rI0 (g : Int → Int → V) : R2 := fun x y H Q => ∃ i j, x = .int i ∧ y = .int j ∧ Q (g i j) H
def rU (g : Int → V) : V → Hp → VK → Prop := fun x H Q => ∃ i, x = .int i ∧ Q (g i) H
section
variable {X : Cx} {a b c : Expr} {ta tb tc : TE} {pos : Pos}
theorem binT (ha : PE X a ta) (hb : PE X b tb) {pins : List (Addr × Obj)} {s : Shared} {σ : St} {H : Hp} {R : V → V → Hp → Prop} (I : Inv X pins σ H s)
    (h : ta σ H fun x H1 => tb σ H1 fun y H2 => R x y H2) {Q : Value → Shared → Prop} {f : Value → Value → Sem Value}
    (hf : ∀ v u s2 x y H2, Inv X pins σ H2 s2 → RelV x v → RelV y u → R x y H2 → wpAny (model X.prog X.w) X.A (f v u) Q X.xe s2) :
    wpAny (model X.prog X.w) X.A (eval a X.env) (fun v s₁ => wpAny (model X.prog X.w) X.A (eval b X.env) (fun u s₂ => wpAny (model X.prog X.w) X.A (f v u) Q X.xe s₂) X.xe s₁) X.xe s := by
  refine thn (ha pins s σ H _ I h) fun v s1 ⟨x, H1, I1, r1, q1⟩ => ?_
  refine thn (hb pins s1 σ H1 _ I1 q1) fun u s2 ⟨y, H2, I2, r2, q2⟩ => ?_
  exact hf v u s2 x y H2 I2 r1 r2 q2
theorem pe_op {op : Operator} {r : R2} (ho : OpR X (binaryOp op) r) (ha : PE X a ta) (hb : PE X b tb) : PE X (.BinOp a op b pos) (tOp r ta tb) := by
  intro pins s σ H Q I h
  exact wpAny_BinOp (binT ha hb I h fun v u s2 x y H2 I2 rx ry q => ho pins s2 σ H2 x y v u Q I2 rx ry q)
theorem pe_un {op : UnaryOp} {r : V → Hp → VK → Prop} (ho : UnR X (unaryOp op) r) (ha : PE X a ta) : PE X (.UnaryOp op a pos) (tUn r ta) := by
  intro pins s σ H Q I h
  exact UnaryOp_ (thn (ha pins s σ H _ I h) fun v s1 ⟨x, H1, I1, r1, q1⟩ => ho pins s1 σ H1 x v Q I1 r1 q1)
theorem opI {f : Value → Value → Sem Value} {C : Int → Int → Prop} {g : Int → Int → Int}
    (rule : ∀ (i j : Int) (t u : Tok) (s : Shared) (Q : Value → Shared → Prop) (E : Value → Shared → Prop), C i j → Q (.int (g i j) s.toks) { s with toks := s.toks + 1 } → wpAny (model X.prog X.w) X.A (f (.int i t) (.int j u)) Q E s) :
    OpR X f (rI C fun i j => .int (g i j)) := by
  intro pins s σ H x y v u Q I rx ry h
  obtain ⟨i, j, rfl, rfl, hc, q⟩ := h
  obtain ⟨t, rfl⟩ := rx
  obtain ⟨t', rfl⟩ := ry
  exact rule i j t t' s _ _ hc ⟨.int (g i j), H, I.tok _, ⟨_, rfl⟩, q⟩
theorem opI0 {f : Value → Value → Sem Value} {g : Int → Int → Int}
    (rule : ∀ (i j : Int) (t u : Tok) (s : Shared) (Q : Value → Shared → Prop) (E : Value → Shared → Prop), Q (.int (g i j) s.toks) { s with toks := s.toks + 1 } → wpAny (model X.prog X.w) X.A (f (.int i t) (.int j u)) Q E s) :
    OpR X f (rI0 fun i j => .int (g i j)) := by
  intro pins s σ H x y v u Q I rx ry h
  obtain ⟨i, j, rfl, rfl, q⟩ := h
  obtain ⟨t, rfl⟩ := rx
  obtain ⟨t', rfl⟩ := ry
  exact rule i j t t' s _ _ ⟨.int (g i j), H, I.tok _, ⟨_, rfl⟩, q⟩
theorem opB0 {f : Value → Value → Sem Value} {g : Int → Int → Bool}
    (rule : ∀ (i j : Int) (t u : Tok) (s : Shared) (Q : Value → Shared → Prop) (E : Value → Shared → Prop), Q (.bool (g i j)) s → wpAny (model X.prog X.w) X.A (f (.int i t) (.int j u)) Q E s) :
    OpR X f (rI0 fun i j => .bl (g i j)) := by
  intro pins s σ H x y v u Q I rx ry h
  obtain ⟨i, j, rfl, rfl, q⟩ := h
  obtain ⟨t, rfl⟩ := rx
  obtain ⟨t', rfl⟩ := ry
  exact rule i j t t' s _ _ ⟨.bl (g i j), H, I, rfl, q⟩
def CDiv (i j : Int) : Prop := 0 < j ∧ j < 1073741824
def CDivN (i j : Int) : Prop := j ≠ 0 ∧ j.natAbs < 1073741824
def CPow (i j : Int) : Prop := 0 ≤ j ∧ j ≤ 1000000 ∧ i.natAbs < 2 ^ 64
def CMul (i j : Int) : Prop := (-(2 ^ 64) < i ∧ i < 2 ^ 64) ∨ (-(2 ^ 64) < j ∧ j < 2 ^ 64)
theorem CMul.ok {i j : Int} (h : CMul i j) : IntMulOk i j := by
  rcases h with ⟨h1, h2⟩ | ⟨h1, h2⟩
  · exact .of_left (intBits_le_64 h1 h2)
  · exact .of_right (intBits_le_64 h1 h2)
theorem op_add : OpR X (binaryOp .Add) (rI0 fun i j => .int (i + j)) := opI0 fun _ _ _ _ _ _ _ q => add_int q
theorem op_sub : OpR X (binaryOp .Sub) (rI0 fun i j => .int (i - j)) := opI0 fun _ _ _ _ _ _ _ q => sub_int q
theorem op_mul : OpR X (binaryOp .Mult) (rI CMul fun i j => .int (i * j)) := opI fun _ _ _ _ _ _ _ hc q => mul_int q hc.ok
theorem op_fdiv : OpR X (binaryOp .FloorDiv) (rI CDiv fun i j => .int (i / j)) := opI fun i j _ _ _ _ _ hc q => by
  have h1 : (0 : Int) < j := hc.1
  have h2 : j < 1073741824 := hc.2
  exact floordiv_int (by omega) (by rw [Int.fdiv_eq_ediv_of_nonneg i (by omega)]; exact q) (.inl (PyProof.noPylong_small (by omega)))
theorem op_mod : OpR X (binaryOp .Mod) (rI (fun _ j => 0 < j) fun i j => .int (i % j)) := opI fun i j _ _ _ _ _ hc q => by
  have h1 : (0 : Int) < j := hc
  exact mod_int' (by omega) (by rw [Int.fmod_eq_emod_of_nonneg i (by omega)]; exact q)
theorem op_pow : OpR X (binaryOp .Pow) (rI CPow fun i j => .int (i ^ j.toNat)) := opI fun _ _ _ _ _ _ _ hc q => pow_int_small hc.1 hc.2.1 hc.2.2 q
theorem unI {f : Value → Sem Value} {g : Int → Int}
    (rule : ∀ (i : Int) (t : Tok) (s : Shared) (Q : Value → Shared → Prop) (E : Value → Shared → Prop), Q (.int (g i) s.toks) { s with toks := s.toks + 1 } → wpAny (model X.prog X.w) X.A (f (.int i t)) Q E s) :
    UnR X f (rU fun i => .int (g i)) := by
  intro pins s σ H x v Q I rx h
  obtain ⟨i, rfl, q⟩ := h
  obtain ⟨t, rfl⟩ := rx
  exact rule i t s _ _ ⟨.int (g i), H, I.tok _, ⟨_, rfl⟩, q⟩
theorem un_neg : UnR X (unaryOp .USub) (rU fun i => .int (-i)) := unI fun _ _ _ _ _ q => neg_int q
end
def scal : V → V → Bool
  | .non, .non => true | .non, .int _ => true | .int _, .non => true | .non, .bl _ => true | .bl _, .non => true | .non, .str _ => true | .str _, .non => true
  | .int _, .int _ => true | .bl _, .bl _ => true | .str _, .str _ => true | .byt _, .byt _ => true
  | .int _, .str _ => true | .str _, .int _ => true | .bl _, .str _ => true | .str _, .bl _ => true
  | _, _ => false
def rEq : R2 := fun x y H Q => scal x y = true ∧ Q (.bl (decide (x = y))) H
def rNe : R2 := fun x y H Q => scal x y = true ∧ Q (.bl (!decide (x = y))) H
theorem dec_int {i j : Int} : decide (V.int i = V.int j) = (i == j) := by
  rw [Bool.eq_iff_iff]
  simp
theorem dec_bl {i j : Bool} : decide (V.bl i = V.bl j) = (i == j) := by
  rw [Bool.eq_iff_iff]
  simp
theorem dec_str {i j : Str} : decide (V.str i = V.str j) = (i == j) := by
  rw [Bool.eq_iff_iff]
  simp
theorem dec_byt {i j : Array UInt8} : decide (V.byt i = V.byt j) = (i.toList == j.toList) := by
  rw [Bool.eq_iff_iff]
  cases i
  cases j
  simp
section
variable {X : Cx} {a b c : Expr} {ta tb tc : TE} {pos : Pos}
theorem fin_bl {pins : List (Addr × Obj)} {σ : St} {H : Hp} {s : Shared} {Q : VK} {k k' : Bool} (I : Inv X pins σ H s) (q : Q (.bl k) H) (e : k = k') : EP X pins σ Q (.bool k') s := by
  subst e
  exact ⟨.bl k, H, I, rfl, q⟩
theorem op_eq : OpR X (compareOp .Eq) rEq := by
  intro pins s σ H x y v u Q I rx ry h
  obtain ⟨hs, q⟩ := h
  cases x with
  | non =>
    cases rx
    cases y with
    | non => cases ry; exact PySem.EqNone.eq_none_none (fin_bl I q (by simp))
    | bl j => cases ry; exact PySem.EqNone.eq_none_bool (fin_bl I q (by simp))
    | int j => obtain ⟨t', rfl⟩ := ry; exact PySem.EqNone.eq_none_int (fin_bl I q (by simp))
    | str j => obtain ⟨t', rfl⟩ := ry; exact PySem.EqNone.eq_none_str (fin_bl I q (by simp))
    | _ => exact absurd (show false = true from hs) Bool.false_ne_true
  | bl i =>
    cases rx
    cases y with
    | non => cases ry; exact PySem.EqNone.eq_bool_none (fin_bl I q (by simp))
    | bl j => cases ry; exact eq_bool (fin_bl I q dec_bl)
    | str j => obtain ⟨t', rfl⟩ := ry; exact PySem.EqMixed.eq_bool_str (fin_bl I q (by simp))
    | _ => exact absurd (show false = true from hs) Bool.false_ne_true
  | int i =>
    obtain ⟨t, rfl⟩ := rx
    cases y with
    | non => cases ry; exact PySem.EqNone.eq_int_none (fin_bl I q (by simp))
    | int j => obtain ⟨t', rfl⟩ := ry; exact eq_int (fin_bl I q dec_int)
    | str j => obtain ⟨t', rfl⟩ := ry; exact PySem.EqMixed.eq_int_str (fin_bl I q (by simp))
    | _ => exact absurd (show false = true from hs) Bool.false_ne_true
  | str i =>
    obtain ⟨t, rfl⟩ := rx
    cases y with
    | non => cases ry; exact PySem.EqNone.eq_str_none (fin_bl I q (by simp))
    | bl j => cases ry; exact PySem.EqMixed.eq_str_bool (fin_bl I q (by simp))
    | int j => obtain ⟨t', rfl⟩ := ry; exact PySem.EqMixed.eq_str_int (fin_bl I q (by simp))
    | str j => obtain ⟨t', rfl⟩ := ry; exact eq_str (fin_bl I q dec_str)
    | _ => exact absurd (show false = true from hs) Bool.false_ne_true
  | byt i =>
    obtain ⟨t, rfl⟩ := rx
    cases y with
    | byt j => obtain ⟨t', rfl⟩ := ry; exact PySem.W.eq_bytes (fin_bl I q dec_byt)
    | _ => exact absurd (show false = true from hs) Bool.false_ne_true
  | _ => cases y <;> exact absurd (show false = true from hs) Bool.false_ne_true
theorem op_ne : OpR X (compareOp .NotEq) rNe := by
  intro pins s σ H x y v u Q I rx ry h
  obtain ⟨hs, q⟩ := h
  cases x with
  | non =>
    cases rx
    cases y with
    | non => cases ry; exact PySem.EqNone.ne_none_none (fin_bl I q (by simp))
    | bl j => cases ry; exact PySem.EqNone.ne_none_bool (fin_bl I q (by simp))
    | int j => obtain ⟨t', rfl⟩ := ry; exact PySem.EqNone.ne_none_int (fin_bl I q (by simp))
    | str j => obtain ⟨t', rfl⟩ := ry; exact PySem.EqNone.ne_none_str (fin_bl I q (by simp))
    | _ => exact absurd (show false = true from hs) Bool.false_ne_true
  | bl i =>
    cases rx
    cases y with
    | non => cases ry; exact PySem.EqNone.ne_bool_none (fin_bl I q (by simp))
    | bl j => cases ry; exact ne_bool (fin_bl I q (congrArg not dec_bl))
    | str j => obtain ⟨t', rfl⟩ := ry; exact PySem.EqMixed.ne_bool_str (fin_bl I q (by simp))
    | _ => exact absurd (show false = true from hs) Bool.false_ne_true
  | int i =>
    obtain ⟨t, rfl⟩ := rx
    cases y with
    | non => cases ry; exact PySem.EqNone.ne_int_none (fin_bl I q (by simp))
    | int j => obtain ⟨t', rfl⟩ := ry; exact ne_int (fin_bl I q (congrArg not dec_int))
    | str j => obtain ⟨t', rfl⟩ := ry; exact PySem.EqMixed.ne_int_str (fin_bl I q (by simp))
    | _ => exact absurd (show false = true from hs) Bool.false_ne_true
  | str i =>
    obtain ⟨t, rfl⟩ := rx
    cases y with
    | non => cases ry; exact PySem.EqNone.ne_str_none (fin_bl I q (by simp))
    | bl j => cases ry; exact PySem.EqMixed.ne_str_bool (fin_bl I q (by simp))
    | int j => obtain ⟨t', rfl⟩ := ry; exact PySem.EqMixed.ne_str_int (fin_bl I q (by simp))
    | str j => obtain ⟨t', rfl⟩ := ry; exact ne_str (fin_bl I q (congrArg not dec_str))
    | _ => exact absurd (show false = true from hs) Bool.false_ne_true
  | byt i =>
    obtain ⟨t, rfl⟩ := rx
    cases y with
    | byt j => obtain ⟨t', rfl⟩ := ry; exact PySem.W.ne_bytes (fin_bl I q (congrArg not dec_byt))
    | _ => exact absurd (show false = true from hs) Bool.false_ne_true
  | _ => cases y <;> exact absurd (show false = true from hs) Bool.false_ne_true
theorem op_lt : OpR X (compareOp .Lt) (rI0 fun i j => .bl (decide (i < j))) := opB0 fun _ _ _ _ _ _ _ q => lt_int q
theorem op_gt : OpR X (compareOp .Gt) (rI0 fun i j => .bl (decide (j < i))) := opB0 fun _ _ _ _ _ _ _ q => gt_int q
theorem op_ge : OpR X (compareOp .GtE) (rI0 fun i j => .bl (decide (j ≤ i))) := opB0 fun _ _ _ _ _ _ _ q => ge_int q
theorem op_isN : OpR X (compareOp .Is) (fun x y H Q => y = .non ∧ Q (.bl (decide (x = .non))) H) := by
  intro pins s σ H x y v u Q I rx ry h
  obtain ⟨rfl, q⟩ := h
  cases ry
  refine is_none_gen (fin_bl I q ?_)
  cases x <;> first
    | (cases rx; rfl)
    | (obtain ⟨t, rfl⟩ := rx; rfl)
def isObj : HO → Bool
  | .lst _ => true
  | .ins _ _ _ => true
  | _ => false
theorem nomark (b : Expr) {op : CmpOp} (h : op ≠ .In := by decide) (h2 : op ≠ .NotIn := by decide) : behindInMarks op b = false := by
  have e1 : (op == CmpOp.In) = false := by cases op <;> first | rfl | exact absurd rfl h
  have e2 : (op == CmpOp.NotIn) = false := by cases op <;> first | rfl | exact absurd rfl h2
  cases b <;> simp [behindInMarks, e1, e2]
theorem pe_cmpR {op : CmpOp} {r : R2} (ho : OpR X (compareOp op) r) (ha : PE X a ta) (hb : PE X b tb) (hm : behindInMarks op b = false) : PE X (.Compare a [op] [b] pos) (tOp r ta tb) := by
  intro pins s σ H Q I h
  exact wpAny_Compare1 (binT ha hb I h fun v u s2 x y H2 I2 rx ry q => ho pins s2 σ H2 x y v u Q I2 rx ry q) hm
def tTest (t : TE) : TT := fun σ H Q => t σ H fun x H' => ∃ k, x = .bl k ∧ Q k H'
theorem pt_cmpR {op : CmpOp} {r : R2} (ho : OpR X (compareOp op) r) (ha : PE X a ta) (hb : PE X b tb) (hm : behindInMarks op b = false) : PT X (.Compare a [op] [b] pos) (tTest (tOp r ta tb)) := by
  intro pins s σ H Q I h
  refine wpAny_isTrue_Compare1 (thn (ha pins s σ H _ I h) fun v s1 ⟨x, H1, I1, r1, q1⟩ => thn (hb pins s1 σ H1 _ I1 q1) fun u s2 ⟨y, H2, I2, r2, q2⟩ =>
    thn (ho pins s2 σ H2 x y v u _ I2 r1 r2 q2) fun c s3 ⟨z, H3, I3, r3, k, e, q3⟩ => ?_) hm
  subst e
  cases r3
  exact wpAny_truthy_bool ⟨H3, I3, q3⟩
def tChain (r r' : R2) (ta tb tc : TE) : TE := fun σ H Q => ta σ H fun x H1 => tb σ H1 fun y H2 => r x y H2 fun z H3 => ∃ k, z = .bl k ∧
  (if k = true then tc σ H3 fun w' H4 => r' y w' H4 Q else Q (.bl false) H3)
def TruV (K : PySem.W.Frag) (x : V) (H : Hp) (k : Bool) : Prop :=
  match x with
  | .non => k = false
  | .bl b => k = b
  | .int i => k = (i != 0)
  | .str y => y.length ≤ sizeLine ∧ k = ((y.length : Int) != 0)
  | .byt y => y.size ≤ sizeLine ∧ k = ((y.size : Int) != 0)
  | .ref p => (∃ xs, SqL K H p xs ∧ k = !xs.isEmpty) ∨ (∃ xs, SqT K H p xs ∧ k = !xs.isEmpty) ∨ ∃ kvs, H p = some (.dK kvs) ∧ k = !kvs.isEmpty
  | _ => False
theorem line63 : (sizeLine : Nat) < 2 ^ 63 := by rw [sizeLine_eq]; decide
def PlainIxT (b : Expr) : Prop := ∀ o i, subscripted b false o i = operate [o, i] (getItem o i)
theorem vals1 {x : V} {us : List Value} (r : Vals [x] us) : ∃ u, us = [u] ∧ RelV x u := by
  cases r with
  | cons r1 r2 => cases r2; exact ⟨_, rfl, r1⟩
theorem vals2 {x y : V} {us : List Value} (r : Vals [x, y] us) : ∃ u w', us = [u, w'] ∧ RelV x u ∧ RelV y w' := by
  cases r with
  | cons r1 r2 =>
    cases r2 with
    | cons r3 r4 => cases r4; exact ⟨_, _, rfl, r1, r3⟩
theorem call_abs : CallR X (.builtin "abs") (fun xs H Q => ∃ i, xs = [.int i] ∧ Q (.int (if i < 0 then -i else i)) H) := by
  intro pins s σ H xs us Q I r h
  obtain ⟨i, rfl, q⟩ := h
  obtain ⟨u, rfl, t, rfl⟩ := vals1 r
  exact call_abs_int fun u tk => ⟨.int (if i < 0 then -i else i), H, I.tok _, ⟨_, rfl⟩, q⟩
theorem call_max2 (hc : X.calm = true) : CallR X (.builtin "max") (fun xs H Q => ∃ i j, xs = [.int i, .int j] ∧ Q (.int (if j > i then j else i)) H) := by
  intro pins s σ H xs us Q I r h
  obtain ⟨i, j, rfl, q⟩ := h
  obtain ⟨u, w', rfl, ⟨t, rfl⟩, ⟨t', rfl⟩⟩ := vals2 r
  refine max_two_ints (I.ok.hd hc) fun h' tk k => ⟨_, H, I.kept k, ?_, q⟩
  by_cases hj : j > i
  · rw [if_pos hj, if_pos hj]; exact ⟨_, rfl⟩
  · rw [if_neg hj, if_neg hj]; exact ⟨_, rfl⟩
theorem call_min2 (hc : X.calm = true) : CallR X (.builtin "min") (fun xs H Q => ∃ i j, xs = [.int i, .int j] ∧ Q (.int (if j < i then j else i)) H) := by
  intro pins s σ H xs us Q I r h
  obtain ⟨i, j, rfl, q⟩ := h
  obtain ⟨u, w', rfl, ⟨t, rfl⟩, ⟨t', rfl⟩⟩ := vals2 r
  refine min_two_ints (I.ok.hd hc) fun h' tk k => ⟨_, H, I.kept k, ?_, q⟩
  by_cases hj : j < i
  · rw [if_pos hj, if_pos hj]; exact ⟨_, rfl⟩
  · rw [if_neg hj, if_neg hj]; exact ⟨_, rfl⟩
theorem call_int1 : CallR X (.type "int") (fun xs H Q => (∃ i, xs = [.int i] ∧ Q (.int i) H) ∨ ∃ k, xs = [.bl k] ∧ Q (.int (if k then 1 else 0)) H) := by
  intro pins s σ H xs us Q I r h
  rcases h with ⟨i, rfl, q⟩ | ⟨k, rfl, q⟩
  · obtain ⟨u, rfl, t, rfl⟩ := vals1 r
    exact call_int_int ⟨.int i, H, I, ⟨_, rfl⟩, q⟩
  · obtain ⟨u, rfl, r1⟩ := vals1 r
    cases r1
    exact call_int_bool ⟨.int (if k then 1 else 0), H, I.tok _, ⟨_, rfl⟩, q⟩
def LenV (K : PySem.W.Frag) (x : V) (H : Hp) (n : Nat) : Prop :=
  match x with
  | .str y => y.length ≤ sizeLine ∧ n = y.length
  | .byt y => y.size ≤ sizeLine ∧ n = y.size
  | .ref p => (∃ xs, SqL K H p xs ∧ n = xs.length) ∨ ∃ xs, SqT K H p xs ∧ n = xs.length
  | _ => False
end
end L2
namespace L2
open PySem PySem.Spec PyProof.Rows
structure ObjM (h : Heap) (x dx C : Addr) (mA : Str → Option Value) : Prop where
  obj : h.get? x = some (PySem.W.instObj C dx)
  ns : h.Ns1 dx mA
  ne : dx ≠ x
theorem lookIn_ns {h : Heap} {dx : Addr} {mA : Str → Option Value} (n : h.Ns1 dx mA) : ∃ od, h.get? dx = some od ∧ ∀ name, PySem.W.lookIn name od = some (mA name) := by
  obtain ⟨o, es, ep, ho, hd, hk, _, hm⟩ := n
  refine ⟨o, ho, fun name => ?_⟩
  have e := hm name
  unfold nsFind findBy at e
  rw [← Array.find?_toList] at e
  unfold PySem.W.lookIn
  rw [hd]
  dsimp only
  split
  · rename_i y q
    rw [q] at e
    exact congrArg some e
  · rename_i q
    rw [q] at e
    have a : es.toList.any (·.refKey) = false := by
      rw [List.any_eq_false]
      intro y hy
      obtain ⟨z, t, hkey⟩ := hk y (Array.mem_toList_iff.mp hy)
      simp [DictEntry.refKey, hkey]
    have a' : ¬ es.toList.any (·.refKey) = true := by rw [a]; exact Bool.false_ne_true
    rw [if_neg a']
    exact congrArg some e
theorem ObjM.look {h : Heap} {x dx C : Addr} {mA : Str → Option Value} (I : ObjM h x dx C mA) : ∃ od, PySem.W.InstAt h x (PySem.W.instObj C dx) C (some od) ∧ ∀ name, PySem.W.lookIn name od = some (mA name) :=
  let ⟨od, ho, hl⟩ := lookIn_ns I.ns
  ⟨od, ⟨I.obj, rfl, rfl, ho⟩, hl⟩
section
variable {prog : Program} {w : World} {A : Around} {E : Value → Shared → Prop} {s : Shared} {K : PySem.W.Frag} {x dx C f : Addr} {mA : Str → Option Value} {name : Str} {v : Value}
end
def putF (f : Str) (v : V) : List (Str × V) → List (Str × V)
  | [] => [(f, v)]
  | (g, x) :: r => if g = f then (g, v) :: r else (g, x) :: putF f v r
section
variable {P : Program} {w : World} {H H' : Hp} {h h' : Heap} {a C dx : Addr} {fs fs' : List (Str × V)}
theorem ins_get (hok : HOk P w H h) (e : H a = some (.ins C dx fs)) : ∃ mA, ObjM h a dx C mA ∧ (∀ f, RelO (fs.lookup f) (mA f)) ∧ PySem.Within mA (fs.map (·.1)) ∧ fs.length ≤ 1000 ∧ H dx = some (.own a) := by
  obtain ⟨d, z, ne, ob, mA, n, r, q⟩ := (show ObjOk P w H h a (.ins C dx fs) from hok a _ e)
  exact ⟨mA, ⟨ob, n, ne⟩, r, q, z, d⟩
end
structure Cls (K : PySem.W.Frag) (C : Addr) : Prop where
  pg : PySem.W.plainGet K C Str.empty = true
  hd : PySem.W.hasDictIn K C = true
  po : PySem.W.plainOver K C = true
  sa : PySem.W.findIn K (.ref C) "__setattr__" = some (some (.builtin "object.__setattr__"))
theorem Cls.get {K : PySem.W.Frag} {C : Addr} (c : Cls K C) (f : Str) : PySem.W.plainGet K C f = true := c.pg
def NoAttr (K : PySem.W.Frag) (C : Addr) (f : Str) : Prop := PySem.W.findIn K (.ref C) f = some none
structure Con (K : PySem.W.Frag) (C : Addr) (f : Str) (v : V) (u : Value) : Prop where
  at_ : PySem.W.findIn K (.ref C) f = some (some u)
  rel : RelV v u
  get : PySem.W.specialIn K u "__get__" = some none
  cp : PySem.W.copiedNames.contains f = false
structure Meth (K : PySem.W.Frag) (C : Addr) (m : Str) (f : Addr) : Prop where
  at_ : PySem.W.findIn K (.ref C) m = some (some (.ref f))
  fn : PySem.W.isFn K (.ref f) = true
  kp : PySem.W.keepIn K (.ref f) = true
section
variable {X : Cx} {pins : List (Addr × Obj)} {σ : St} {H : Hp} {s : Shared} {a C dx : Addr} {fs : List (Str × V)} {f : Str} {v : V} {A : Around} {E : Value → Shared → Prop}
end
def tFld (K : PySem.W.Frag) (ta : TE) (f : Str) : TE := fun σ H Q => ta σ H fun x H1 => ∃ a C dx fs v, x = .ref a ∧ H1 a = some (.ins C dx fs) ∧ Cls K C ∧ NoAttr K C f ∧ fs.lookup f = some v ∧ Q v H1
def tCon (K : PySem.W.Frag) (ta : TE) (f : Str) : TE := fun σ H Q => ta σ H fun x H1 => ∃ a C dx fs v u, x = .ref a ∧ H1 a = some (.ins C dx fs) ∧ Cls K C ∧ Con K C f v u ∧ fs.lookup f = none ∧ Q v H1
def sFld (K : PySem.W.Frag) (ta tv : TE) (f : Str) : TS := fun D σ H => tv σ H fun y H1 => ta σ H1 fun x H2 => ∃ a C dx fs, x = .ref a ∧ H2 a = some (.ins C dx fs) ∧ Cls K C ∧ NoAttr K C f ∧ fs.length < 1000 ∧
  D.nx σ (upd H2 a (.ins C dx (putF f y fs)))
def InOp (X : Cx) (op : Operator) (rd : V → V → Hp → VK → Prop) : Prop :=
  ∀ (pins : List (Addr × Obj)) (s : Shared) (σ : St) (H : Hp) (x y : V) (u v : Value) (Q : VK), Inv X pins σ H s → RelV x u → RelV y v → rd x y H Q → wpAny (model X.prog X.w) X.A (inplaceOp op u v) (EP X pins σ Q) X.xe s
def sFldAug (K : PySem.W.Frag) (ta tv : TE) (rd : V → V → Hp → VK → Prop) (f : Str) : TS := fun D σ H => ta σ H fun x H1 => ∃ a C dx fs v, x = .ref a ∧ H1 a = some (.ins C dx fs) ∧ Cls K C ∧ NoAttr K C f ∧ fs.lookup f = some v ∧
  tv σ H1 fun y H2 => rd v y H2 fun z H3 => ∃ dx' fs', H3 a = some (.ins C dx' fs') ∧ fs'.length < 1000 ∧ D.nx σ (upd H3 a (.ins C dx' (putF f z fs')))
section
variable {X : Cx} {o e value : Expr} {f : Str} {pos pos' tpos : Pos} {ta tv : TE}
def rAdd : V → V → Hp → VK → Prop := fun x y H Q => ∃ i j, x = .int i ∧ y = .int j ∧ Q (.int (i + j)) H
def rSub : V → V → Hp → VK → Prop := fun x y H Q => ∃ i j, x = .int i ∧ y = .int j ∧ Q (.int (i - j)) H
end
section
variable {X : Cx} {pins : List (Addr × Obj)} {σ : St} {H : Hp} {s : Shared} {A : Around} {E : Value → Shared → Prop} {Q : Value → Shared → Prop} {c : Value} {b : Bool}
inductive TyOf (K : PySem.W.Frag) (H : Hp) : V → Value → Prop where
  | non : TyOf K H .non (.type "NoneType")
  | bl (x : Bool) : TyOf K H (.bl x) (.type "bool")
  | int (i : Int) : TyOf K H (.int i) (.type "int")
  | str (x : Str) : TyOf K H (.str x) (.type "str")
  | flt (x : UInt64) : TyOf K H (.flt x) (.type "float")
  | lst {a : Addr} {xs : List V} (e : H a = some (.lst xs)) : TyOf K H (.ref a) (.type "list")
  | frz {a : Addr} {o : Obj} {xs : List V} (e : H a = some (.frz o (.lst xs))) : TyOf K H (.ref a) (.type "list")
  | tup {a : Addr} {xs : List V} (e : H a = some (.tup xs)) : TyOf K H (.ref a) (.type "tuple")
  | dK {a : Addr} {kvs : List (Key × V)} (e : H a = some (.dK kvs)) : TyOf K H (.ref a) (.type "dict")
  | dT {a : Addr} {kvs : List (List Key × V)} (e : H a = some (.dT kvs)) : TyOf K H (.ref a) (.type "dict")
  | ins {a C dx : Addr} {fs : List (Str × V)} (e : H a = some (.ins C dx fs)) (cl : Cls K C) (ha : PySem.W.findIn K (.ref C) "__class__" = some (some (.builtin "object.__class__")))
      (hn : PySem.W.specialIn K (.builtin "object.__class__") "__get__" = some (some (.builtin "getset_descriptor.__get__"))) (htk : PySem.W.takesIn K (.builtin "object.__class__") = some true)
      (hm : PySem.W.mroIn K C (.type "object") = some true) : TyOf K H (.ref a) (.ref C)
theorem isinst_ok {x : V} {u t : Value} (I : Inv X pins σ H s) (rx : RelV x u) (ty : TyOf X.K H x t) (e : PySem.W.kitOne X.K t c = some b) (h : ∀ tk, Q (.bool b) { s with toks := tk }) :
    wpAny (model X.prog X.w) A (call (.builtin "isinstance") [u, c]) Q E s := by
  cases ty with
  | non => cases (show u = Value.none from rx); exact PySem.W.kia_one PySem.W.kitx_none I.kIn True.intro e (fun z => nomatch z) h
  | bl y => cases (show u = Value.bool y from rx); exact PySem.W.kia_one PySem.W.kitx_bool I.kIn True.intro e (fun z => nomatch z) h
  | int i => obtain ⟨t, q⟩ := (show ∃ t, u = Value.int i t from rx); cases q; exact PySem.W.kia_one PySem.W.kitx_int I.kIn True.intro e (fun z => nomatch z) h
  | str y => obtain ⟨t, q⟩ := (show ∃ t, u = Value.str y t from rx); cases q; exact PySem.W.kia_one PySem.W.kitx_str I.kIn True.intro e (fun z => nomatch z) h
  | flt y => obtain ⟨t, q⟩ := (show ∃ t, u = Value.float y t from rx); cases q; exact PySem.W.kia_one PySem.W.kitx_float I.kIn True.intro e (fun z => nomatch z) h
  | @lst a xs ea =>
    cases (show u = Value.ref a from rx)
    obtain ⟨_, _, n, _, h1⟩ := (show ObjOk X.prog X.w H s.heap a (.lst xs) from I.hok a _ ea)
    exact PySem.W.kia_one PySem.W.kitx_list I.kIn ⟨_, h1, rfl⟩ e (fun z => nomatch z) h
  | @frz a ob xs ea =>
    cases (show u = Value.ref a from rx)
    obtain ⟨_, _, _, n, _, h1⟩ := (show ObjOk X.prog X.w H s.heap a (.frz ob (.lst xs)) from I.hok a _ ea)
    exact PySem.W.kia_one PySem.W.kitx_list I.kIn ⟨_, h1, rfl⟩ e (fun z => nomatch z) h
  | @tup a xs ea =>
    cases (show u = Value.ref a from rx)
    obtain ⟨_, _, _, p⟩ := (show ObjOk X.prog X.w H s.heap a (.tup xs) from I.hok a _ ea)
    obtain ⟨o, h1, h2, _⟩ := p
    exact PySem.W.kia_one PySem.W.kitx_tuple I.kIn ⟨o, h1, h2⟩ e (fun z => nomatch z) h
  | @dK a kvs ea =>
    cases (show u = Value.ref a from rx)
    obtain ⟨_, _, vs, _, p⟩ := (show ObjOk X.prog X.w H s.heap a (.dK kvs) from I.hok a _ ea)
    obtain ⟨o, es, ep, h1, h2, _⟩ := p
    exact PySem.W.kia_one PySem.W.kitx_dict I.kIn ⟨o, h1, h2.1⟩ e (fun z => nomatch z) h
  | @dT a kvs ea =>
    cases (show u = Value.ref a from rx)
    obtain ⟨_, _, xs, _, o, es, ep, h1, h2, _⟩ := (show ObjOk X.prog X.w H s.heap a (.dT kvs) from I.hok a _ ea)
    exact PySem.W.kia_one PySem.W.kitx_dict I.kIn ⟨o, h1, h2.1⟩ e (fun z => nomatch z) h
  | @ins a C dx fs ea cl ha hn htk hm =>
    cases (show u = Value.ref a from rx)
    obtain ⟨mA, O, _⟩ := ins_get I.hok ea
    obtain ⟨od, J, _⟩ := O.look
    exact PySem.W.kia_one (PySem.W.kitx_own (cl.get _) cl.hd ha hn htk hm) I.kIn J e (fun z => nomatch z) h
end
end L2
namespace L2
open PySem PySem.Spec PyProof.Rows
structure Room (k : Nat) (A : Around) : Prop where
  hd : A.handled = none
  dp : A.depth + 3 * k + 5 < recursionLimit
  un : A.units + 16 * k + 200 < cLine
  gd : A.guards = some []
theorem Room.mono {j k : Nat} {A : Around} (r : Room k A) (h : j ≤ k) : Room j A := ⟨r.hd, by have := r.dp; omega, by have := r.un; omega, r.gd⟩
theorem Room.deeper {k : Nat} {A : Around} (r : Room (k + 1) A) (env : Env) : Room k (A.deeper env) :=
  ⟨r.hd, by have := r.dp; show A.depth + 1 + 3 * k + 5 < _; omega, by have := r.un; show A.units + 3 + 16 * k + 200 < _; omega, r.gd⟩
theorem Room.depth {k : Nat} {A : Around} (r : Room k A) : A.depth < recursionLimit := by have := r.dp; omega
theorem Room.units {k : Nat} {A : Around} (r : Room k A) : A.units + 64 < cLine := by have := r.un; omega
def tNil : TA := fun _ H Q => Q [] H
def tCons (ta : TE) (tr : TA) : TA := fun σ H Q => ta σ H fun x H1 => tr σ H1 fun xs H2 => Q (x :: xs) H2
section
variable {X : Cx} {e : Expr} {es : List Expr} {te : TE} {t : TA} {pos : Pos}
theorem pa_nil : PA X [] tNil := fun _ _ _ _ H Q I h => Calls.spliced_nil ⟨[], H, I, .nil, h⟩
theorem pa_cons (ha : PE X e te) (hr : PA X es t) (hs : starEach (e :: es) X.env = (false, eval e X.env) :: starEach es X.env := by rfl) : PA X (e :: es) (tCons te t) := by
  intro pos pins s σ H Q I h
  rw [hs]
  show wpAny _ _ (spliced ((false, eval e X.env) :: backTo pos (starEach es X.env))) _ _ s
  refine Calls.spliced_cons (thn (ha pins s σ H _ I h) fun u s1 ⟨x, H1, I1, r1, q1⟩ => ?_)
  exact thn (hr pos pins s1 σ H1 _ I1 q1) fun us s2 ⟨xs, H2, I2, r2, q2⟩ => ⟨x :: xs, H2, I2, .cons r1 r2, q2⟩
def tTup (t : TA) : TE := fun σ H Q => t σ H fun xs H1 => xs.length ≤ sizeLine ∧ ∀ p, H1 p = none → Q (.ref p) (upd H1 p (.tup xs))
def tLst (t : TA) : TE := fun σ H Q => t σ H fun xs H1 => xs.length ≤ sizeLine ∧ ∀ p, H1 p = none → Q (.ref p) (upd H1 p (.lst xs))
theorem pe_tup {x1} (h : PA X es t) : PE X (.Tuple es x1 pos) (tTup t) := by
  intro pins s σ H Q I hq
  refine wpAny_Tuple_spliced (thn (h pos pins s σ H _ I hq) fun us s1 ⟨xs, H1, I1, r, z, q⟩ => ⟨by rw [← r.length]; exact z, ?_⟩)
  have hf : H1 s1.heap.objs.size = none := I1.hok.fresh (Nat.le_refl _)
  refine ⟨.ref s1.heap.objs.size, upd H1 s1.heap.objs.size (.tup xs), I1.laid (t' := s1.toks) (fun b u e => Heap.get?_push_of_some _ e) (Nat.le_refl _) ?_, rfl, q _ hf⟩
  exact ⟨z, us, r, ⟨_, Heap.get?_push_size _ rfl, rfl, _, rfl⟩⟩
theorem pe_lst (h : PA X es t) : PE X (.List es pos) (tLst t) := by
  intro pins s σ H Q I hq
  refine wpAny_List_spliced (thn (h pos pins s σ H _ I hq) fun us s1 ⟨xs, H1, I1, r, z, q⟩ => ⟨by rw [← r.length]; exact z, ?_⟩)
  have hf : H1 s1.heap.objs.size = none := I1.hok.fresh (Nat.le_refl _)
  refine ⟨.ref s1.heap.objs.size, upd H1 s1.heap.objs.size (.lst xs), I1.laid (t' := s1.toks) (fun b u e => Heap.get?_push_of_some _ e) (Nat.le_refl _) ?_, rfl, q _ hf⟩
  exact ⟨z, us, 0, r, Heap.get?_push_size _ rfl⟩
end
abbrev Sp := List V → Hp → VK → XK → Prop
abbrev CXT := List Env → Hp → Shared → XK → Value → Shared → Prop
structure Env0 (P : Program) (w : World) (K : PySem.W.Frag) (mg : Str → Option Value) (base : Heap) (A : Around) (outer : List Env) (s : Shared) (H : Hp) : Prop where
  frames : A.frames = some outer
  mod : Mod K mg base
  bs : ∀ b o, base.get? b = some o → s.heap.get? b = some o ∧ H b = none
  bsz : base.objs.size ≤ s.heap.objs.size
  funs : s.heap.FunFrames base outer
  frf : ∀ b ∈ frs outer, H b = none
  hok : HOk P w H s.heap
  bare : AllBare s.gens
def CE (outer : List Env) (P : Program) (w : World) (H : Hp) (s : Shared) (Q : VK) (u : Value) (s' : Shared) : Prop :=
  ∃ v H', s'.os = s.os ∧ AllBare s'.gens ∧ Un (frs outer) [] H H' s.heap s'.heap ∧ HOk P w H' s'.heap ∧ RelV v u ∧ Q v H'
def CR (CX : CXT) (outer : List Env) (P : Program) (w : World) (H : Hp) (s : Shared) (Q : VK) (E : XK) (r : Result) (s' : Shared) : Prop :=
  match r with
  | .ok (.ret u) => CE outer P w H s Q u s'
  | .ok _ => False
  | .error e => CX outer H s E e s'
structure FnOk (P : Program) (w : World) (K : PySem.W.Frag) (mg : Str → Option Value) (base : Heap) (CX : CXT) (k : Nat) (f : Addr) (fd : FuncData) (ps : List Str) (sp : Sp) : Prop where
  len : ∀ vs H Q E, sp vs H Q E → vs.length = ps.length
  run : ∀ (A : Around) (outer : List Env) (s : Shared) (H : Hp) (args : Args) (us : List Value) (vs : List V) (Q : VK) (E : XK), Room k A → Env0 P w K mg base A outer s H → BindsTo s fd args (ps.zip us) → Vals vs us → sp vs H Q E →
    codeAny (model P w) A (.call (.ref f) args) (CR CX outer P w H s Q E) s
section
variable {X : Cx} {pins : List (Addr × Obj)} {σ : St} {H : Hp} {s s' : Shared}
theorem Inv.env0 (I : Inv X pins σ H s) : Env0 X.prog X.w X.K X.mg X.base X.A X.stack s H :=
  ⟨I.ok.frames, I.ok.mod, I.bs, Nat.le_trans I.ok.bsz I.sz, I.stack, I.stkFree, I.hok, I.bare⟩
theorem Inv.after {Q : VK} {u : Value} (I : Inv X pins σ H s) (h : CE X.stack X.prog X.w H s Q u s') : EP X pins σ Q u s' := by
  obtain ⟨v, H', os, bare, un, hok, r, q⟩ := h
  obtain ⟨hh, g, d, t, os'⟩ := s'
  obtain rfl : os' = s.os := os
  exact ⟨v, H', I.call (h' := hh) (g' := g) (d' := d) (t' := t) (ch := []) un hok bare (fun b z => absurd z (by simp)), r, q⟩
end
def tCall (sp : Sp) (dvs : List V) (E : XK) (t : TA) : TE := fun σ H Q => t σ H fun vs H1 => sp (vs ++ dvs) H1 Q E
def tMeth (C : Addr) (m : Str) (sp : Sp) (dvs : List V) (E : XK) (ta : TE) (t : TA) : TE := fun σ H Q => ta σ H fun x H1 => ∃ a dx fs, x = .ref a ∧ H1 a = some (.ins C dx fs) ∧ fs.lookup m = none ∧
  t σ H1 fun vs H2 => sp (x :: (vs ++ dvs)) H2 Q E
def tMake (C : Addr) (sp : Sp) (dvs : List V) (E : XK) (t : TA) : TE := fun σ H Q => t σ H fun vs H1 => ∀ x dx, H1 x = none → H1 dx = none → dx ≠ x →
  sp (.ref x :: (vs ++ dvs)) (upd (upd H1 dx (.own x)) x (.ins C dx [])) (fun v H2 => v = .non ∧ Q (.ref x) H2) E
def Binds (K : PySem.W.Frag) (fd : FuncData) (ps : List Str) (ds : List Value) : Prop :=
  ∀ (s : Shared) (us : List Value), K.In s.heap → (us ++ ds).length = ps.length → BindsTo s fd ⟨us, []⟩ (ps.zip (us ++ ds))
theorem Binds.all {K : PySem.W.Frag} {fd : FuncData} {ps : List Str} (h : ∀ us : List Value, us.length = ps.length → bindArgs fd ⟨us, []⟩ = pure (ps.zip us)) : Binds K fd ps [] := fun s us _ hl => by
  rw [List.append_nil] at hl ⊢
  exact .of_eq (h us hl)
def Passes (CX : CXT) (X : Cx) (E : XK) : Prop := ∀ (pins : List (Addr × Obj)) (σ : St) (H : Hp) (s : Shared) (e : Value) (s' : Shared), Inv X pins σ H s → CX X.stack H s E e s' → X.xe e s'
section
variable {X : Cx} {CX : CXT} {k : Nat} {f C : Addr} {fd : FuncData} {ps : List Str} {sp : Sp} {dvs : List V} {ds : List Value} {E : XK} {x m : Str} {p pos apos : Pos} {e o : Expr} {es : List Expr} {ta : TE} {t : TA}
theorem run_fn {pins : List (Addr × Obj)} {σ : St} {H : Hp} {s : Shared} {Q : VK} {us : List Value} {vs : List V} (F : FnOk X.prog X.w X.K X.mg X.base CX k f fd ps sp) (hr : Room k X.A) (hb : Binds X.K fd ps ds) (hd : Vals dvs ds) (hx : Passes CX X E)
    (I : Inv X pins σ H s) (r : Vals vs us) (h : sp (vs ++ dvs) H Q E) : wpAny (model X.prog X.w) X.A (call (.ref f) us) (EP X pins σ Q) X.xe s := by
  have r2 : Vals (vs ++ dvs) (us ++ ds) := r.append hd
  have hl : (us ++ ds).length = ps.length := by rw [← r2.length]; exact F.len _ _ _ _ h
  refine wpAny_call (codeAny_mono (F.run X.A X.stack s H ⟨us, []⟩ (us ++ ds) (vs ++ dvs) Q E hr I.env0 (hb s us I.kIn hl) r2 h) fun r s' hq => ?_)
  cases r with
  | error e => exact hx pins σ H s e s' I hq
  | ok fl =>
    cases fl with
    | ret u => exact I.after hq
    | next => exact False.elim hq
    | brk => exact False.elim hq
    | cont => exact False.elim hq
theorem pe_call (F : FnOk X.prog X.w X.K X.mg X.base CX k f fd ps sp) (hr : Room k X.A) (hg : Gl X x) (hm : X.mg x = some (.ref f)) (hk : PySem.W.keepIn X.K (.ref f) = true) (hb : Binds X.K fd ps ds) (hd : Vals dvs ds) (hx : Passes CX X E)
    (ha : PA X (e :: es) t) (hdb : (x == ("__debug__" : Str)) = false := by decide) (he : starEach (e :: es) X.env = (false, eval e X.env) :: starEach es X.env := by rfl) (hpl : (backTo pos (starEach es X.env)).any (·.1) = false := by rfl) :
    PE X (.Call (.Name x p) (e :: es) [] pos) (tCall sp dvs E t) := by
  intro pins s σ H Q I h
  refine wpAny_Call_Name_kw (ld_glob I hg hm ?_ hdb)
  refine PySem.W.callWith_K (h₀ := X.base) I.ok.mod.kin hk (thn (ha pos pins s σ H _ I h) fun us s1 ⟨vs, H1, I1, r, q⟩ => ⟨I1.kIn, ?_⟩) he hpl
  exact run_fn F hr hb hd hx I1 r q
structure Mk (K : PySem.W.Frag) (C f : Addr) : Prop where
  makes : PySem.W.makesIn K C = true
  init : PySem.W.findIn K (.ref C) "__init__" = some (some (.ref f))
  fn : PySem.W.isFn K (.ref f) = true
  kp : PySem.W.keepIn K (.ref C) = true
end
def PK (X : Cx) (kws : List Keyword) (t : TA) : Prop :=
  ∀ (pos : Pos) (pins : List (Addr × Obj)) (s : Shared) (σ : St) (H : Hp) (Q : List V → Hp → Prop), Inv X pins σ H s → t σ H Q → wpAny (model X.prog X.w) X.A (evalAll ((backToKw pos (keywordEach kws X.env)).map (·.2))) (AP X pins σ Q) X.xe s
section
variable {X : Cx} {CX : CXT} {k : Nat} {f C : Addr} {fd : FuncData} {ps ks : List Str} {sp : Sp} {E : XK} {x m : Str} {p pos apos kpos : Pos} {e o : Expr} {es : List Expr} {kws : List Keyword} {te ta : TE} {t tk : TA} {nm : Option Str}
structure KBinds (K : PySem.W.Frag) (fd : FuncData) (ps ks : List Str) (g : List Value → List Value → List Value) (gV : List V → List V → List V) : Prop where
  to : ∀ (s : Shared) (us ws : List Value), K.In s.heap → (g us ws).length = ps.length → BindsTo s fd ⟨us, ks.zip ws⟩ (ps.zip (g us ws))
  rel : ∀ {vs : List V} {us : List Value} {zs : List V} {ws : List Value}, Vals vs us → Vals zs ws → Vals (gV vs zs) (g us ws)
def tCallK (sp : Sp) (gV : List V → List V → List V) (E : XK) (t tk : TA) : TE := fun σ H Q => t σ H fun vs H1 => tk σ H1 fun zs H2 => sp (gV vs zs) H2 Q E
variable {g : List Value → List Value → List Value} {gV : List V → List V → List V}
end
structure FnScope (N P : List Str) (sc : Scope) : Prop where
  kind : sc.kind = .function
  co : sc.isCoroutine = false
  gen : sc.isGenerator = false
  nd : N.Nodup
  pre : N.take P.length = P
  par : ∀ x ∈ P, sc.names.lookup x = some .local ∨ sc.names.lookup x = some .cell
  nofree : ∀ y ∈ sc.names, y.2 ≠ .free
theorem bindL_out {kindOf : Str → Option NameKind} {x : Str} : ∀ {binds : List (Str × Value)} {m : Str → Option Value}, (∀ v, (x, v) ∉ binds) → bindL kindOf binds m x = m x
  | [], _, _ => rfl
  | (n, v) :: r, m, h => by
    unfold bindL
    rw [bindL_out fun w hw => h w (List.mem_cons_of_mem _ hw)]
    split
    · have : x ≠ n := by rintro rfl; exact h v List.mem_cons_self
      simp [this]
    · rfl
theorem bindC_out {kindOf : Str → Option NameKind} {x : Str} : ∀ {binds : List (Str × Value)} {m : Str → Option Value}, (∀ v, (x, v) ∉ binds) → bindC kindOf binds m x = m x
  | [], _, _ => rfl
  | (n, v) :: r, m, h => by
    unfold bindC
    rw [bindC_out fun w hw => h w (List.mem_cons_of_mem _ hw)]
    split
    · rfl
    · have : x ≠ n := by rintro rfl; exact h v List.mem_cons_self
      simp [this]
theorem bindL_get {kindOf : Str → Option NameKind} {x : Str} {v : Value} : ∀ {P : List Str} {vs : List Value} {i : Nat} {m : Str → Option Value}, P.Nodup → P[i]? = some x → vs[i]? = some v → kindOf x = some .local →
    bindL kindOf (P.zip vs) m x = some v
  | [], _, _, _, _, h, _, _ => by simp at h
  | _ :: _, [], _, _, _, _, h, _ => by simp at h
  | p :: P, w :: vs, 0, m, nd, h1, h2, hk => by
    simp at h1 h2; subst h1; subst h2
    show bindL kindOf ((p, w) :: P.zip vs) m p = _
    unfold bindL
    rw [bindL_out fun v hv => (List.nodup_cons.mp nd).1 (List.of_mem_zip hv).1, if_pos hk]
    simp
  | p :: P, w :: vs, i + 1, m, nd, h1, h2, hk => by
    show bindL kindOf ((p, w) :: P.zip vs) m x = _
    unfold bindL
    exact bindL_get (i := i) (List.nodup_cons.mp nd).2 (by simpa using h1) (by simpa using h2) hk
theorem bindC_get {kindOf : Str → Option NameKind} {x : Str} {v : Value} : ∀ {P : List Str} {vs : List Value} {i : Nat} {m : Str → Option Value}, P.Nodup → P[i]? = some x → vs[i]? = some v → kindOf x ≠ some .local →
    bindC kindOf (P.zip vs) m x = some v
  | [], _, _, _, _, h, _, _ => by simp at h
  | _ :: _, [], _, _, _, _, h, _ => by simp at h
  | p :: P, w :: vs, 0, m, nd, h1, h2, hk => by
    simp at h1 h2; subst h1; subst h2
    show bindC kindOf ((p, w) :: P.zip vs) m p = _
    unfold bindC
    rw [bindC_out fun v hv => (List.nodup_cons.mp nd).1 (List.of_mem_zip hv).1, if_neg hk]
    simp
  | p :: P, w :: vs, i + 1, m, nd, h1, h2, hk => by
    show bindC kindOf ((p, w) :: P.zip vs) m x = _
    unfold bindC
    exact bindC_get (i := i) (List.nodup_cons.mp nd).2 (by simpa using h1) (by simpa using h2) hk
def start (N : List Str) (vs : List V) : St := vs.map some ++ List.replicate (N.length - vs.length) none
def cxOf (CX : CXT) (P : Program) (w : World) (K : PySem.W.Frag) (mg : Str → Option Value) (base : Heap) (N : List Str) (qual : Str) (scope : Scope) (f : Addr) (cd : Value) (A : Around) (outer : List Env) (s : Shared) (H : Hp) (E : XK) : Cx where
  prog := P
  w := w
  K := K
  mg := mg
  base := base
  A := A.deeper (envOfC qual scope s.heap.objs.size f cd)
  N := N
  s₀ := s
  H₀ := H
  env := envOfC qual scope s.heap.objs.size f cd
  outer := outer
  stack := envOfC qual scope s.heap.objs.size f cd :: outer
  ex := []
  calm := true
  fn := fun _ => true
  pn := []
  xe := fun e s' => wpAny (model P w) (A.deeper (envOfC qual scope s.heap.objs.size f cd)) (leaving (envOfC qual scope s.heap.objs.size f cd) e) (fun _ s'' => CX outer H s E e s'') (fun e' s'' => CX outer H s E e' s'') s'
theorem cell_has {sc : Scope} {n : Nat} {x : Str} (h : sc.names.lookup x = some .cell) : ∃ c, (cellsFrom n sc.names []).lookup x = some c := by
  have q := PySem.W.cellsFrom_some sc.names n [] (.inl h)
  exact Option.isSome_iff_exists.mp q
theorem inv_start {CX : CXT} {P : Program} {w : World} {K : PySem.W.Frag} {mg : Str → Option Value} {base : Heap} {N ps : List Str} {qual : Str} {scope : Scope} {f : Addr} {cd : Value} {A : Around} {outer : List Env} {s s1 : Shared} {H : Hp} {E : XK} {us : List Value} {vs : List V}
    (S : FnScope N ps scope) (hd : A.handled = none) (e0 : Env0 P w K mg base A outer s H) (hl : vs.length = ps.length) (r : Vals vs us)
    (x : InCallC s s.heap.objs.size (bindL (envOfC qual scope s.heap.objs.size f cd).kindOf (ps.zip us) fun _ => none) (cellsFrom (s.heap.objs.size + 1) scope.names []) (bindC (envOfC qual scope s.heap.objs.size f cd).kindOf (ps.zip us) fun _ => none) s1) :
    Inv (cxOf CX P w K mg base N qual scope f cd A outer s H E) [] (start N vs) H s1 := by
  have hpl : ps.length ≤ N.length := by have := congrArg List.length S.pre; rw [List.length_take] at this; omega
  obtain ⟨h1, tk, rfl, hk⟩ := x.done
  have noA : ∀ b : Addr, b ∉ (cxOf CX P w K mg base N qual scope f cd A outer s H E).ex := fun b z => absurd (show b ∈ ([] : List Addr) from z) (by simp)
  refine ⟨⟨e0.mod, S.kind, rfl, rfl, Nat.le_refl _, fun y z c h1 h2 => ?_, fun y hy => ?_, fun y c _ h => ?_, fun _ => hd, Around.frames_deeper e0.frames, .inr ⟨rfl, rfl⟩, fun b z => absurd z (noA b), e0.bs, e0.bsz, fun b _ _ => noA b, fun b z => absurd z (noA b), e0.funs, e0.frf⟩,
    rfl, e0.bare, Un.kept hk, ⟨_, x.toInCall.ns, fun i y v h1 h2 h3 => ?_⟩, fun y c h => ⟨_, x.cell y c h⟩, e0.hok.fresh (Nat.le_refl _), fun y c h => ?_, fun p hp => absurd (show p ∈ ([] : List (Addr × Obj)) from hp) (by simp), e0.hok.kept hk, ?_⟩
  · exact name_of_addr x.apart (PySem.mem_of_lookup h1) (PySem.mem_of_lookup h2)
  · have hy : scope.names.lookup y = some .cell ∨ scope.names.lookup y = some .free := hy
    rcases hy with hy | hy
    · exact cell_has hy
    · exact absurd rfl (S.nofree _ (PySem.mem_of_lookup hy))
  · exact Nat.le_of_lt (x.above y c (PySem.mem_of_lookup h))
  · have hi : i < vs.length := by
      unfold start at h2
      by_cases hi : i < vs.length
      · exact hi
      · rw [List.getElem?_append_right (by simpa using hi)] at h2
        rw [List.getElem?_replicate] at h2
        split at h2 <;> cases h2
    have ha : vs[i]? = some v := by
      unfold start at h2
      rw [List.getElem?_append_left (by simpa using hi), List.getElem?_map] at h2
      cases e : vs[i]? with
      | none => rw [e] at h2; cases h2
      | some a => rw [e] at h2; cases h2; rfl
    obtain ⟨u, hu, rv⟩ := r.get ha
    have hp : ps[i]? = some y := by
      rw [← S.pre, List.getElem?_take_of_lt (by omega)]; exact h1
    have ndP : ps.Nodup := by rw [← S.pre]; exact S.nd.sublist (List.take_sublist _ _)
    refine ⟨u, rv, ?_⟩
    rcases S.par y (List.mem_of_getElem? hp) with k | k
    · exact .inl ⟨k, bindL_get ndP hp hu k⟩
    · obtain ⟨c, e⟩ := cell_has (n := s.heap.objs.size + 1) k
      refine .inr ⟨.inl k, c, e, ?_⟩
      have q := x.cell y c e
      rw [bindC_get ndP hp hu (by show scope.names.lookup y ≠ _; rw [k]; decide)] at q
      exact q
  · exact e0.hok.fresh (Nat.le_of_lt (x.above y c (PySem.mem_of_lookup h)))
  · unfold start
    show _ = N.length
    rw [List.length_append, List.length_map, List.length_replicate]
    omega
theorem fn_of {CX : CXT} {P : Program} {w : World} {K : PySem.W.Frag} {mg : Str → Option Value} {base : Heap} {k : Nat} {f : Addr} {name qual : Str} {params : Arguments} {body : List Stmt} {scope : Scope} {dV kV doc pm cdv ct oc : Value} {an od : Option Addr}
    {osl : Array (Option Value)} {N ps : List Str} {sp : Sp} (lk : K.lookup f = some ⟨oc, od, .func (PySem.W.fnOf name qual params body scope dV kV doc pm an cdv ct), osl⟩) (hcd : PySem.W.codeIn K cdv qual = true) (S : FnScope N ps scope)
    (len : ∀ vs H Q E, sp vs H Q E → vs.length = ps.length)
    (hbody : ∀ (A : Around) (outer : List Env) (s : Shared) (H : Hp) (vs : List V) (Q : VK) (E : XK), Room k (A.deeper (envOfC qual scope s.heap.objs.size f cdv)) → sp vs H Q E →
      ∃ t, PSs (cxOf CX P w K mg base N qual scope f cdv A outer s H E) body t ∧ t { nx := fun _ H' => Q .non H', rt := Q } (start N vs) H) :
    FnOk P w K mg base CX (k + 1) f (PySem.W.fnOf name qual params body scope dV kV doc pm an cdv ct) ps sp := by
  refine ⟨len, fun A outer s H args us vs Q E hr e0 hb r hsp => ?_⟩
  have hl := len _ _ _ _ hsp
  have KX : K.In s.heap := e0.mod.kin.keeps fun b o e => (e0.bs b o e).1
  have lim : s.heap.NoLimit := e0.mod.nolimit.keeps fun b o e => (e0.bs b o e).1
  have hkind : ∀ y ∈ ps.zip us, scope.names.lookup y.1 = some .local ∨ (scope.names.lookup y.1 = some .cell ∧ ((cellsFrom (s.heap.objs.size + 1) scope.names []).lookup y.1).isSome = true) := fun ⟨n, v⟩ hy => by
    rcases S.par n (List.of_mem_zip hy).1 with q | q
    · exact .inl q
    · exact .inr ⟨q, PySem.W.cellsFrom_some _ _ _ (.inl q)⟩
  refine codeAny_call_function hr.depth (KX _ _ lk) rfl S.co S.gen rfl (PySem.W.codeRec_of KX hcd) (hb _ _ _ _ ?_)
  refine wpAny_newFunctionEnv_cells S.kind hkind fun env he s1 x => ?_
  subst he
  refine ⟨lim.keeps x.toInCall.keep, codeAny_func ?_⟩
  obtain ⟨t, ht, hq⟩ := hbody A outer s H vs Q E (hr.deeper _) hsp
  have I : Inv (cxOf CX P w K mg base N qual scope f cdv A outer s H E) [] (start N vs) H s1 := inv_start S hr.hd e0 hl r x
  refine wpAny_mono (ht [] s1 (start N vs) H _ I hq) (fun fl s' hs => ?_) fun e s' hs => hs
  have fin : ∀ {σ' : St} {H' : Hp} {v : V} {u : Value}, Inv (cxOf CX P w K mg base N qual scope f cdv A outer s H E) [] σ' H' s' → RelV v u → Q v H' → CE outer P w H s Q u s' :=
    fun {σ' H' v u} J rv q => ⟨v, H', J.os, J.bare, J.base, J.hok, rv, q⟩
  cases fl with
  | ret u =>
    obtain ⟨v, σ', H', J, rv, q⟩ := hs
    exact fin J rv q
  | next =>
    obtain ⟨σ', H', J, q⟩ := hs
    exact fin (v := V.non) (u := Value.none) J rfl q
  | brk =>
    obtain ⟨_, _, _, q⟩ := hs
    exact False.elim q
  | cont =>
    obtain ⟨_, _, _, q⟩ := hs
    exact False.elim q
end L2
namespace L2
open PySem PySem.Spec PyProof.Rows
section
variable {X : Cx} {x : Str} {p pos : Pos} {e : Expr} {es : List Expr} {t : TA} {id T : String} {r : List V → Hp → VK → Prop}
def tCB (r : List V → Hp → VK → Prop) (t : TA) : TE := fun σ H Q => t σ H fun vs H1 => r vs H1 Q
theorem pe_callB (hc : CallR X (.builtin id) r) (hg : Gl X x) (hm : X.mg x = none) (hv : bootBuiltins x = some (.builtin id)) (ha : PA X (e :: es) t) (hn : x ≠ "__name__" := by decide) (hdb : (x == ("__debug__" : Str)) = false := by decide)
    (he : starEach (e :: es) X.env = (false, eval e X.env) :: starEach es X.env := by rfl) (hpl : (backTo pos (starEach es X.env)).any (·.1) = false := by rfl) : PE X (.Call (.Name x p) (e :: es) [] pos) (tCB r t) := by
  intro pins s σ H Q I h
  refine wpAny_Call_Name_kw (ld_blt I hg hm hv ?_ hn hdb)
  exact PyProof.Rows.callWith_builtin1 (thn (ha pos pins s σ H _ I h) fun us s1 ⟨vs, H1, I1, r1, q1⟩ => hc pins s1 σ H1 vs us Q I1 r1 q1) he hpl
theorem pe_callTy (hc : CallR X (.type T) r) (hg : Gl X x) (hm : X.mg x = none) (hv : bootBuiltins x = some (.type T)) (ha : PA X (e :: es) t) (hn : x ≠ "__name__" := by decide) (hdb : (x == ("__debug__" : Str)) = false := by decide)
    (he : starEach (e :: es) X.env = (false, eval e X.env) :: starEach es X.env := by rfl) (hpl : (backTo pos (starEach es X.env)).any (·.1) = false := by rfl) : PE X (.Call (.Name x p) (e :: es) [] pos) (tCB r t) := by
  intro pins s σ H Q I h
  refine wpAny_Call_Name_kw (ld_blt I hg hm hv ?_ hn hdb)
  exact PyProof.Rows.callWith_type1 (thn (ha pos pins s σ H _ I h) fun us s1 ⟨vs, H1, I1, r1, q1⟩ => hc pins s1 σ H1 vs us Q I1 r1 q1) he hpl
end
end L2
namespace HT
open PySem PyProof.Rows
def lexLt : List Int → List Int → Bool
  | [], [] => false
  | [], _ :: _ => true
  | _ :: _, [] => false
  | x :: xs, y :: ys => if x = y then lexLt xs ys else decide (x < y)
theorem lexLt_cons (x y : Int) (xs ys : List Int) : lexLt (x :: xs) (y :: ys) = if x = y then lexLt xs ys else decide (x < y) := rfl
theorem lexLt_nil_nil : lexLt [] [] = false := rfl
theorem lexLt_nil_cons (y : Int) (ys : List Int) : lexLt [] (y :: ys) = true := rfl
theorem lexLt_cons_nil (x : Int) (xs : List Int) : lexLt (x :: xs) [] = false := rfl
section
open PySem.SeqAt
open PySem.AutoSeq1 (wpAny_loadPart')
open PySem.MeetsSeq PySem.MeetsSeq2 PySem.MeetsSeq3
end
section
variable {prog : Program} {w : World} {A : Around} {E : Value → Shared → Prop} {s : Shared}
theorem cat_tup {t b : Addr} {vs ws : List Value} {Q : Value → Shared → Prop} (ht : IsTup s.heap t vs.toArray) (hb : IsTup s.heap b ws.toArray) (hv : vs ≠ [])
    (h1 : ws = [] → Q (.ref t) s) (h2 : ws ≠ [] → Q (.ref s.heap.objs.size) { s with heap := s.heap.push { cls := .type "tuple", data := .seq (vs ++ ws).toArray } })
    (hsz : vs.length + ws.length ≤ sizeLine) : wpAny (model prog w) A (binaryOp .Add (.ref t) (.ref b)) Q E s := by
  obtain ⟨⟨cls, dd, data, sl⟩, ho, hc, n, hd⟩ := id ht
  obtain ⟨⟨cls2, dd2, data2, sl2⟩, ho2, hc2, n2, hd2⟩ := id hb
  simp only at hc hd hc2 hd2
  subst hc hd hc2 hd2
  have e : vs.toArray ++ ws.toArray = (vs ++ ws).toArray := by simp
  by_cases hw : ws = []
  · exact concat_meets ⟨_, ho, rfl⟩ ⟨_, ho2, rfl⟩ noFill_tuple_add seq_tuple_add PySem.F.slot_tuple_add PySem.F.entry_tuple_add (PySem.F.args_tuple_add_2 _ _)
      (tuple_addW1 t b vs.toArray ws.toArray n n2 dd dd2 sl sl2 (by simpa using hv) (by simp [hw])) ⟨ho, ho2, h1 hw⟩
  · refine concat_meets ⟨_, ho, rfl⟩ ⟨_, ho2, rfl⟩ noFill_tuple_add seq_tuple_add PySem.F.slot_tuple_add PySem.F.entry_tuple_add (PySem.F.args_tuple_add_2 _ _)
      (tuple_addW2 t b vs.toArray ws.toArray n n2 dd dd2 sl sl2 (by simpa using hv) (by simpa using hw) (by rw [List.size_toArray, List.size_toArray]; exact hsz)) ⟨ho, ho2, ?_⟩
    rw [e]
    exact h2 hw
def sIx (n d : Nat) : Option Int → Nat
  | none => d
  | some v => if v < 0 then (v + (n : Int)).toNat else min v.toNat n
theorem sIx_none (n d : Nat) : sIx n d none = d := rfl
theorem sIx_nat (n d k : Nat) : sIx n d (some (k : Int)) = min k n := by
  show (if (k : Int) < 0 then ((k : Int) + (n : Int)).toNat else min (k : Int).toNat n) = min k n
  rw [if_neg (by omega), Int.toNat_natCast]
theorem sIx_le (n d : Nat) (hd : d ≤ n) (o : Option Int) : sIx n d o ≤ n := by
  cases o with
  | none => exact hd
  | some v =>
    show (if v < 0 then (v + (n : Int)).toNat else min v.toNat n) ≤ n
    by_cases hv : v < 0
    · rw [if_pos hv]; omega
    · rw [if_neg hv]; exact Nat.min_le_right _ _
theorem clip_eq (v : Int) (n d : Nat) : (if v < 0 then max (v + (n : Int)) 0 else min v (n : Int)) = ((sIx n d (some v) : Nat) : Int) := by
  show (if v < 0 then max (v + (n : Int)) 0 else min v (n : Int)) = (((if v < 0 then (v + (n : Int)).toNat else min v.toNat n) : Nat) : Int)
  by_cases hv : v < 0
  · simp only [if_pos hv]; omega
  · simp only [if_neg hv]; omega
theorem adjust_gen (lo hi : Option Int) (n : Nat) : Builtin.Slice.sliceAdjust lo hi 1 (n : Int) = (((sIx n 0 lo : Nat) : Int), ((sIx n n hi : Nat) : Int)) := by
  have h1 : ¬ ((1 : Int) < 0) := by omega
  unfold Builtin.Slice.sliceAdjust
  simp only [h1, if_false]
  refine Prod.ext ?_ ?_
  · cases lo with
    | none => rfl
    | some v => exact clip_eq v n 0
  · cases hi with
    | none => rfl
    | some v => exact clip_eq v n n
theorem places_gen (i j : Nat) : Builtin.Slice.slicePlaces (i : Int) (j : Int) 1 = j - i := by
  unfold Builtin.Slice.slicePlaces
  have h1 : (1 : Int) > 0 := by omega
  simp only [h1, if_true, Int.ediv_one]
  split <;> omega
theorem slicePart_ {v : Value} {o : Option Int} {Q : Option Int → Shared → Prop} (p : IsPart v o) (h : Q o s) : wpAny (model prog w) A (Builtin.Slice.slicePartIndex v) Q E s := by
  cases p with
  | none => exact slicePart_none h
  | int i t => exact slicePart_int h
theorem sliceApplied_gen {sl : Addr} {vl vu : Value} {lo hi : Option Int} {n : Nat} {Q : Int × Int × Nat → Shared → Prop} (hs : s.heap.IsSliceOf sl vl vu .none) (pl : IsPart vl lo) (pu : IsPart vu hi)
    (h : Q (((sIx n 0 lo : Nat) : Int), 1, sIx n n hi - sIx n 0 lo) s) : wpAny (model prog w) A (Builtin.Slice.sliceApplied (.ref sl) (pure (n : Int))) Q E s := by
  obtain ⟨os, hos, hcs, hds⟩ := id hs
  unfold Builtin.Slice.sliceApplied Builtin.Slice.sliceFields
  refine wpAny_bind (wpAny_bind (wpAny_field hos hds (x := vl) rfl (wpAny_bind (wpAny_field hos hds (x := vu) rfl (wpAny_bind (wpAny_field hos hds (x := .none) rfl (wpAny_pure ?_)))))))
  refine wpAny_bind (slicePart_none ?_)
  show wpAny _ _ (if ((1 : Int) == 0) = true then _ else _) _ _ s
  rw [if_neg (by decide)]
  refine wpAny_bind (slicePart_ pl (wpAny_bind (slicePart_ pu (wpAny_bind (wpAny_pure ?_)))))
  show wpAny _ _ (match Builtin.Slice.sliceAdjust lo hi 1 (n : Int) with | (lo, hi) => pure (lo, (1 : Int), Builtin.Slice.slicePlaces lo hi 1)) _ _ s
  rw [adjust_gen lo hi n]
  show wpAny _ _ (pure (((sIx n 0 lo : Nat) : Int), (1 : Int), Builtin.Slice.slicePlaces ((sIx n 0 lo : Nat) : Int) ((sIx n n hi : Nat) : Int) 1)) _ _ s
  rw [places_gen]
  exact wpAny_pure h
theorem pick_gen (xs : Array Value) (i k : Nat) : ((List.range k).filterMap fun (m : Nat) => xs[((i : Int) + (m : Int) * 1).toNat]?).toArray = ((xs.toList.drop i).take k).toArray := by
  have e : (fun (m : Nat) => xs[((i : Int) + (m : Int) * 1).toNat]?) = fun m => xs[i + m]? := by
    funext m
    have : ((i : Int) + (m : Int) * 1).toNat = i + m := by omega
    rw [this]
  rw [e]
  have := pick_run xs i k
  rw [List.filterMap_map] at this
  have e2 : ((fun x => xs[x]?) ∘ fun x => i + x) = fun m => xs[i + m]? := rfl
  rw [e2] at this
  rw [this]
theorem getItem_tuple_cut {t sl : Addr} {items : Array Value} {vl vu : Value} {lo hi : Option Int} {Q : Value → Shared → Prop} (ht : IsTup s.heap t items) (hs : s.heap.IsSliceOf sl vl vu .none) (pl : IsPart vl lo) (pu : IsPart vu hi)
    (hw : ¬ (sIx items.size 0 lo = 0 ∧ sIx items.size items.size hi = items.size))
    (h : Q (.ref s.heap.objs.size) { s with heap := s.heap.push { cls := .type "tuple", data := .seq ((items.toList.drop (sIx items.size 0 lo)).take (sIx items.size items.size hi - sIx items.size 0 lo)).toArray } })
    (hsz : items.size ≤ sizeLine) : wpAny (model prog w) A (getItem (.ref t) (.ref sl)) Q E s := by
  have htake : sizeOk (.seq ((items.toList.drop (sIx items.size 0 lo)).take (sIx items.size items.size hi - sIx items.size 0 lo)).toArray) := by
    show ((items.toList.drop (sIx items.size 0 lo)).take (sIx items.size items.size hi - sIx items.size 0 lo)).toArray.size ≤ sizeLine
    rw [List.size_toArray, List.length_take, List.length_drop, Array.length_toList]
    omega
  have hj : sIx items.size items.size hi ≤ items.size := sIx_le _ _ (Nat.le_refl _) hi
  obtain ⟨os, hos, hcs, hds⟩ := id hs
  have hTs : s.TypeIs (.ref sl) "slice" := ⟨os, hos, hcs⟩
  unfold getItem
  try with_reducible refine wpAny_holding ?_
  first | refine wpAny_bind (wpAny_pure ?_) | skip
  refine wpAny_bind (wpAny_sequenceKey ht.typeIs (by decide) ?_)
  refine wpAny_bind (wpAny_callSpecial?_slot (name := Str.ofString "__getitem__") ht.typeIs PyProof.Rows.slot_tuple_getitem
    (wpAny_call_entry PyProof.Rows.slot_tuple_getitem ht.typeIs entry_tuple_getitem ?_ (args_tuple_getitem _ _)))
  show wpAny _ _ (Builtin.Tuple.tupleItemsOf (.ref t) >>= _) _ _ s
  refine wpAny_bind (tupleItemsOf_ ht ?_)
  refine wpAny_bind (wpAny_typeOf hTs ?_)
  rw [if_pos (by decide)]
  refine wpAny_bind (sliceApplied_gen hs pl pu ?_)
  have hno : ¬ ((((sIx items.size 0 lo : Nat) : Int) == 0 && (1 : Int) == 1 && (sIx items.size items.size hi - sIx items.size 0 lo) == items.size) = true) := by
    intro q
    rw [Bool.and_eq_true, Bool.and_eq_true] at q
    have q1 : ((sIx items.size 0 lo : Nat) : Int) = 0 := eq_of_beq q.1.1
    have q2 : sIx items.size items.size hi - sIx items.size 0 lo = items.size := eq_of_beq q.2
    exact hw ⟨by omega, by omega⟩
  show wpAny _ _ (if (((sIx items.size 0 lo : Nat) : Int) == 0 && (1 : Int) == 1 && (sIx items.size items.size hi - sIx items.size 0 lo) == items.size) = true then _ else _) _ _ s
  rw [if_neg hno, pick_gen]
  first
    | exact wpAny_bind (m := Builtin.Tuple.tupleExact _) (wpAny_newObj_type (wpAny_pure ⟨_, rfl, wpAny_pure h⟩) htake)
    | exact wpAny_bind (m := Builtin.Tuple.tupleExact _) (wpAny_newObj_type (wpAny_bind (wpAny_pure (wpAny_pure ⟨_, rfl, wpAny_pure h⟩))) htake)
    | exact wpAny_bind (wpAny_bind (m := Builtin.Tuple.tupleExact _) (wpAny_newObj_type (wpAny_pure (wpAny_pure ⟨_, rfl, wpAny_pure h⟩)) htake))
    | exact wpAny_bind (wpAny_bind (m := Builtin.Tuple.tupleExact _) (wpAny_newObj_type (wpAny_pure ⟨_, rfl, wpAny_pure h⟩) htake))
end
end HT
namespace L2
open PySem PySem.Spec PyProof.Rows
abbrev TO := St → Hp → (Option Int → Hp → Prop) → Prop
def PO (X : Cx) (e : Option Expr) (t : TO) : Prop :=
  ∀ (pins : List (Addr × Obj)) (s : Shared) (σ : St) (H : Hp) (Q : Option Int → Hp → Prop), Inv X pins σ H s → t σ H Q →
    wpAny (model X.prog X.w) X.A (evalPart e X.env) (fun u s' => ∃ o H', Inv X pins σ H' s' ∧ IsPart u o ∧ Q o H') X.xe s
def tNoPart : TO := fun _ H Q => Q none H
def tPart (t : TE) : TO := fun σ H Q => t σ H fun x H1 => ∃ i, x = .int i ∧ Q (some i) H1
theorem intsAre_of {ns : List Int} : ∀ {us : List Value}, Vals (ns.map V.int) us → IntsAre us ns := by
  induction ns with
  | nil => intro us r; rw [List.map_nil] at r; cases r; exact .nil
  | cons n ns ih =>
    intro us r
    rw [List.map_cons] at r
    cases r with
    | cons r1 r2 =>
      obtain ⟨t, e⟩ := r1
      subst e
      exact .cons n t (ih r2)
section
variable {X : Cx} {e : Expr} {te : TE} {lo hi : Option Expr} {tl th : TO} {pos p2 : Pos}
theorem po_none : PO X none tNoPart := by
  intro pins s σ H Q I h
  rw [evalPart_none]
  exact wpAny_pure ⟨none, H, I, .none, h⟩
theorem po_some (h : PE X e te) : PO X (some e) (tPart te) := by
  intro pins s σ H Q I hw
  rw [evalPart_some]
  refine thn (h pins s σ H _ I hw) fun u s1 ⟨x, H1, I1, r1, q1⟩ => ?_
  obtain ⟨i, rfl, q⟩ := q1
  obtain ⟨t, rfl⟩ := r1
  exact ⟨some i, H1, I1, .int i t, q⟩
def SlR (X : Cx) (r : V → Option Int → Option Int → Hp → VK → Prop) : Prop :=
  ∀ (pins : List (Addr × Obj)) (s : Shared) (σ : St) (H : Hp) (x : V) (v vl vu : Value) (lo hi : Option Int) (sl : Addr) (Q : VK), Inv X pins σ H s → RelV x v → s.heap.IsSliceOf sl vl vu .none → IsPart vl lo → IsPart vu hi → r x lo hi H Q →
    ∃ T id, typeLookup (.type T) "__getitem__" = pure (some (.builtin id)) ∧ s.TypeIs v T ∧ wpAny (model X.prog X.w) X.A (getItem v (.ref sl)) (EP X pins σ Q) X.xe s
def tSl (r : V → Option Int → Option Int → Hp → VK → Prop) (te : TE) (tl th : TO) : TE := fun σ H Q => te σ H fun x H1 => tl σ H1 fun l H2 => th σ H2 fun u H3 => r x l u H3 Q
theorem pe_slice {r : V → Option Int → Option Int → Hp → VK → Prop} (hr : SlR X r) (he : PE X e te) (hl : PO X lo tl) (hu : PO X hi th) : PE X (.Subscript e (.Slice lo hi none p2) pos) (tSl r te tl th) := by
  intro pins s σ H Q I h
  refine Subscript_ (thn (he pins s σ H _ I h) fun v s1 ⟨x, H1, I1, r1, q1⟩ => ?_)
  refine wpAny_Slice (thn (hl pins s1 σ H1 _ I1 q1) fun vl s2 ⟨l, H2, I2, pl, q2⟩ => thn (hu pins s2 σ H2 _ I2 q2) fun vu s3 ⟨u, H3, I3, pu, q3⟩ => ?_)
  rw [evalPart_none]
  refine wpAny_pure ?_
  have I4 : Inv X pins σ H3 { s3 with heap := s3.heap.push { cls := .type "slice", data := .fields #[vl, vu, .none] } } := I3.kept (t' := s3.toks) fun b ob q => Heap.get?_push_of_some _ q
  obtain ⟨T, id, hT, ht, hg⟩ := hr pins { s3 with heap := s3.heap.push { cls := .type "slice", data := .fields #[vl, vu, .none] } } σ H3 x v vl vu l u s3.heap.objs.size Q I4 r1 (Heap.IsSliceOf.new ..) pl pu q3
  show wpAny (model X.prog X.w) X.A (subscriptTail e (.Slice lo hi none p2) v (.ref s3.heap.objs.size)) (EP X pins σ Q) X.xe { s3 with heap := s3.heap.push { cls := .type "slice", data := .fields #[vl, vu, .none] } }
  exact tail_any (ops := [.ref s3.heap.objs.size, v]) ht hT hg (by with_unfolding_all rfl)
def cutV (xs : List V) (lo hi : Option Int) : List V := (xs.drop (HT.sIx xs.length 0 lo)).take (HT.sIx xs.length xs.length hi - HT.sIx xs.length 0 lo)
theorem cutV_length (xs : List V) (lo hi : Option Int) : (cutV xs lo hi).length ≤ xs.length := by
  unfold cutV
  rw [List.length_take, List.length_drop]
  omega
def rSlT (K : PySem.W.Frag) : V → Option Int → Option Int → Hp → VK → Prop := fun x lo hi H Q => ∃ a xs, x = .ref a ∧ SqT K H a xs ∧
  ¬ (HT.sIx xs.length 0 lo = 0 ∧ HT.sIx xs.length xs.length hi = xs.length) ∧ ∀ p, H p = none → Q (.ref p) (upd H p (.tup (cutV xs lo hi)))
theorem sl_tup : SlR X (rSlT X.K) := by
  intro pins s σ H x v vl vu lo hi sl Q I rx hs pl pu h
  obtain ⟨a, xs, rfl, hx, hw, q⟩ := h
  cases rx
  obtain ⟨its, r, ht, hz⟩ := I.tuple hx
  have hlen : its.toArray.size = xs.length := by rw [List.size_toArray]; exact r.length.symm
  refine ⟨"tuple", _, PyProof.Rows.slot_tuple_getitem.lookup, ht.typeIs, ?_⟩
  refine HT.getItem_tuple_cut ht hs pl pu (by rw [hlen]; exact hw) ?_ (by rw [hlen]; exact hz)
  rw [hlen]
  refine ⟨.ref s.heap.objs.size, _, I.laid (t' := s.toks) (o := .tup (cutV xs lo hi)) (fun b ob q => Heap.get?_push_of_some _ q) (Nat.le_refl _) ?_, rfl, q _ (I.hok.fresh (Nat.le_refl _))⟩
  exact ⟨Nat.le_trans (cutV_length xs lo hi) hz, _, (r.drop (HT.sIx xs.length 0 lo)).take (HT.sIx xs.length xs.length hi - HT.sIx xs.length 0 lo), IsTup.new _ _⟩
def rLtT (K : PySem.W.Frag) : R2 := fun x y H Q => ∃ a b ns ms, x = .ref a ∧ y = .ref b ∧ SqT K H a (ns.map V.int) ∧ SqT K H b (ms.map V.int) ∧ Q (.bl (HT.lexLt ns ms)) H
def rCatT (K : PySem.W.Frag) : R2 := fun x y H Q => ∃ a b xs ys, x = .ref a ∧ y = .ref b ∧ SqT K H a xs ∧ SqT K H b ys ∧ xs ≠ [] ∧ xs.length + ys.length ≤ sizeLine ∧
  (ys = [] → Q (.ref a) H) ∧ (ys ≠ [] → ∀ p, H p = none → Q (.ref p) (upd H p (.tup (xs ++ ys))))
theorem Vals.nil_iff {xs : List V} {us : List Value} (r : Vals xs us) : us = [] ↔ xs = [] := by
  cases r with
  | nil => simp
  | cons _ _ => simp
theorem op_catT : OpR X (binaryOp .Add) (rCatT X.K) := by
  intro pins s σ H x y v u Q I rx ry h
  obtain ⟨a, b, xs, ys, rfl, rfl, ha, hb, hx, hz, q1, q2⟩ := h
  cases rx
  cases ry
  obtain ⟨its, r1, p1, _⟩ := I.tuple ha
  obtain ⟨its2, r2, p2, _⟩ := I.tuple hb
  refine HT.cat_tup p1 p2 (fun z => hx (r1.nil_iff.mp z)) (fun z => ⟨.ref a, H, I, rfl, q1 (r2.nil_iff.mp z)⟩) (fun z => ?_) (by rw [← r1.length, ← r2.length]; exact hz)
  refine ⟨.ref s.heap.objs.size, _, I.laid (t' := s.toks) (o := .tup (xs ++ ys)) (fun b ob q => Heap.get?_push_of_some _ q) (Nat.le_refl _) ?_, rfl, q2 (fun w => z (r2.nil_iff.mpr w)) _ (I.hok.fresh (Nat.le_refl _))⟩
  exact ⟨by rw [List.length_append]; exact hz, _, r1.append r2, IsTup.new _ _⟩
end
end L2
namespace L2
open PySem PySem.Spec PyProof.Rows
def ixN (n : Nat) (i : Int) : Option Nat := if 0 ≤ i then (if i < n then some i.toNat else none) else if -(n : Int) ≤ i then some (i + n).toNat else none
def atI {α : Type} (xs : List α) (i : Int) : Option α := (ixN xs.length i).bind fun j => xs[j]?
theorem ixN_seq {n : Nat} {i : Int} {j : Nat} (h : ixN n i = some j) : seqIndex? i n = some j ∧ j < n ∧ -(n : Int) ≤ i ∧ i < n := by
  unfold ixN at h
  by_cases h0 : 0 ≤ i
  · rw [if_pos h0] at h
    by_cases h1 : i < n
    · rw [if_pos h1] at h
      have e : i.toNat = j := Option.some.inj h
      exact ⟨by rw [seqIndex_of h0 h1, e], by omega, by omega, h1⟩
    · rw [if_neg h1] at h; cases h
  · rw [if_neg h0] at h
    by_cases h1 : -(n : Int) ≤ i
    · rw [if_pos h1] at h
      have e : (i + n).toNat = j := Option.some.inj h
      exact ⟨by rw [seqIndex_neg (by omega) h1, e], by omega, h1, by omega⟩
    · rw [if_neg h1] at h; cases h
theorem atI_get {α : Type} {xs : List α} {i : Int} {v : α} (h : atI xs i = some v) : ∃ j, seqIndex? i xs.length = some j ∧ xs[j]? = some v ∧ j < xs.length ∧ -(xs.length : Int) ≤ i ∧ i < xs.length := by
  unfold atI at h
  cases e : ixN xs.length i with
  | none => rw [e] at h; cases h
  | some j =>
    rw [e] at h
    obtain ⟨h1, h2, h3, h4⟩ := ixN_seq e
    exact ⟨j, h1, h, h2, h3, h4⟩
theorem atI_nat {α : Type} {xs : List α} {j : Nat} {v : α} (h : xs[j]? = some v) : atI xs (j : Int) = some v := by
  have hj : j < xs.length := (List.getElem?_eq_some_iff.mp h).1
  have e : ixN xs.length (j : Int) = some j := by
    unfold ixN
    rw [if_pos (by omega), if_pos (by omega)]; simp
  unfold atI; rw [e]; exact h
def PlainIx (b : Expr) : Prop := ∀ o i, subscripted b false o i = operate [o, i] (getItem o i)
def IxR (X : Cx) (r : R2) : Prop :=
  ∀ (value slice : Expr) (pins : List (Addr × Obj)) (s : Shared) (σ : St) (H : Hp) (x y : V) (v u : Value) (Q : VK), Inv X pins σ H s → RelV x v → RelV y u → r x y H Q →
    subscripted slice false v u = operate [v, u] (getItem v u) → wpAny (model X.prog X.w) X.A (subscriptTail value slice v u) (EP X pins σ Q) X.xe s
def MtR (X : Cx) (id : String) (r : V → List V → Hp → VK → Prop) : Prop :=
  ∀ (pins : List (Addr × Obj)) (s : Shared) (σ : St) (H : Hp) (x : V) (xs : List V) (v : Value) (us : List Value) (Q : VK), Inv X pins σ H s → RelV x v → Vals xs us → r x xs H Q →
    wpAny (model X.prog X.w) X.A (call (.builtin id) (v :: us)) (EP X pins σ Q) X.xe s
section
variable {X : Cx} {a b : Expr} {ta tb : TE} {pos : Pos}
theorem pe_ix {r : R2} (hr : IxR X r) (ha : PE X a ta) (hb : PE X b tb) (hs : PlainIx b) : PE X (.Subscript a b pos) (tOp r ta tb) := by
  intro pins s σ H Q I h
  exact Subscript_ (binT ha hb I h fun v u s2 x y H2 I2 rx ry q => hr a b pins s2 σ H2 x y v u Q I2 rx ry q (hs _ _))
def rIxL (K : PySem.W.Frag) : R2 := fun x y H Q => ∃ p xs i v, x = .ref p ∧ y = .int i ∧ SqL K H p xs ∧ atI xs i = some v ∧ Q v H
def rIxT (K : PySem.W.Frag) : R2 := fun x y H Q => ∃ p xs i v, x = .ref p ∧ y = .int i ∧ SqT K H p xs ∧ atI xs i = some v ∧ Q v H
def rIxS : R2 := fun x y H Q => ∃ z i c, x = .str z ∧ y = .int i ∧ z.length ≤ sizeLine ∧ atI z.cps.toList i = some c ∧ Q (.str ⟨#[c]⟩) H
theorem ix_list : IxR X (rIxL X.K) := by
  intro value slice pins s σ H x y v u Q I rx ry h hs
  obtain ⟨p, xs, i, z, rfl, rfl, hq, he, q⟩ := h
  cases rx
  obtain ⟨t, rfl⟩ := ry
  obtain ⟨its, r, pl, hz⟩ := I.list hq
  obtain ⟨j, h1, h2, h3, h4, h5⟩ := atI_get he
  obtain ⟨w, ew, rw'⟩ := r.get h2
  have hl := r.length
  have hn := line63
  have fin : EP X pins σ Q w s := ⟨z, H, I, rw', q⟩
  by_cases h0 : 0 ≤ i
  · have hj : i.toNat = j := by
      rw [seqIndex_of h0 h5] at h1
      exact Option.some.inj h1
    exact item_listR pl.isList h0 (by omega) (by rw [hj]; simpa using ew) fin hs
  · have hj : (i + (its.toArray.size : Int)).toNat = j := by
      rw [seqIndex_neg (by omega) h4] at h1
      rw [List.size_toArray, ← hl]
      exact Option.some.inj h1
    exact subscriptTail_builtinR (x := w) pl.isList.typeIs slot_list_getitem.lookup
      (wpAny_getItem_list_neg (Q := fun r s' => r = w ∧ EP X pins σ Q r s') pl.isList (by omega) (by rw [List.size_toArray] <;> omega) (by omega) (by rw [hj]; simpa using ew) ⟨rfl, fin⟩) hs
theorem ix_tup : IxR X (rIxT X.K) := by
  intro value slice pins s σ H x y v u Q I rx ry h hs
  obtain ⟨p, xs, i, z, rfl, rfl, hq, he, q⟩ := h
  cases rx
  obtain ⟨t, rfl⟩ := ry
  obtain ⟨its, r, pl, hz⟩ := I.tuple hq
  obtain ⟨j, h1, h2, h3, h4, h5⟩ := atI_get he
  obtain ⟨w, ew, rw'⟩ := r.get h2
  have hl := r.length
  have hn := line63
  have fin : EP X pins σ Q w s := ⟨z, H, I, rw', q⟩
  exact subscriptTail_builtinR (x := w) pl.typeIs slot_tuple_getitem.lookup
    (getItem_tuple (j := j) (Q := fun r s' => r = w ∧ EP X pins σ Q r s') pl (by omega) (by omega) (by rw [List.size_toArray, ← hl]; exact h1) (by simpa using ew) ⟨rfl, fin⟩) hs
def rIx (K : PySem.W.Frag) : R2 := fun x y H Q => rIxL K x y H Q ∨ rIxT K x y H Q ∨ rIxS x y H Q
theorem mapSeq_set (its : List Value) (n j : Nat) (u : Value) : Obj.mapSeq (·.setIfInBounds j u) { cls := .type "list", data := .seq its.toArray n } = { cls := .type "list", data := .seq (its.set j u).toArray n } := by
  simp [Obj.mapSeq]
theorem Inv.lst {pins : List (Addr × Obj)} {σ : St} {H : Hp} {s : Shared} {p : Addr} {xs : List V} (I : Inv X pins σ H s) (h : H p = some (.lst xs)) :
    ∃ (its : List Value) (n : Nat), Vals xs its ∧ s.heap.get? p = some { cls := .type "list", data := .seq its.toArray n } ∧ xs.length ≤ sizeLine := by
  obtain ⟨z, its, n, r, e⟩ := I.hok p _ h
  exact ⟨its, n, r, e, z⟩
theorem Inv.lstUpd {pins : List (Addr × Obj)} {σ : St} {H : Hp} {s : Shared} {p : Addr} {xs ys : List V} {its its' : List Value} {n n' : Nat} {f : Obj → Obj} (I : Inv X pins σ H s) (h : H p = some (.lst xs))
    (ho : s.heap.get? p = some { cls := .type "list", data := .seq its.toArray n }) (hf : f { cls := .type "list", data := .seq its.toArray n } = { cls := .type "list", data := .seq its'.toArray n' }) (r : Vals ys its') (hz : ys.length ≤ sizeLine) (t : Nat) :
    Inv X pins σ (upd H p (.lst ys)) { s with heap := s.heap.update p f, toks := t } := by
  have e : (s.heap.update p f).get? p = some { cls := .type "list", data := .seq its'.toArray n' } := by
    rw [Heap.get?_update_self f ho (by rw [hf] <;> rfl), hf]
  refine I.write (x := p) (e := p) (by rw [h]; trivial) (.inl rfl) (fun b u hb q => (Heap.get?_update_other _ _ (Ne.symm hb)).trans q) ⟨_, e⟩ ?_
  exact ⟨hz, its', n', r, e⟩
def rSetL : V → V → V → Hp → (Hp → Prop) → Prop := fun o i v H Q => ∃ p xs k j, o = .ref p ∧ i = .int k ∧ H p = some (.lst xs) ∧ ixN xs.length k = some j ∧ Q (upd H p (.lst (xs.set j v)))
theorem set_list : PSet X rSetL := by
  intro pins s σ H o i v ov iv u Q I ro ri rv h
  obtain ⟨p, xs, k, j, rfl, rfl, hp, hj, q⟩ := h
  cases ro
  obtain ⟨t, rfl⟩ := ri
  obtain ⟨its, n, r, ho, hz⟩ := I.lst hp
  obtain ⟨h1, h2, h3, h4⟩ := ixN_seq hj
  have hl := r.length
  have hn := line63
  have I' : Inv X pins σ (upd H p (.lst (xs.set j v))) { s with heap := s.heap.update p (Obj.mapSeq (·.setIfInBounds j u)) } :=
    I.lstUpd hp ho (mapSeq_set its n j u) (r.set rv j) (by rw [List.length_set]; exact hz) s.toks
  by_cases h0 : 0 ≤ k
  · have hk : k.toNat = j := by
      rw [seqIndex_of h0 h4] at h1
      exact Option.some.inj h1
    exact PySem.W.ki_setAt ho h0 (by omega) (by rw [List.size_toArray, ← hl]; exact h4) (by rw [hk]; exact ⟨_, I', q⟩)
  · have hk : (k + (its.toArray.size : Int)).toNat = j := by
      rw [seqIndex_neg (by omega) h3] at h1
      rw [List.size_toArray, ← hl]
      exact Option.some.inj h1
    exact PySem.W.ki_setBack ho (by omega) (by rw [List.size_toArray, ← hl]; exact h3) (by omega) (by rw [hk]; exact ⟨_, I', q⟩)
theorem slice_bounds (lo hi : Option Int) (n : Nat) : (sliceBounds lo hi none n).1 = ((HT.sIx n 0 lo : Nat) : Int) ∧ (sliceBounds lo hi none n).2.1 = ((HT.sIx n n hi : Nat) : Int) ∧ (sliceBounds lo hi none n).2.2 = 1 := by
  refine ⟨?_, ?_, rfl⟩
  · cases lo with
    | none => simp [sliceBounds, HT.sIx]
    | some i =>
      simp only [sliceBounds, HT.sIx, Option.getD_none, show (1 : Int) > 0 by decide, if_true]
      by_cases h : i < 0
      · simp only [h, if_true] <;> omega
      · simp only [h, if_false] <;> omega
  · cases hi with
    | none => simp [sliceBounds, HT.sIx]
    | some i =>
      simp only [sliceBounds, HT.sIx, Option.getD_none, show (1 : Int) > 0 by decide, if_true]
      by_cases h : i < 0
      · simp only [h, if_true] <;> omega
      · simp only [h, if_false] <;> omega
theorem slicePick_cut (its : List Value) (lo hi : Option Int) : slicePick its.toArray lo hi none = ((its.drop (HT.sIx its.length 0 lo)).take (HT.sIx its.length its.length hi - HT.sIx its.length 0 lo)).toArray := by
  obtain ⟨h1, h2, h3⟩ := slice_bounds lo hi its.toArray.size
  unfold slicePick
  rw [h1, h2, h3]
  simp only [sliceRange_one, pick_run, List.size_toArray] <;> rfl
def rSlL (K : PySem.W.Frag) : V → Option Int → Option Int → Hp → VK → Prop := fun x lo hi H Q => ∃ a xs, x = .ref a ∧ SqL K H a xs ∧ ∀ p, H p = none → Q (.ref p) (upd H p (.lst (cutV xs lo hi)))
theorem sl_list : SlR X (rSlL X.K) := by
  intro pins s σ H x v vl vu lo hi sl Q I rx hs pl pu h
  obtain ⟨a, xs, rfl, hx, q⟩ := h
  cases rx
  obtain ⟨its, r, ht, hz⟩ := I.list hx
  have hlen := r.length
  refine ⟨"list", _, slot_list_getitem.lookup, ht.isList.typeIs, ?_⟩
  refine wpAny_getItem_list_slice ht.isList hs pl pu .none (by simp) ?_ (by rw [List.size_toArray] <;> omega)
  rw [slicePick_cut, ← hlen]
  refine ⟨.ref s.heap.objs.size, _, I.laid (t' := s.toks) (o := .lst (cutV xs lo hi)) (fun b ob q => Heap.get?_push_of_some _ q) (Nat.le_refl _) ?_, rfl, q _ (I.hok.fresh (Nat.le_refl _))⟩
  exact ⟨Nat.le_trans (cutV_length xs lo hi) hz, _, 0, (r.drop (HT.sIx xs.length 0 lo)).take (HT.sIx xs.length xs.length hi - HT.sIx xs.length 0 lo), Heap.get?_push_size _ rfl⟩
def flatV : V → Bool
  | .non => true
  | .bl _ => true
  | .int _ => true
  | .str _ => true
  | _ => false
def eqV : V → V → Bool
  | .non, .non => true
  | .bl a, .bl b => a == b
  | .bl a, .int b => (if a then 1 else 0) == b
  | .int a, .bl b => a == (if b then 1 else 0)
  | .int a, .int b => a == b
  | .str a, .str b => a == b
  | _, _ => false
def eqU (x : V) (u : Value) : Bool := match u with
  | .none => eqV .non x
  | .bool b => eqV (.bl b) x
  | .int i _ => eqV (.int i) x
  | .str z _ => eqV (.str z) x
  | _ => false
def inV (x : V) (xs : List V) : Bool := xs.any fun y => eqV y x
def rIn (K : PySem.W.Frag) (neg : Bool) : R2 := fun x y H Q => ∃ p xs, y = .ref p ∧ (SqL K H p xs ∨ SqT K H p xs) ∧ flatV x = true ∧ xs.all flatV = true ∧ Q (.bl (if neg then !inV x xs else inV x xs)) H
theorem call_len_seq : CallR X (.builtin "len") (fun xs H Q => ∃ p ys, xs = [.ref p] ∧ (SqL X.K H p ys ∨ SqT X.K H p ys) ∧ Q (.int ys.length) H) := by
  intro pins s σ H xs us Q I r h
  obtain ⟨p, ys, rfl, hq, q⟩ := h
  obtain ⟨u, rfl, rx⟩ := vals1 r
  cases rx
  have hn := line63
  rcases hq with hq | hq
  · obtain ⟨its, r', pl, hz⟩ := I.list hq
    have hlen := r'.length
    exact Calls.call_len_list pl.isList (by simp only [List.size_toArray] <;> omega) ⟨.int ys.length, H, I.tok _, ⟨s.toks + 1, by rw [List.size_toArray, hlen]⟩, q⟩
  · obtain ⟨its, r', pl, hz⟩ := I.tuple hq
    have hlen := r'.length
    exact len_tuple pl (by simp only [List.size_toArray] <;> omega) ⟨.int ys.length, H, I.tok _, ⟨s.toks + 1, by rw [List.size_toArray, hlen]⟩, q⟩
theorem call_tuple_of : CallR X (.type "tuple") (fun xs H Q => ∃ p ys, xs = [.ref p] ∧ ((SqL X.K H p ys ∧ ∀ l, H l = none → Q (.ref l) (upd H l (.tup ys))) ∨ (SqT X.K H p ys ∧ Q (.ref p) H))) := by
  intro pins s σ H xs us Q I r h
  obtain ⟨p, ys, rfl, h⟩ := h
  obtain ⟨u, rfl, rx⟩ := vals1 r
  cases rx
  rcases h with ⟨hq, q⟩ | ⟨hq, q⟩
  · obtain ⟨its, r', pl, hz⟩ := I.list hq
    have hlen := r'.length
    refine call_tuple_list pl.isList (fun h' kp => ?_) (by simp only [List.size_toArray] <;> omega)
    have I1 : Inv X pins σ H { s with heap := h' } := I.kept (t' := s.toks) kp
    have I2 : Inv X pins σ (upd H h'.objs.size (.tup ys)) { s with heap := h'.push { cls := .type "tuple", data := .seq its.toArray } } :=
      I1.laid (t' := s.toks) (fun b o e => Heap.get?_push_of_some _ e) (Nat.le_refl _) (show ObjOk X.prog X.w _ _ _ (.tup ys) from ⟨hz, its, r', IsTup.new _ _⟩)
    exact ⟨.ref h'.objs.size, _, I2, rfl, q _ (I1.hok.fresh (Nat.le_refl _))⟩
  · obtain ⟨its, r', pl, hz⟩ := I.tuple hq
    exact call_tuple_same pl ⟨.ref p, H, I, rfl, q⟩
def tyV (K : PySem.W.Frag) (T : String) (x : V) (H : Hp) : Prop := match x with
  | .str _ => T = "str"
  | .int _ => T = "int"
  | .ref p => (T = "list" ∧ ∃ xs, SqL K H p xs) ∨ (T = "tuple" ∧ ∃ o, K.lookup p = some o ∧ o.cls = .type "tuple" ∧ o.dict = none) ∨
      (T = "dict" ∧ ((∃ kvs, H p = some (.dK kvs)) ∨ ∃ kvs, H p = some (.dT kvs))) ∨ (T = "set" ∧ ∃ S n, H p = some (.set S n))
  | _ => False
theorem tyV_is {pins : List (Addr × Obj)} {σ : St} {H : Hp} {s : Shared} {T : String} {x : V} {v : Value} (I : Inv X pins σ H s) (r : RelV x v) (ty : tyV X.K T x H) :
    s.TypeIs v T ∧ ∀ a, v = .ref a → ∃ ob, s.heap.get? a = some ob ∧ ob.dict = none := by
  cases x with
  | str z =>
    obtain ⟨t, rfl⟩ := r
    cases (show T = "str" from ty)
    exact ⟨typeIs_str s z t, fun _ e => nomatch e⟩
  | int i =>
    obtain ⟨t, rfl⟩ := r
    cases (show T = "int" from ty)
    exact ⟨typeIs_int s i t, fun _ e => nomatch e⟩
  | ref p =>
    cases r
    rcases ty with ⟨rfl, xs, hq⟩ | ⟨rfl, o, hk, hc, hd⟩ | ⟨rfl, hk⟩ | ⟨rfl, S, n, hk⟩
    · obtain ⟨its, _, pl, _⟩ := I.list hq
      refine ⟨pl.isList.typeIs, fun a e => ?_⟩
      cases e
      obtain ⟨o, n, e, c, hd, _⟩ := pl
      exact ⟨o, e, hd⟩
    · refine ⟨⟨o, I.kIn p o hk, hc⟩, fun a e => ?_⟩
      cases e
      exact ⟨o, I.kIn _ o hk, hd⟩
    · have z : ∃ o, s.heap.get? p = some o ∧ o.ExactDict := by
        rcases hk with ⟨kvs, hk⟩ | ⟨kvs, hk⟩
        · obtain ⟨_, _, _, _, o, _, _, e, ex, _⟩ := I.hok p _ hk
          exact ⟨o, e, ex⟩
        · obtain ⟨_, _, _, _, o, _, _, e, ex, _⟩ := I.hok p _ hk
          exact ⟨o, e, ex⟩
      obtain ⟨o, e, ex⟩ := z
      refine ⟨⟨o, e, ex.1⟩, fun a e2 => ?_⟩
      cases e2
      exact ⟨o, e, ex.2.1⟩
    · obtain ⟨o, _, _, _, e, ex, _⟩ := I.hok p _ hk
      refine ⟨⟨o, e, ex.1⟩, fun a e2 => ?_⟩
      cases e2
      exact ⟨o, e, ex.2.1⟩
  | _ => exact False.elim ty
def tBM0 (K : PySem.W.Frag) (T : String) (r : V → List V → Hp → VK → Prop) (to : TE) : TE := fun σ H Q => to σ H fun x H1 => tyV K T x H1 ∧ r x [] H1 Q
def tBM (K : PySem.W.Frag) (T : String) (r : V → List V → Hp → VK → Prop) (to : TE) (t : TA) : TE := fun σ H Q => to σ H fun x H1 => tyV K T x H1 ∧ t σ H1 fun xs H2 => r x xs H2 Q
variable {o e : Expr} {es : List Expr} {to : TE} {t : TA} {name : Str} {apos cpos : Pos} {T id : String} {r : V → List V → Hp → VK → Prop}
theorem pe_bm (pa : PlainAttrs T) (slot : Slot T name id) (hty : typeOf (.builtin id) = pure (.type "method_descriptor")) (hm : MtR X id r) (ho : PE X o to) (ha : PA X (e :: es) t)
    (hbase : attributeBase o name X.env (eval o X.env) = eval o X.env := by rfl)
    (hfew : ((backTo cpos (starEach (e :: es) X.env)).all (fun x => !x.1) && (backToKw cpos (keywordEach [] X.env)).all (fun x => x.1.isSome)
      && decide ((e :: es).length + ([] : List Keyword).length + (if ([] : List Keyword).isEmpty then 0 else 1) < 30)) = true := by rfl)
    (hline : (apos.endLine == cpos.line) = true := by rfl) (hs : starEach (e :: es) X.env = (false, eval e X.env) :: starEach es X.env := by rfl) (hplain : (backTo cpos (starEach es X.env)).any (·.1) = false := by rfl) :
    PE X (.Call (.Attribute o name apos) (e :: es) [] cpos) (tBM X.K T r to t) := by
  intro pins s σ H Q I h
  refine wpAny_Call_method_late hbase hfew hline rfl (thn (ho pins s σ H _ I h) fun v s1 ⟨x, H1, I1, r1, ty, q1⟩ => ?_)
  obtain ⟨h1, h2⟩ := tyV_is I1 r1 ty
  refine ⟨T, id, pa, slot, hty, h1, h2, ?_⟩
  have hA := ha cpos pins s1 σ H1 _ I1 q1
  rw [hs] at hA ⊢
  refine Calls.callWith_builtin (by show (false || (backTo cpos (starEach es X.env)).any (·.1)) = false; rw [hplain] <;> rfl) (Calls.evalArgs_plain ?_)
  exact thn hA fun us s2 ⟨vs, H2, I2, r2, q2⟩ => hm pins s2 σ H2 x vs v us Q I2 r1 r2 q2
end
end L2
namespace L2
open PySem PySem.Spec PyProof.Rows
def MtM (X : Cx) (id : String) (r : V → List V → Hp → VK → Prop) : Prop :=
  ∀ (pins : List (Addr × Obj)) (s : Shared) (σ : St) (H : Hp) (x : V) (xs : List V) (v : Value) (us : List Value) (Q : VK), Inv X pins σ H s → RelV x v → Vals xs us → r x xs H Q →
    wpAny (model X.prog X.w) X.A (call (.builtin id) (v :: us)) (EP X pins σ Q) X.xe s
theorem Vals.one : ∀ {x : V} {us : List Value}, Vals [x] us → ∃ u, us = [u] ∧ RelV x u
  | _, _, .cons r .nil => ⟨_, rfl, r⟩
theorem Vals.two : ∀ {x y : V} {us : List Value}, Vals [x, y] us → ∃ u v, us = [u, v] ∧ RelV x u ∧ RelV y v
  | _, _, _, .cons r (.cons q .nil) => ⟨_, _, rfl, r, q⟩
section
variable {X : Cx} {pins : List (Addr × Obj)} {σ : St} {H : Hp} {s : Shared} {l b : Addr} {xs ys zs : List V}
theorem Inv.lset {its its' : List Value} {n : Nat} {f : Array Value → Array Value} {t' : Nat} (I : Inv X pins σ H s) (hH : H l = some (.lst xs))
    (e : s.heap.get? l = some { cls := .type "list", data := .seq its.toArray n }) (hf : f its.toArray = its'.toArray) (hv : Vals ys its') (hz : ys.length ≤ sizeLine) :
    Inv X pins σ (upd H l (.lst ys)) { s with heap := s.heap.update l (Obj.mapSeq f), toks := t' } := by
  have q := PySem.IsL.update e f
  rw [hf] at q
  refine I.write (x := l) (e := l) (by rw [hH]; exact trivial) (.inl rfl) (fun b' u hb hu => (Heap.get?_update_other s.heap (Obj.mapSeq f) (Ne.symm hb)).trans hu) ⟨_, q⟩ ?_
  exact ⟨hz, its', _, hv, q⟩
theorem Inv.lnew {its : List Value} {t' : Nat} (I : Inv X pins σ H s) (hv : Vals ys its) (hz : ys.length ≤ sizeLine) :
    Inv X pins σ (upd H s.heap.objs.size (.lst ys)) { s with heap := s.heap.push { cls := .type "list", data := .seq its.toArray }, toks := t' } :=
  I.laid (fun _ _ q => Heap.get?_push_of_some _ q) (Nat.le_refl _) ⟨hz, its, 0, hv, Heap.get?_push_size _ rfl⟩
theorem Inv.fresh (I : Inv X pins σ H s) : H s.heap.objs.size = none := I.hok.fresh (Nat.le_refl _)
theorem Inv.lstM (I : Inv X pins σ H s) (hH : H l = some (.lst xs)) : xs.length ≤ sizeLine ∧ ∃ (its : List Value) (n : Nat), Vals xs its ∧ xs.length = its.length ∧ s.heap.get? l = some { cls := .type "list", data := .seq its.toArray n } := by
  obtain ⟨z, its, n, r, e⟩ := I.hok l _ hH
  exact ⟨z, its, n, r, r.length, e⟩
theorem notLongL {n : Nat} (h : n ≤ sizeLine) : Builtin.List.listTooLong n = false := by
  unfold Builtin.List.listTooLong
  exact decide_eq_false (by omega)
end
section
variable {X : Cx}
def rAppend : V → List V → Hp → VK → Prop := fun x vs H Q => ∃ l xs y, x = .ref l ∧ vs = [y] ∧ H l = some (.lst xs) ∧ xs.length < sizeLine ∧ Q .non (upd H l (.lst (xs ++ [y])))
theorem mt_append : MtM X "list.append" rAppend := by
  intro pins s σ H x vs v us Q I rx rv h
  obtain ⟨l, xs, y, rfl, rfl, hH, hz, q⟩ := h
  cases rx
  obtain ⟨u, rfl, ru⟩ := rv.one
  obtain ⟨z, its, n, r, hl, e⟩ := I.lstM hH
  refine call_meets F.slot_list_append ⟨_, e, rfl⟩ F.entry_list_append (F.args_list_append_2 _ _) (PySem.list_append l its.toArray n u (by rw [List.size_toArray]; omega)) ⟨e, ?_⟩
  refine ⟨.non, _, I.lset (its' := its ++ [u]) hH e (by simp) (r.append (.cons ru .nil)) ?_, rfl, q⟩
  rw [List.length_append, List.length_singleton]
  omega
def rExtend : V → List V → Hp → VK → Prop := fun x vs H Q => ∃ l b xs zs, x = .ref l ∧ vs = [.ref b] ∧ H l = some (.lst xs) ∧ H b = some (.lst zs) ∧ xs.length + zs.length ≤ sizeLine ∧ Q .non (upd H l (.lst (xs ++ zs)))
theorem mt_extend : MtM X "list.extend" rExtend := by
  intro pins s σ H x vs v us Q I rx rv h
  obtain ⟨l, b, xs, zs, rfl, rfl, hH, hB, hz, q⟩ := h
  cases rx
  obtain ⟨u, rfl, ru⟩ := rv.one
  cases ru
  obtain ⟨z, its, n, r, hl, e⟩ := I.lstM hH
  obtain ⟨z2, its2, n2, r2, hl2, e2⟩ := I.lstM hB
  have hsz : its.toArray.size + its2.toArray.size ≤ sizeLine := by rw [List.size_toArray, List.size_toArray]; omega
  have hlong : ¬ (!its.toArray.isEmpty && Builtin.List.listTooLong (its.toArray.size + its2.toArray.size)) = true := by
    rw [notLongL hsz, Bool.and_false]
    exact Bool.false_ne_true
  refine call_meets F.slot_list_extend ⟨_, e, rfl⟩ F.entry_list_extend (F.args_list_extend_2 _ _)
    (AutoSeq1.list_extend_list_list_0 l its.toArray n b its2.toArray n2 hlong (by rw [List.size_toArray]; omega) (by omega)) ⟨e, e2, ?_⟩
  refine ⟨.non, _, I.lset (its' := its ++ its2) hH e (by simp) (r.append r2) ?_, rfl, q⟩
  rw [List.length_append]
  omega
def rPop : V → List V → Hp → VK → Prop := fun x vs H Q => ∃ l xs y, x = .ref l ∧ vs = [] ∧ H l = some (.lst xs) ∧ xs[xs.length - 1]? = some y ∧ Q y (upd H l (.lst xs.dropLast))
def rPopAt : V → List V → Hp → VK → Prop := fun x vs H Q => ∃ l xs i k y, x = .ref l ∧ vs = [.int i] ∧ H l = some (.lst xs) ∧ -(2 ^ 63) ≤ i ∧ i < 2 ^ 63 ∧ seqIndex? i xs.length = some k ∧ xs[k]? = some y ∧ Q y (upd H l (.lst (xs.eraseIdx k)))
def rReverse : V → List V → Hp → VK → Prop := fun x vs H Q => ∃ l xs, x = .ref l ∧ vs = [] ∧ H l = some (.lst xs) ∧ Q .non (upd H l (.lst xs.reverse))
def rClear : V → List V → Hp → VK → Prop := fun x vs H Q => ∃ l xs, x = .ref l ∧ vs = [] ∧ H l = some (.lst xs) ∧ Q .non (upd H l (.lst []))
def rCat : R2 := fun x y H Q => ∃ l b xs zs, x = .ref l ∧ y = .ref b ∧ H l = some (.lst xs) ∧ H b = some (.lst zs) ∧ xs.length + zs.length ≤ sizeLine ∧ ∀ p, H p = none → Q (.ref p) (upd H p (.lst (xs ++ zs)))
theorem op_cat : OpR X (binaryOp .Add) rCat := by
  intro pins s σ H x y v u Q I rx ry h
  obtain ⟨l, b, xs, zs, rfl, rfl, hH, hB, hz, q⟩ := h
  cases rx
  cases ry
  obtain ⟨z, its, n, r, hl, e⟩ := I.lstM hH
  obtain ⟨z2, its2, n2, r2, hl2, e2⟩ := I.lstM hB
  refine PySem.P.add_list e e2 ?_ (by rw [List.size_toArray, List.size_toArray]; omega)
  have ea : its.toArray ++ its2.toArray = (its ++ its2).toArray := by simp
  rw [ea]
  exact ⟨.ref _, _, I.lnew (t' := s.toks) (r.append r2) (by rw [List.length_append]; omega), rfl, q _ I.fresh⟩
def rRep : R2 := fun x y H Q => ∃ l k xs, x = .ref l ∧ y = .int k ∧ H l = some (.lst xs) ∧ -(2 ^ 63) ≤ k ∧ k < 2 ^ 63 ∧ xs.length * k.toNat ≤ sizeLine ∧
  ∀ p, H p = none → Q (.ref p) (upd H p (.lst (List.replicate k.toNat xs).flatten))
end
section
variable {prog : Program} {w : World} {A : Around} {E : Value → Shared → Prop} {s : Shared}
set_option maxRecDepth 100000 in
end
section
variable {X : Cx}
end
end L2
namespace Att
open PySem PySem.W PySem.Calls PyProof.Rows
theorem ints_of_wellAll {P : Params} {h : Heap} : ∀ (ns : List Int) (vs : List Value), WellAll P h vs (ns.map WData.int) → IntsAre vs ns := by
  intro ns
  induction ns with
  | nil =>
    intro vs w
    rw [List.map_nil] at w
    cases w
    exact .nil
  | cons n ns ih =>
    intro vs w
    rw [List.map_cons] at w
    cases w with
    | cons a b =>
      cases a
      exact .cons _ _ (ih _ b)
theorem script_of {l : OpenLaw} {n : Nat} (hn : l.most = some n) {P : Params} {h : Heap} {args : List WData} {vals : List Value}
    (hpre : l.row.toRowW.claim.pre args = true) (hwl : WellAll P h vals args) :
    ∃ a vs ns, vals = [Value.ref a] ∧ args = [WData.list (ns.map WData.int)] ∧ h.get? a = some { cls := .type "list", data := .seq vs.toArray } ∧ IntsAre vs ns ∧ ns.length ≤ n := by
  have hsh : WShape.hasAll [] args [.list .int] = true := (pre_splitW hpre).1
  have hc : l.pre.holds [] { args := args } = true := (pre_splitW hpre).2
  obtain ⟨d, r, rfl, h1, h2⟩ := hasAllW_cons hsh
  obtain rfl := hasAllW_nil h2
  obtain ⟨xs, rfl, h3⟩ := hasW_list h1
  obtain ⟨ns, rfl⟩ := items_int h3
  have hlen : ns.length ≤ n := by
    unfold OpenLaw.pre at hc
    have h4 : (WTm.not (.lt (.lit (.int (n : Int))) (.len (.arg 0)))).holds [] { args := [.list (ns.map .int)] } = true := by
      have h4 := (holds_andW hc).1
      rw [hn] at h4
      exact h4
    have h5 := condW_of h4 (w_not (w_lt w_lit (w_len_list (w_arg rfl))))
    rw [List.length_map] at h5
    refine Nat.le_of_not_lt fun q => ?_
    have q' : (n : Int) < ((ns.length : Nat) : Int) := by omega
    first
      | (rw [decide_eq_true q'] at h5; exact absurd h5 (by decide))
      | (simp at h5; omega)
  cases hwl with
  | cons w1 w2 =>
    cases w2
    cases w1 with
    | list ho hall => exact ⟨_, _, ns, rfl, rfl, ho, ints_of_wellAll ns _ hall, hlen⟩
theorem post_true (l : OpenLaw) (args : List WData) : l.row.toRowW.claim.post args (.bool true) args = true :=
  postW_of (r := l.row.toRowW) (X := (true == true))
    (show WShape.has [] (.bool true) .bool = true by first | rfl | decide | simp [WShape.has, WShape.arms, WShape.armsAll])
    (show (WTm.eq .res (.lit (.bool true))).value [] { args := args, res := some (.bool true), after := args } = some (.bool (true == true)) from w_eq_bool (w_res rfl) w_lit) rfl
theorem attach_call {l : OpenLaw} {n : Nat} {q : Program} {loose : List Str} {XP : (Str → Option Value) → Heap → Prop} {YP : World → Heap → Prop} {d : DefRec}
    (hn : l.most = some n) (hdf : d.params.defaults = [])
    (call : ∀ (w : World) (s₀ s₁ : Shared) (mg mb : Str → Option Value) (fa : Addr) (o : Obj) (pm cd doc : Value) (a : Addr) (vs : List Value) (ns : List Int),
      Ground q loose [] XP w s₀ mg mb s₁.heap → YP w s₁.heap →
      s₁.heap.get? fa = some o → o.data = .func (docDef d.name d.params d.body d.scope pm cd doc) → s₁.heap.CodeRec cd d.name → mg d.name = some (.ref fa) →
      s₁.heap.get? a = some { cls := .type "list", data := .seq vs.toArray } → IntsAre vs ns → ns.length ≤ n → s₁.gens = #[] →
      codeAny (model l.prog w) callerA (.call (.ref fa) ⟨[.ref a], []⟩) (fun r s' => r = .ok (.ret (.bool true)) ∧ OldK s₁.heap s'.heap ∧ s'.os = s₁.os ∧ AllBare s'.gens) s₁) :
    WalkO q loose XP YP l.row.toRowW d [] (fun f vs => PySem.call f vs) := by
  intro w s₀ s₁ mg mb G Y fa o pm cd doc dV kV ho hd hcd hD hmg hg args vals as hpre hlay hrd hwl hlo
  obtain rfl : dV = .none := Dflts.none hD hdf
  obtain rfl : kV = .none := Dflts.noKw hD
  obtain ⟨a, vs, ns, rfl, rfl, hobj, hints, hlen⟩ := script_of hn hpre hwl
  refine enter_call (codeAny_mono (call w s₀ s₁ mg mb fa o pm cd doc a vs ns G Y ho (fd_plain hd) hcd hmg hobj hints hlen hg) fun r s' hq => ?_)
  obtain ⟨rfl, h2, h3, h4⟩ := hq
  exact ⟨.inl ⟨.bool true, .bool true, [], rfl, fun _ => rfl, .bool true, post_true l _, fun _ => ⟨List.Pairwise.nil, fun _ hm => (nomatch hm)⟩⟩, h2, h3, h4⟩
section
variable {prog : Program} {w : World} {A : Around} {E : Value → Shared → Prop} {s : Shared} {K : Frag}
def noObjs (h : Heap) : Heap := { h with objs := #[] }
def ledger (h : Heap) (L d : Addr) : List (Addr × Obj) := (List.range h.objs.size).filterMap fun a => if a = L ∨ a = d then none else (h.get? a).map fun o => (a, o)
end
end Att
namespace L2
open PySem PySem.Spec PyProof.Rows
theorem vals_ints : ∀ {vs : List Value} {ns : List Int}, IntsAre vs ns → Vals (ns.map V.int) vs
  | _, _, .nil => .nil
  | _, _, .cons n t h => .cons ⟨t, rfl⟩ (vals_ints h)
def Only (H : Hp) : Prop := ∀ b, H b = none ∨ ∃ o xs, H b = some (.frz o (.lst xs))
theorem law_call {P : Program} {w : World} {K : PySem.W.Frag} {mg mb : Str → Option Value} {CX : CXT} {k : Nat} {fa a : Addr} {fd : FuncData} {x : Str} {sp : Sp} {s₁ : Shared} {vs : List Value} {ns : List Int}
    (KX : K.In s₁.heap) (hns : s₁.heap.Ns mainGlobals mg) (hb : s₁.heap.Ns builtinsNs mb) (hbb : ∀ x : Str, x ≠ "__name__" → mb x = bootBuiltins x) (hlim : s₁.heap.NoLimit) (hg : s₁.gens = #[])
    (ha : s₁.heap.get? a = some { cls := .type "list", data := .seq vs.toArray }) (hi : IntsAre vs ns) (hl : ns.length ≤ sizeLine) (hr : Room k callerA)
    (F : ∀ base : Heap, K.In base → base.Ns mainGlobals mg → FnOk P w K mg base CX k fa fd [x] sp) (hbind : ∀ (s : Shared) (u : Value), BindsTo s fd ⟨[u], []⟩ [(x, u)])
    (hsp : ∀ H : Hp, Only H → SqL K H a (ns.map V.int) → sp [.ref a] H (fun v _ => v = .bl true) fun _ _ _ => False)
    (hCX : ∀ H e s', CX [] H s₁ (fun _ _ _ => False) e s' → False) :
    codeAny (model P w) callerA (.call (.ref fa) ⟨[.ref a], []⟩) (fun r s' => r = .ok (.ret (.bool true)) ∧ OldK s₁.heap s'.heap ∧ s'.os = s₁.os ∧ AllBare s'.gens) s₁ := by
  have rv := vals_ints hi
  have lenV := hi.length
  have core : ∀ H : Hp, Only H → SqL K H a (ns.map V.int) → HOk P w H s₁.heap → (∀ b, H b ≠ none → b = a) → (H a ≠ none → K.lookup a = none) →
      codeAny (model P w) callerA (.call (.ref fa) ⟨[.ref a], []⟩) (fun r s' => r = .ok (.ret (.bool true)) ∧ OldK s₁.heap s'.heap ∧ s'.os = s₁.os ∧ AllBare s'.gens) s₁ := by
    intro H hO hS hok hA hK
    have base_of : ∀ {b : Addr} {o : Obj}, s₁.heap.get? b = some o → H b = none → (hidT s₁.heap H).get? b = some o := fun e n => hidT_get e n
    have noA : ∀ {b : Addr} {o : Obj} {es : Array DictEntry} {ep : Nat}, s₁.heap.get? b = some o → o.data = .dict es ep → H b = none := fun {b o es ep} e d => by
      cases q : H b with
      | none => rfl
      | some u =>
        have e' : b = a := hA b (by rw [q]; simp)
        subst e'
        rw [ha] at e; cases e
        have d' : Data.seq vs.toArray _ = Data.dict es ep := d
        cases d'
    have nsK : ∀ {b : Addr} {m : Str → Option Value}, s₁.heap.Ns b m → (hidT s₁.heap H).Ns b m := fun {b m} ⟨o, es, ep, e, d, r⟩ => ⟨o, es, ep, base_of e (noA e d), d, r⟩
    have hKb : K.In (hidT s₁.heap H) := fun b o e => base_of (KX b o e) (by
      cases q : H b with
      | none => rfl
      | some u =>
        have e' : b = a := hA b (by rw [q]; simp)
        subst e'
        rw [hK (by rw [q]; simp)] at e; cases e)
    have hM : Mod K mg (hidT s₁.heap H) := ⟨hKb, nsK hns, ⟨mb, nsK hb, hbb⟩, let ⟨mc, h1, h2⟩ := hlim; ⟨mc, nsK h1, h2⟩⟩
    have e0 : Env0 P w K mg (hidT s₁.heap H) callerA [] s₁ H := ⟨rfl, hM, fun b o e => of_hidT e, Nat.le_of_eq (hidT_size _ _), trivial, fun b hb => absurd (show b ∈ ([] : List Addr) from hb) (by simp), hok, .of_eq hg⟩
    refine codeAny_mono ((F _ hKb (nsK hns)).run callerA [] s₁ H ⟨[.ref a], []⟩ [.ref a] [.ref a] _ _ hr e0 (hbind s₁ (.ref a)) (.cons rfl .nil) (hsp H hO hS)) fun r s' h => ?_
    cases r with
    | error e => exact (hCX H e s' h).elim
    | ok fl =>
      cases fl with
      | next => exact False.elim h
      | brk => exact False.elim h
      | cont => exact False.elim h
      | ret u =>
        obtain ⟨v, H', os, bare, un, hok', r', q⟩ := h
        have q' : v = .bl true := q
        subst q'
        obtain rfl : u = Value.bool true := r'
        refine ⟨rfl, OldK.of_keep fun b o e => ?_, os, bare⟩
        cases q : H b with
        | none => exact un.keep b o e q (by intro z; exact absurd (show b ∈ ([] : List Addr) from z) (by simp)) (by simp)
        | some u =>
          rcases hO b with z | ⟨ob, xs, z⟩
          · rw [q] at z; cases z
          · have z2 := un.frzs b ob _ z
            obtain ⟨e1, _⟩ := hok b _ z
            obtain ⟨e2, _⟩ := hok' b _ z2
            rw [e] at e1; cases e1
            exact e2
  cases hk : K.lookup a with
  | some o =>
    have e := KX a o hk
    rw [ha] at e
    cases e
    refine core (fun _ => none) (fun _ => .inl rfl) (.inr ⟨_, vs.toArray, _, hk, rfl, rfl, rfl, by rw [List.size_toArray, lenV]; exact hl, by simpa using rv⟩) (fun b u z => by have z' : (none : Option HO) = some u := z; cases z') (fun b z => absurd rfl z) fun z => absurd rfl z
  | none =>
    refine core (fun b => if b = a then some (.frz { cls := .type "list", data := .seq vs.toArray } (.lst (ns.map V.int))) else none) (fun b => ?_) (.inl (.inr ⟨{ cls := .type "list", data := .seq vs.toArray }, if_pos rfl⟩)) (fun b u z => ?_) (fun b z => ?_) fun _ => hk
    · by_cases hb : b = a
      · exact .inr ⟨_, _, if_pos hb⟩
      · exact .inl (if_neg hb)
    · by_cases hb : b = a
      · have z' := (if_pos hb).symm.trans z
        cases z'
        subst hb
        exact ⟨ha, by rw [List.length_map]; exact hl, vs, _, rv, ha⟩
      · have z' := (if_neg hb).symm.trans z
        cases z'
    · by_cases hb : b = a
      · exact hb
      · exact absurd (if_neg hb) z
end L2
namespace L2
open PySem PySem.Spec PyProof.Rows
abbrev KOf {K : PySem.W.Frag} {h : Heap} (_ : K.In h) : PySem.W.Frag := K
theorem walk_of {l : PySem.W.OpenLaw} {n k : Nat} {q : Program} {loose : List Str} {XP : (Str → Option Value) → Heap → Prop} {YP : World → Heap → Prop} {d : DefRec} {K : Params → PySem.W.Frag} {CX : World → CXT} {sp : World → Sp} {x : Str}
    (hn : l.most = some n) (hn2 : n ≤ sizeLine) (hdf : d.params.defaults = []) (hr : Room k callerA)
    (hY : ∀ (w : World) (h : Heap), YP w h → (K w.params).In h)
    (F : ∀ (w : World) (mg : Str → Option Value) (fa : Addr) (h : Heap), (K w.params).In h → h.Ns mainGlobals mg → mg d.name = some (.ref fa) →
      ∃ fd : FuncData, (∀ (s : Shared) (u : Value), BindsTo s fd ⟨[u], []⟩ [(x, u)]) ∧
        ∀ base : Heap, (K w.params).In base → base.Ns mainGlobals mg → FnOk l.prog w (K w.params) mg base (CX w) k fa fd [x] (sp w))
    (hsp : ∀ (w : World) (H : Hp) (a : Addr) (ns : List Int), ns.length ≤ n → Only H → SqL (K w.params) H a (ns.map V.int) → sp w [.ref a] H (fun v _ => v = .bl true) fun _ _ _ => False)
    (hCX : ∀ (w : World) (H : Hp) (s : Shared) (e : Value) (s' : Shared), CX w [] H s (fun _ _ _ => False) e s' → False) :
    PySem.W.WalkO q loose XP YP l.row.toRowW d [] (fun f vs => PySem.call f vs) := by
  refine Att.attach_call hn hdf fun w s₀ s₁ mg mb fa o pm cd doc a vs ns G Y ho hd hcd hmg hobj hints hlen hg => ?_
  have KX := hY w _ Y
  obtain ⟨fd, hb, hF⟩ := F w mg fa _ KX G.T.g hmg
  exact law_call KX G.T.g G.T.b G.T.builtins G.T.nolimit hg hobj hints (Nat.le_trans hlen hn2) hr hF hb (fun H hO hS => hsp w H a ns hlen hO hS) fun H e s' => hCX w H s₁ e s'
end L2
namespace L2
open PySem PySem.Spec PyProof.Rows
def inClass (s : Stmt) (j : Nat) : Stmt := match s with
  | .ClassDef _ _ _ body _ _ _ _ _ _ _ => body.getD j (.Pass ⟨0, 0, 0, 0⟩)
  | _ => .Pass ⟨0, 0, 0, 0⟩
def defArgs (s : Stmt) : Arguments := match s with
  | .FunctionDef _ a _ _ _ _ _ _ _ _ => a
  | _ => { posonlyargs := [], args := [], vararg := none, kwonlyargs := [], kw_defaults := [], kwarg := none, defaults := [] }
def defBody (s : Stmt) : List Stmt := match s with
  | .FunctionDef _ _ b _ _ _ _ _ _ _ => b
  | _ => []
def defScope (s : Stmt) : Scope := match s with
  | .FunctionDef _ _ _ _ _ _ sc _ _ _ => sc
  | _ => { kind := .function, names := [], isGenerator := false, isCoroutine := false }
abbrev CX0 : CXT := fun _ _ _ _ _ _ => False
abbrev E0 : XK := fun _ _ _ => False
theorem pass0 {X : Cx} : Passes CX0 X E0 := fun _ _ _ _ _ _ _ h => h.elim
structure Fun (K : PySem.W.Frag) (x qual : Str) (st : Stmt) (f : Addr) (fd : FuncData) : Prop where
  ex : ∃ (oc : Value) (od : Option Addr) (kV doc pm : Value) (an : Option Addr) (cdv ct : Value) (osl : Array (Option Value)),
    fd = PySem.W.fnOf x qual (defArgs st) (defBody st) (defScope st) .none kV doc pm an cdv ct ∧ K.lookup f = some ⟨oc, od, .func fd, osl⟩ ∧ PySem.W.codeIn K cdv qual = true
  kp : PySem.W.keepIn K (.ref f) = true
section
variable {P : Program} {w : World} {K : PySem.W.Frag} {mg : Str → Option Value} {base : Heap}
theorem Fun.ok {x qual : Str} {st : Stmt} {f : Addr} {fd : FuncData} {N ps : List Str} {k : Nat} {sp : Sp} (F : Fun K x qual st f fd) (S : FnScope N ps (defScope st)) (len : ∀ vs H Q E, sp vs H Q E → vs.length = ps.length)
    (hbody : ∀ (cdv : Value) (A : Around) (outer : List Env) (s : Shared) (H : Hp) (vs : List V) (Q : VK) (E : XK), Room k (A.deeper (envOfC qual (defScope st) s.heap.objs.size f cdv)) → sp vs H Q E →
      ∃ t, PSs (cxOf CX0 P w K mg base N qual (defScope st) f cdv A outer s H E).nox (defBody st) t ∧ t { nx := fun _ H' => Q .non H', rt := Q } (start N vs) H) : FnOk P w K mg base CX0 (k + 1) f fd ps sp := by
  obtain ⟨oc, od, kV, doc, pm, an, cdv, ct, osl, rfl, lk, hcd⟩ := F.ex
  refine fn_of lk hcd S len fun A outer s H vs Q E hr hsp => ?_
  obtain ⟨t, h, q⟩ := hbody cdv A outer s H vs Q E hr hsp
  exact ⟨t, h.nox, q⟩
theorem Fun.binds {x qual : Str} {st : Stmt} {f : Addr} {fd : FuncData} {ps : List Str} (F : Fun K x qual st f fd)
    (h : ∀ (kV doc pm : Value) (an : Option Addr) (cdv ct : Value) (us : List Value), us.length = ps.length → bindArgs (PySem.W.fnOf x qual (defArgs st) (defBody st) (defScope st) .none kV doc pm an cdv ct) ⟨us, []⟩ = pure (ps.zip us)) : Binds K fd ps [] := by
  obtain ⟨oc, od, kV, doc, pm, an, cdv, ct, osl, rfl, lk, hcd⟩ := F.ex
  exact .all (h kV doc pm an cdv ct)
theorem fun_mk {x qual : Str} {st : Stmt} {f : Addr} {oc : Value} {od an : Option Addr} {osl : Array (Option Value)} {kV doc pm cdv ct : Value} (l : K.lookup f = some ⟨oc, od, .func (PySem.W.fnOf x qual (defArgs st) (defBody st) (defScope st) .none kV doc pm an cdv ct), osl⟩)
    (c : PySem.W.codeIn K cdv qual = true) (k : PySem.W.keepIn K (.ref f) = true) : Fun K x qual st f (PySem.W.fnOf x qual (defArgs st) (defBody st) (defScope st) .none kV doc pm an cdv ct) := ⟨⟨oc, od, kV, doc, pm, an, cdv, ct, osl, rfl, l, c⟩, k⟩
end
theorem small1000 {n : Nat} (h : n ≤ 1000) : n < sizeLine := Nat.lt_of_le_of_lt h (by decide)
section
variable {X : Cx}
theorem pv (i : Nat) {x : Str} {pos : Pos} (hN : X.N[i]? = some x := by rfl) (hv : Vis X.env.scope x := by first | exact Or.inl rfl | exact Or.inr (Or.inl rfl) | exact Or.inr (Or.inr rfl)) (hd : (x == ("__debug__" : Str)) = false := by decide)
    (hcd : (x == ("__classdict__" : Str)) = false := by decide) : PE X (.Name x pos) (tVar i) := pe_var hN hv hd hcd
end
theorem iteF {A B : Prop} (h : B) : if false = true then A else B := by
  rw [if_neg Bool.false_ne_true]
  exact h
theorem iteT {A B : Prop} (h : A) : if true = true then A else B := by
  rw [if_pos rfl]
  exact h
theorem ite2 {c A B : Prop} [Decidable c] (h1 : c → A) (h2 : ¬ c → B) : if c then A else B := by
  by_cases h : c
  · rw [if_pos h]
    exact h1 h
  · rw [if_neg h]
    exact h2 h
theorem iteNS {c A B : Prop} [Decidable c] (hc : c) (h : B) : if (!decide c) = true then A else B := by
  rw [decide_eq_true hc]
  exact iteF h
def Same (H H' : Hp) : Prop := ∀ b o, H b = some o → H' b = some o
theorem Same.refl (H : Hp) : Same H H := fun _ _ h => h
theorem Same.trans {H H1 H2 : Hp} (a : Same H H1) (b : Same H1 H2) : Same H H2 := fun c o h => b c o (a c o h)
theorem Same.free {H H' : Hp} (e : Same H H') {l : Addr} (h : H' l = Option.none) : H l = Option.none := by
  cases q : H l with
  | none => rfl
  | some o =>
    rw [e l o q] at h
    cases h
theorem Same.seq {K : PySem.W.Frag} {H H' : Hp} {a : Addr} {xs : List V} (e : Same H H') (h : SqL K H a xs) : SqL K H' a xs := by
  rcases h with (h | ⟨o, h⟩) | h
  · exact .inl (.inl (e _ _ h))
  · exact .inl (.inr ⟨o, e _ _ h⟩)
  · exact .inr h
end L2
set_option Elab.async false
set_option linter.all false
set_option maxRecDepth 100000
namespace L2
open PySem PySem.Spec PyProof.Rows
def clOf (cells : List (Str × Addr)) : List (Str × NameKind) → List (Str × Addr) → List (Str × Addr)
  | [], acc => acc
  | (n, k) :: r, acc => if k == .free then clOf cells r ((n, (cells.lookup n).getD 0) :: acc) else clOf cells r acc
theorem closureFor_of {sc : Scope} {env : Env} (h : ∀ y ∈ sc.names, y.2 = .free → ∃ c, env.cells.lookup y.1 = some c) :
    closureFor sc env = pure (clOf env.cells sc.names []) := by
  have go : ∀ (names : List (Str × NameKind)) (acc : List (Str × Addr)), (∀ y ∈ names, y.2 = .free → ∃ c, env.cells.lookup y.1 = some c) →
      (forIn names acc fun (x : Str × NameKind) (r : List (Str × Addr)) => if (x.2 == NameKind.free) = true then (do let c ← cellOf env x.1; pure (ForInStep.yield ((x.1, c) :: r))) else pure (ForInStep.yield r) : Sem (List (Str × Addr))) = pure (clOf env.cells names acc) := by
    intro names
    induction names with
    | nil => intro acc _; rfl
    | cons y r ih =>
      intro acc hy
      obtain ⟨n, k⟩ := y
      rw [List.forIn_cons]
      cases hk : (k == NameKind.free) with
      | false =>
        have e1 : clOf env.cells ((n, k) :: r) acc = clOf env.cells r acc := by
          show (if (k == NameKind.free) = true then _ else _) = _
          rw [hk]; rfl
        rw [e1, ← ih acc fun z hz => hy z (List.mem_cons_of_mem _ hz)]
        simp only [hk, Bool.false_eq_true, if_false, pure_bind]
      | true =>
        have hk' : k = .free := by simpa using hk
        obtain ⟨c, hc⟩ := hy (n, k) List.mem_cons_self hk'
        have e1 : clOf env.cells ((n, k) :: r) acc = clOf env.cells r ((n, c) :: acc) := by
          show (if (k == NameKind.free) = true then _ else _) = _
          rw [hk, hc]; rfl
        have e2 : cellOf env n = pure c := by
          unfold cellOf
          rw [hc]
        rw [e1, ← ih ((n, c) :: acc) fun z hz => hy z (List.mem_cons_of_mem _ hz)]
        simp only [hk, if_true, e2, pure_bind]
  have q := go sc.names [] h
  unfold closureFor
  first
    | (rw [show (forIn sc.names ([] : List (Str × Addr)) _ : Sem (List (Str × Addr))) = pure (clOf env.cells sc.names []) from q]; rfl)
    | (simp only [bind_pure]; exact q)
    | exact q
theorem clOf_lookup (cells : List (Str × Addr)) : ∀ (names : List (Str × NameKind)) (acc : List (Str × Addr)) (x : Str) (c : Addr), (clOf cells names acc).lookup x = some c →
    (∃ y ∈ names, y.1 = x ∧ y.2 = .free ∧ c = (cells.lookup x).getD 0) ∨ acc.lookup x = some c
  | [], acc, x, c, h => .inr h
  | (n, k) :: r, acc, x, c, h => by
    by_cases hk : (k == NameKind.free) = true
    · have e : clOf cells ((n, k) :: r) acc = clOf cells r ((n, (cells.lookup n).getD 0) :: acc) := by
        show (if (k == NameKind.free) = true then _ else _) = _
        rw [if_pos hk]
      rw [e] at h
      rcases clOf_lookup cells r _ x c h with ⟨y, hy, q⟩ | q
      · exact .inl ⟨y, List.mem_cons_of_mem _ hy, q⟩
      · rw [List.lookup_cons] at q
        by_cases hx : (x == n) = true
        · rw [hx] at q
          have hx' : x = n := by simpa using hx
          subst hx'
          exact .inl ⟨(x, k), List.mem_cons_self, rfl, by simpa using hk, (Option.some.inj q).symm⟩
        · have hx' : (x == n) = false := by simpa using hx
          rw [hx'] at q
          exact .inr q
    · have e : clOf cells ((n, k) :: r) acc = clOf cells r acc := by
        show (if (k == NameKind.free) = true then _ else _) = _
        rw [if_neg hk]
      rw [e] at h
      rcases clOf_lookup cells r _ x c h with ⟨y, hy, q⟩ | q
      · exact .inl ⟨y, List.mem_cons_of_mem _ hy, q⟩
      · exact .inr q
theorem clOf_acc (cells : List (Str × Addr)) : ∀ (names : List (Str × NameKind)) (acc : List (Str × Addr)) (x : Str), ((∃ y ∈ names, y.1 = x ∧ y.2 = .free) ∨ ∃ c, acc.lookup x = some c) →
    ∃ c, (clOf cells names acc).lookup x = some c
  | [], acc, x, h => by
    rcases h with ⟨y, hy, _⟩ | h
    · cases hy
    · exact h
  | (n, k) :: r, acc, x, h => by
    by_cases hk : (k == NameKind.free) = true
    · have e : clOf cells ((n, k) :: r) acc = clOf cells r ((n, (cells.lookup n).getD 0) :: acc) := by
        show (if (k == NameKind.free) = true then _ else _) = _
        rw [if_pos hk]
      rw [e]
      refine clOf_acc cells r _ x ?_
      by_cases hx : (x == n) = true
      · exact .inr ⟨_, by rw [List.lookup_cons, hx]⟩
      · have hx' : (x == n) = false := by simpa using hx
        rcases h with ⟨y, hy, q⟩ | ⟨c, q⟩
        · rcases List.mem_cons.mp hy with rfl | hy
          · exact absurd (by simpa using q.1.symm) hx
          · exact .inl ⟨y, hy, q⟩
        · exact .inr ⟨c, by rw [List.lookup_cons, hx']; exact q⟩
    · have e : clOf cells ((n, k) :: r) acc = clOf cells r acc := by
        show (if (k == NameKind.free) = true then _ else _) = _
        rw [if_neg hk]
      rw [e]
      refine clOf_acc cells r _ x ?_
      rcases h with ⟨y, hy, q⟩ | h
      · rcases List.mem_cons.mp hy with rfl | hy
        · exact absurd (by simpa using q.2) hk
        · exact .inl ⟨y, hy, q⟩
      · exact .inr h
structure CompSc (N N' : List Str) (o c : Scope) : Prop where
  kind : c.kind = .function
  okind : o.kind = .function
  nocell : ∀ y ∈ c.names, y.2 ≠ .cell
  loc : ∀ y ∈ c.names, y.2 = .local → c.names.lookup y.1 = some .local
  free : ∀ y ∈ c.names, y.2 = .free → c.names.lookup y.1 = some .free ∧ (o.names.lookup y.1 = some .cell ∨ o.names.lookup y.1 = some .free)
  len : N.length ≤ N'.length
  same : ∀ i ∈ List.range N.length, ∀ x ∈ N'[i]?, c.names.lookup x = some .local ∨ c.names.lookup x = some .free → c.names.lookup x = some .free ∧ N[i]? = some x
  nd : N'.Nodup
def compCx (X : Cx) (c : Scope) (N' : List Str) (C : Addr) (s : Shared) (H : Hp) (fp : List Addr) : Cx :=
  { X with N := N', s₀ := s, H₀ := H, env := compEnvC c (clOf X.env.cells c.names []) C X.env, outer := X.stack, stack := X.stack, ex := fp, fn := fun _ => false, pn := [], xe := fun _ _ => False }
theorem relabel_lookup {env : Env} (hf : env.scope.kind = .function) : ∀ (names : List (Str × NameKind)) (x : Str),
    (names.map fun (p : Str × NameKind) => if (p.2 == NameKind.free && env.scope.kind == .function && env.kindOf p.1 == some .cell) = true then (p.1, NameKind.cell) else (p.1, p.2)).lookup x =
      match names.lookup x with
      | some .free => if env.kindOf x = some .cell then some .cell else some .free
      | k => k
  | [], x => rfl
  | (n, k) :: r, x => by
    have ih := relabel_lookup hf r x
    rw [List.map_cons]
    by_cases hx : (x == n) = true
    · have hx' : x = n := by simpa using hx
      subst hx'
      have e2 : List.lookup x ((x, k) :: r) = some k := by rw [List.lookup_cons]; simp
      rw [e2]
      by_cases hk : k = .free
      · subst hk
        by_cases hc : env.kindOf x = some .cell
        · simp [List.lookup_cons, hf, hc]
        · simp [List.lookup_cons, hf, hc]
      · have hk' : (k == NameKind.free) = false := by simpa using hk
        rw [hk']
        simp only [Bool.false_and, Bool.false_eq_true, if_false, List.lookup_cons, beq_self_eq_true]
        all_goals (cases k <;> first | rfl | exact absurd rfl hk)
    · have hx' : (x == n) = false := by simpa using hx
      have e2 : List.lookup x ((n, k) :: r) = List.lookup x r := by rw [List.lookup_cons, hx']
      rw [e2, ← ih]
      by_cases hc : (k == NameKind.free && env.scope.kind == .function && env.kindOf n == some .cell) = true
      · simp only [hc, if_true, List.lookup_cons, hx']
      · simp only [hc, if_false, List.lookup_cons, hx', Bool.false_eq_true]
section
variable {X : Cx} {N N' : List Str} {o c : Scope}
theorem comp_kind (S : CompSc N N' o c) (ho : X.env.scope = o) (cl : List (Str × Addr)) (C : Addr) (x : Str) : (compEnvC c cl C X.env).kindOf x =
    match c.names.lookup x with
    | some .free => if X.env.kindOf x = some .cell then some .cell else some .free
    | k => k := relabel_lookup (env := X.env) (by rw [ho]; exact S.okind) c.names x
theorem lookup_mem {names : List (Str × NameKind)} {x : Str} {k : NameKind} (h : names.lookup x = some k) : (x, k) ∈ names := PySem.mem_of_lookup h
theorem comp_cell (S : CompSc N N' o c) (ho : X.env.scope = o) (ok : X.Ok) {x : Str} {a : Addr} (h : (clOf X.env.cells c.names []).lookup x = some a) :
    X.env.cells.lookup x = some a ∧ c.names.lookup x = some .free := by
  rcases clOf_lookup _ _ _ _ _ h with ⟨y, hy, rfl, hf, e⟩ | q
  · have hk := S.free y hy hf
    have hv : X.env.kindOf y.1 = some .cell ∨ X.env.kindOf y.1 = some .free := by
      show X.env.scope.names.lookup y.1 = _ ∨ X.env.scope.names.lookup y.1 = _
      rw [ho]; exact hk.2
    obtain ⟨b, hb⟩ := ok.has y.1 hv
    rw [hb] at e
    exact ⟨by rw [hb, e]; rfl, hk.1⟩
  · cases q
theorem comp_has (S : CompSc N N' o c) (ho : X.env.scope = o) (ok : X.Ok) {x : Str} (h : c.names.lookup x = some .free) : ∃ a, (clOf X.env.cells c.names []).lookup x = some a ∧ X.env.cells.lookup x = some a := by
  obtain ⟨a, ha⟩ := clOf_acc X.env.cells c.names [] x (.inl ⟨(x, .free), lookup_mem h, rfl, rfl⟩)
  exact ⟨a, ha, (comp_cell S ho ok ha).1⟩
theorem comp_ok (S : CompSc N N' o c) (ho : X.env.scope = o) {pins : List (Addr × Obj)} {σ : St} {H : Hp} {s : Shared} {fp : List Addr} (I : Inv X pins σ H s)
    (hf : ∀ b ∈ fp, FpOk X pins H b) (ht : ∀ b ∈ fp, b < s.heap.objs.size) : (compCx X c N' s.heap.objs.size s H fp).Ok where
  mod := I.ok.mod
  kind := S.kind
  glob := I.ok.glob
  blt := I.ok.blt
  above := Nat.le_refl _
  inj := fun x y a h1 h2 => I.ok.inj x y a (comp_cell S ho I.ok h1).1 (comp_cell S ho I.ok h2).1
  has := fun x hx => by
    have e := comp_kind (X := X) S ho (clOf X.env.cells c.names []) s.heap.objs.size x
    have hx' : (compEnvC c (clOf X.env.cells c.names []) s.heap.objs.size X.env).kindOf x = some .cell ∨ (compEnvC c (clOf X.env.cells c.names []) s.heap.objs.size X.env).kindOf x = some .free := hx
    rw [e] at hx'
    cases q : c.names.lookup x with
    | none => rw [q] at hx'; rcases hx' with z | z <;> cases z
    | some k =>
      by_cases hk : k = .free
      · subst hk
        obtain ⟨a, ha, _⟩ := comp_has S ho I.ok q
        exact ⟨a, ha⟩
      · rw [q] at hx'
        have hc : k = .cell := by
          cases k <;> first | rfl | exact absurd rfl hk | (rcases hx' with z | z <;> cases z)
        subst hc
        exact absurd rfl (S.nocell _ (lookup_mem q))
  cab := fun x a h => by cases (show false = true from h)
  hd := I.ok.hd
  frames := I.ok.frames
  stk := .inl rfl
  exf := fun b hb => ⟨Nat.ne_of_lt (ht b hb), fun x a h => (hf b hb).2.2.2.2.1 x a (comp_cell S ho I.ok h).1⟩
  bs := fun b ob e => I.bs b ob e
  bsz := Nat.le_trans I.ok.bsz I.sz
  noex := fun b ob e hb => by
    rcases (hf b hb).2.2.2.1 with z | z
    · exact I.ok.noex b ob e z
    · exact absurd (Nat.lt_of_lt_of_le (Heap.lt_size e) (Nat.le_trans I.ok.bsz z)) (Nat.lt_irrefl _)
  exfs := fun b hb hb' => by
    rcases List.mem_cons.mp (I.stkSub b hb') with z | z
    · exact (hf b hb).2.1 z
    · exact (hf b hb).2.2.1 z
  funs := I.stack
  frf := I.stkFree
theorem comp_inv (S : CompSc N N' o c) (hN : X.N = N) (ho : X.env.scope = o) {pins : List (Addr × Obj)} {σ : St} {H : Hp} {s : Shared} {fp : List Addr} {h₁ : Heap} {tk : Nat} {m₀ : Str → Option Value} (I : Inv X pins σ H s)
    (hf : ∀ b ∈ fp, FpOk X pins H b) (ht : ∀ b ∈ fp, b < s.heap.objs.size) (hns : h₁.Ns s.heap.objs.size m₀) (hk : ∀ b ob, s.heap.get? b = some ob → h₁.get? b = some ob) :
    Inv (compCx X c N' s.heap.objs.size s H fp) [] (σ ++ List.replicate (N'.length - N.length) none) H { s with heap := h₁, toks := tk } where
  ok := comp_ok S ho I hf ht
  os := rfl
  bare := I.bare
  base := Un.kept hk
  loc := by
    refine ⟨m₀, hns, fun i x v e1 e2 e3 => ?_⟩
    obtain ⟨m, hn, hl⟩ := I.loc
    have hlen : σ.length = N.length := by rw [I.len, hN]
    have hi : i < σ.length := by
      by_cases hi : i < σ.length
      · exact hi
      · rw [List.getElem?_append_right (by omega), List.getElem?_replicate] at e2
        split at e2 <;> cases e2
    have e2' : σ[i]? = some (some v) := by rw [List.getElem?_append_left hi] at e2; exact e2
    have kd := comp_kind (X := X) S ho (clOf X.env.cells c.names []) s.heap.objs.size x
    have vis : c.names.lookup x = some .local ∨ c.names.lookup x = some .free := by
      have e3' : (compEnvC c (clOf X.env.cells c.names []) s.heap.objs.size X.env).kindOf x = some .local ∨ (compEnvC c (clOf X.env.cells c.names []) s.heap.objs.size X.env).kindOf x = some .cell ∨ (compEnvC c (clOf X.env.cells c.names []) s.heap.objs.size X.env).kindOf x = some .free := e3
      rw [kd] at e3'
      cases q : c.names.lookup x with
      | none => rw [q] at e3'; rcases e3' with z | z | z <;> cases z
      | some k =>
        cases k with
        | «local» => exact .inl rfl
        | free => exact .inr rfl
        | cell => exact absurd rfl (S.nocell _ (lookup_mem q))
        | _ => rw [q] at e3'; rcases e3' with z | z | z <;> cases z
    obtain ⟨hfr, hNi⟩ := S.same i (List.mem_range.mpr (by omega)) x (by rw [show N'[i]? = some x from e1]; rfl) vis
    have hok : X.env.kindOf x = some .cell ∨ X.env.kindOf x = some .free := by
      show X.env.scope.names.lookup x = _ ∨ X.env.scope.names.lookup x = _
      rw [ho]; exact (S.free _ (lookup_mem hfr) rfl).2
    obtain ⟨u, r, l⟩ := hl i x v (by rw [hN]; exact hNi) e2' (.inr hok)
    refine ⟨u, r, .inr ⟨?_, ?_⟩⟩
    · show (compEnvC c (clOf X.env.cells c.names []) s.heap.objs.size X.env).kindOf x = some .cell ∨ (compEnvC c (clOf X.env.cells c.names []) s.heap.objs.size X.env).kindOf x = some .free
      rw [kd, hfr]
      show (if X.env.kindOf x = some .cell then some NameKind.cell else some NameKind.free) = some .cell ∨ (if X.env.kindOf x = some .cell then some NameKind.cell else some NameKind.free) = some .free
      by_cases q : X.env.kindOf x = some .cell
      · rw [if_pos q]; exact .inl rfl
      · rw [if_neg q]; exact .inr rfl
    · obtain ⟨a, ha, ha'⟩ := comp_has S ho I.ok hfr
      refine ⟨a, ha, ?_⟩
      rcases l with ⟨z, _⟩ | ⟨_, a', e, ob, hob, hd⟩
      · rcases hok with q | q <;> rw [q] at z <;> cases z
      · rw [ha'] at e; cases e
        exact ⟨ob, hk _ _ hob, hd⟩
  cell := fun x a h => by
    obtain ⟨v, ob, e, d⟩ := I.cell x a (comp_cell S ho I.ok h).1
    exact ⟨v, ob, hk _ _ e, d⟩
  free := I.hok.fresh (Nat.le_refl _)
  freeC := fun x a h => I.freeC x a (comp_cell S ho I.ok h).1
  pin := fun p hp => absurd (show p ∈ ([] : List (Addr × Obj)) from hp) (by simp)
  hok := I.hok.kept hk
  len := by
    have hlen : σ.length = N.length := by rw [I.len, hN]
    have := S.len
    show (σ ++ List.replicate (N'.length - N.length) none).length = N'.length
    rw [List.length_append, List.length_replicate]
    omega
end
end L2
set_option Elab.async false
set_option linter.all false
set_option maxRecDepth 100000
namespace L2
open PySem PySem.Spec PyProof.Rows
abbrev testsOf (ifs : List Expr) (env : Env) : Sem Bool :=
  forIn ifs true fun k r => if r = true then do let ok ← isTrue k env (eval k env); pure (ForInStep.yield ok) else pure (ForInStep.yield r)
def PTs (X : Cx) (ifs : List Expr) (t : TT) : Prop :=
  ∀ (pins : List (Addr × Obj)) (s : Shared) (σ : St) (H : Hp) (Q : Bool → Hp → Prop), Inv X pins σ H s → t σ H Q → wpAny (model X.prog X.w) X.A (testsOf ifs X.env) (TP X pins σ Q) X.xe s
def tYes : TT := fun _ H Q => Q true H
theorem pts_nil {X : Cx} : PTs X [] tYes := fun _ _ _ H _ I h => wpAny_tests_nil ⟨H, I, h⟩
theorem pts_one {X : Cx} {e : Expr} {t : TT} (h : PT X e t) : PTs X [e] t := fun pins s σ H Q I q => wpAny_tests_one (h pins s σ H Q I q)
section
variable {prog : Program} {w : World} {A : Around} {R : Result → Shared → Prop} {s : Shared}
theorem compLoop_any {elt target iter : Expr} {ifs : List Expr} {scope : Scope} {pos : Pos} {it acc : Value} {env : Env} {E : Value → Shared → Prop} (I : Nat → Shared → Prop)
    (hE : ∀ e s', E e s' → False)
    (turn : ∀ n s, I n s → wpAny (model prog w) A (pyNext it) (fun r s₁ => match r with
      | none => R (.ok .next) s₁
      | some v => wpAny (model prog w) A (letOwnedTupleGo target it v) (fun _ s₀ => wpAny (model prog w) A (assign target env v) (fun _ s₂ =>
          wpAny (model prog w) A (testsOf ifs env) (fun ok s₃ =>
            if ok = true then wpAny (model prog w) A (eval elt env) (fun x s₄ =>
              wpAny (model prog w) A (call (.builtin "list.append") [acc, x]) (fun _ s₅ => ∃ m, m < n ∧ I m s₅) E s₄) E s₃
            else ∃ m, m < n ∧ I m s₃) E s₂) E s₀) E s₁) E s)
    (n : Nat) (h : I n s) : codeAny (model prog w) A (.compLoop (.ListComp elt [⟨target, iter, ifs, 0⟩] scope pos) 0 it acc env) R s := by
  have go : ∀ {α : Type} {t : Sem α} {Q : α → Shared → Prop} {s : Shared}, wpAny (model prog w) A t Q E s → wpAny (model prog w) A t Q (notedBy (model prog w) A env fun e s' => R (.error e) s') s :=
    fun {α t Q s} q => wpAny_mono q (fun _ _ z => z) fun e s' z => (hE e s' z).elim
  refine codeAny_loop rfl I (fun n s hI => ?_) n h
  show wpAny _ A ((compTurn (.ListComp elt [⟨target, iter, ifs, 0⟩] scope pos) 0 it acc env).onRaise (fun x => do noteFrame x env; theTreesLotGoes x)) _ _ s
  refine wpAny_noted ?_
  rw [compTurn_list]
  refine wpAny_bind (wpAny_standAt (wpAny_bind (thn (go (turn n s hI)) fun r s₁ h₁ => ?_)))
  cases r with
  | none => exact wpAny_pure h₁
  | some v =>
    refine wpAny_bind (thn (go h₁) fun _ s₀ h₀ => wpAny_bind (thn (go h₀) fun _ s₂ h₂ => wpAny_bind (thn (go h₂) fun ok s₃ h₃ => ?_)))
    cases ok with
    | false => exact wpAny_pure ⟨rfl, h₃⟩
    | true =>
      exact wpAny_bind (wpAny_bind (thn (go h₃) fun x s₄ h₄ => wpAny_bind (thn (go h₄) fun _ s₅ h₅ => wpAny_pure (wpAny_pure ⟨rfl, h₅⟩))))
end
def CompGo (J : It) (D : Addr) (k : Nat) (σ : St) (H1 : Hp) (g : TG) (tc : TT) (te : TE) (Q : VK) : Prop :=
  ∃ W : Nat → Nat → List V → St → Hp → Prop, (∃ m, W 0 m [] (σ ++ List.replicate k none) (upd H1 D (.lst []))) ∧
    ∀ i m ys σ2 H2, W i m ys σ2 H2 → (J.stop i H2 ∧ Q (.ref D) H2) ∨
      (J.go i H2 ∧ ∃ N : List V → St → Hp → Prop, (∀ ys' σ' H', N ys' σ' H' → ∃ m', m' < m ∧ W (i + 1) m' ys' σ' H') ∧ ∀ x H3, J.yld i H2 x H3 → g x σ2 H3 fun σ4 H4 => tc σ4 H4 fun b H5 =>
        if b = true then te σ4 H5 fun y H6 => H6 D = some (.lst ys) ∧ ys.length < sizeLine ∧ N (ys ++ [y]) σ4 (upd H6 D (.lst (ys ++ [y]))) else N ys σ4 H5)
def tComp (n : Nat) (wi : TI) (g : TG) (tc : TT) (te : TE) : TE := fun σ H Q => wi σ H fun J H1 => ∀ D, H1 D = none → CompGo J D n σ H1 g tc te Q
section
variable {X : Cx} {N N' : List Str} {o c : Scope}
theorem comp_run {elt tg iter : Expr} {ifs : List Expr} {pos pos' : Pos} {wi : TI} {g : TG} {tc : TT} {te : TE} {use : Option (Value → Sem Unit)} {QQ : Value → Shared → Prop} (S : CompSc N N' o c) (hN : X.N = N) (ho : X.env.scope = o) (hc : X.calm = true)
    (hi : PI X tg iter wi) (hg : ∀ C s H fp, PG (compCx X c N' C s H fp) tg g) (ht : ∀ C s H fp, PTs (compCx X c N' C s H fp) ifs tc) (he : ∀ C s H fp, PE (compCx X c N' C s H fp) elt te)
    (hs : ∀ x, foldedSetIterable iter X.env x = pure x) {pins : List (Addr × Obj)} {s : Shared} {σ : St} {H : Hp} {Q : VK} (I : Inv X pins σ H s) (h : tComp (N'.length - N.length) wi g tc te σ H Q)
    (post : ∀ (D C : Addr) (s5 : Shared) (H5 : Hp) (m : Str → Option Value), Inv X pins σ H5 s5 → H5 C = none → s5.heap.Ns C m → C ≠ X.env.locals → X.s₀.heap.objs.size ≤ C → (∀ x a, X.env.cells.lookup x = some a → a ≠ C) → (∀ p ∈ X.pn ++ pins, p.1 ≠ C) →
      Q (.ref D) H5 → compPost (model X.prog X.w) X.A X.xe use QQ (.ref D) C (.ok .next) s5) :
    wpAny (model X.prog X.w) X.A (comprehension (.ListComp elt [⟨tg, iter, ifs, 0⟩] c pos) c X.env pos' (newList []) false (eval iter X.env) use) QQ X.xe s := by
  have hclos : closureFor c X.env = pure (clOf X.env.cells c.names []) := closureFor_of fun y hy hf => by
    refine I.ok.has y.1 ?_
    show X.env.scope.names.lookup y.1 = _ ∨ X.env.scope.names.lookup y.1 = _
    rw [ho]; exact (S.free y hy hf).2
  refine wpAny_comprehension_free (use := use) rfl hs hclos S.kind S.loc (thn (hi pins s σ H _ I h) fun v s1 h1 => thn h1 fun itv s2 h2 => ?_)
  obtain ⟨it, fp, tn, J, H2, e, I2, T, st2, f2, hR⟩ := h2
  subst e
  have hD : H2 s2.heap.objs.size = none := I2.fresh
  have I3 : Inv X pins σ (upd H2 s2.heap.objs.size (.lst [])) { s2 with heap := s2.heap.push { cls := .type "list", data := .seq ([] : List Value).toArray } } :=
    I2.lnew (ys := []) (its := []) (t' := s2.toks) .nil (Nat.zero_le _)
  have fpl : ∀ b ∈ fp, b < s2.heap.objs.size := fun b hb => by
    obtain ⟨ob, e, _⟩ := T.obj 0 _ st2 b hb
    exact Heap.lt_size e
  refine wpAny_newObj_type (wpAny_newFunctionEnv S.nocell (by intro y hy; simp at hy) (fun h₁ hns₁ hsb₁ => ?_) S.kind)
  have e3 : ∃ s3 : Shared, s3 = { s2 with heap := s2.heap.push { cls := .type "list", data := .seq ([] : List Value).toArray } } := ⟨_, rfl⟩
  obtain ⟨s3, hs3⟩ := e3
  have e3 : s3.heap = s2.heap.push { cls := .type "list", data := .seq ([] : List Value).toArray } := by rw [hs3]
  have sz3 : s3.heap.objs.size = s2.heap.objs.size + 1 := by rw [e3, Heap.size_push]
  have fpl3 : ∀ b ∈ fp, b < s3.heap.objs.size := fun b hb => Nat.lt_of_lt_of_le (fpl b hb) (by rw [sz3]; exact Nat.le_succ _)
  have f3 : ∀ b ∈ fp, FpOk X pins (upd H2 s2.heap.objs.size (.lst [])) b := fun b hb => ⟨by rw [upd_ne (Nat.ne_of_lt (fpl b hb))]; exact (f2 b hb).1, (f2 b hb).2⟩
  have st3 : tn 0 s3.heap := T.keep 0 _ _ st2 fun b _ ob e => by rw [e3]; exact Heap.get?_push_of_some _ e
  rw [← hs3] at I3
  show codeAny (model X.prog X.w) X.A (.compStart _ 0 (.ref it) (.ref s2.heap.objs.size) (compEnvC c (clOf X.env.cells c.names []) (s2.heap.push { cls := .type "list", data := .seq ([] : List Value).toArray }).objs.size X.env))
    (compPost (model X.prog X.w) X.A X.xe use QQ (.ref s2.heap.objs.size) (s2.heap.push { cls := .type "list", data := .seq ([] : List Value).toArray }).objs.size)
    { s2 with heap := h₁, toks := s2.toks + ([] : List (Str × Value)).length }
  have hns : h₁.Ns s3.heap.objs.size (fun x => ([] : List (Str × Value)).reverse.lookup x) := by rw [e3]; exact hns₁
  have hk1 : ∀ b ob, s3.heap.get? b = some ob → h₁.get? b = some ob := fun b ob e => by
    rw [e3] at e
    exact hsb₁.extBut b ob (Nat.ne_of_lt (Heap.lt_size e)) (Heap.get?_push_of_some _ e)
  rw [← e3]
  have es4 : ({ s2 with heap := h₁, toks := s2.toks + ([] : List (Str × Value)).length } : Shared) = { s3 with heap := h₁, toks := s2.toks } := by rw [hs3]; rfl
  rw [es4]
  obtain ⟨W, ⟨m0, w0⟩, turn⟩ := hR s2.heap.objs.size hD
  have I4 := comp_inv (tk := s2.toks) S hN ho I3 f3 fpl3 hns hk1
  have st4 : tn 0 h₁ := T.keep 0 _ _ st3 fun b _ ob e => hk1 b ob e
  generalize hX : compCx X c N' s3.heap.objs.size s3 (upd H2 s2.heap.objs.size (.lst [])) fp = Y at I4
  have Yp : Y.prog = X.prog := by rw [← hX]; rfl
  have Yw : Y.w = X.w := by rw [← hX]; rfl
  have YK : Y.K = X.K := by rw [← hX]; rfl
  have Yc : Y.calm = true := by rw [← hX]; exact hc
  have YA : Y.A = X.A := by rw [← hX]; rfl
  have Yenv : Y.env = compEnvC c (clOf X.env.cells c.names []) s3.heap.objs.size X.env := by rw [← hX]; rfl
  have Yl : Y.env.locals = s3.heap.objs.size := by rw [Yenv]; rfl
  have Yxe : Y.xe = fun _ _ => False := by rw [← hX]; rfl
  have hg' := hg s3.heap.objs.size s3 (upd H2 s2.heap.objs.size (.lst [])) fp
  have ht' := ht s3.heap.objs.size s3 (upd H2 s2.heap.objs.size (.lst [])) fp
  have he' := he s3.heap.objs.size s3 (upd H2 s2.heap.objs.size (.lst [])) fp
  rw [hX] at hg' ht' he'
  have stat : ∀ {H' : Hp}, (∀ b ∈ fp, H' b = none) → ∀ b ∈ fp, FpOk Y [] H' b := fun {H'} hn b hb => by
    obtain ⟨_, q1, q2, q3, q4, _⟩ := f3 b hb
    have z1 := I4.ok.exf b (by rw [← hX]; exact hb)
    refine ⟨hn b hb, z1.1, I4.ok.exfs b (by rw [← hX]; exact hb), .inl (by rw [← hX]; exact hb), z1.2, fun p hp => ?_⟩
    have hp' : p ∈ ([] : List (Addr × Obj)) := by
      have : Y.pn = [] := by rw [← hX]; rfl
      rw [this] at hp; exact hp
    cases hp'
  have fin : ∀ (s5 : Shared) (σ5 : St) (H5 : Hp), Inv Y [] σ5 H5 s5 → Q (.ref s2.heap.objs.size) H5 → compPost (model X.prog X.w) X.A X.xe use QQ (.ref s2.heap.objs.size) s3.heap.objs.size (.ok .next) s5 := fun s5 σ5 H5 I5 q => by
    obtain ⟨m, hn, _⟩ := id I5.loc
    rw [Yl] at hn
    have hCn : H5 s3.heap.objs.size = none := by have := I5.free; rw [Yl] at this; exact this
    have un : Un (frs X.stack) fp (upd H2 s2.heap.objs.size (.lst [])) H5 s3.heap s5.heap := by
      have := I5.base
      rw [← hX] at this
      exact this
    have os5 : s5.os = s3.os := by have := I5.os; rw [← hX] at this; exact this
    have hok5 : HOk X.prog X.w H5 s5.heap := by
      have := I5.hok
      rw [Yp, Yw] at this
      exact this
    refine post _ _ s5 H5 m (I3.call' (s' := s5) (ch := fp) os5 un hok5 I5.bare fun b hb => ?_) hCn hn (Nat.ne_of_gt I3.lt) I3.sz (fun x a e => ?_) (fun p hp => ?_) q
    · obtain ⟨_, q1, _, q3, q4, q5⟩ := f3 b hb
      exact ⟨q3, q1, q4, q5⟩
    · obtain ⟨v, ob, e', _⟩ := I3.cell x a e
      exact Nat.ne_of_lt (Heap.lt_size e')
    · exact Nat.ne_of_lt (Heap.lt_size (I3.pin p hp).1)
  have loop : codeAny (model X.prog X.w) X.A (.compLoop (.ListComp elt [⟨tg, iter, ifs, 0⟩] c pos) 0 (.ref it) (.ref s2.heap.objs.size) (compEnvC c (clOf X.env.cells c.names []) s3.heap.objs.size X.env))
      (compPost (model X.prog X.w) X.A X.xe use QQ (.ref s2.heap.objs.size) s3.heap.objs.size) { s3 with heap := h₁, toks := s2.toks } := by
    rw [← Yenv, ← YA]
    refine compLoop_any (E := fun _ _ => False) (fun n s' => ∃ i ys σ' H', Inv Y [] σ' H' s' ∧ tn i s'.heap ∧ (∀ b ∈ fp, H' b = none) ∧ W i n ys σ' H') (fun _ _ z => z) ?_ m0
      ⟨0, [], _, _, I4, st4, fun b hb => (f3 b hb).1, ?_⟩
    · rintro n s5 ⟨i, ys, σ5, H5, I5, st5, fr5, w5⟩
      rcases turn i n ys σ5 H5 w5 with ⟨stop, qn⟩ | ⟨go, Nn, hNn, step⟩
      · refine thn (T.done Y Yp Yw YK Yc i [] s5 σ5 H5 _ I5 (stat fr5) st5 stop) fun r s6 ⟨hr, I6⟩ => ?_
        subst hr
        have fq := fin s6 σ5 H5 I6 qn
        rw [← YA] at fq
        exact fq
      · refine thn (T.item Y Yp Yw YK Yc i [] s5 σ5 H5 _ I5 (stat fr5) st5 go) fun r s6 ⟨u, hr, h6⟩ => ?_
        subst hr
        refine thn h6 fun _ s7 ⟨x, H7, I7, r7, y7, st7, fr7⟩ => ?_
        have I7' := I7.pinned (stat fr7) (T.obj _ _ st7)
        have back : ∀ {σ9 : St} {H9 : Hp} {s9 : Shared}, Inv Y ([] ++ pinsAt fp s7.heap) σ9 H9 s9 → Inv Y [] σ9 H9 s9 ∧ tn (i + 1) s9.heap ∧ ∀ b ∈ fp, H9 b = none := fun {σ9 H9 s9} I9 => by
          refine ⟨I9.unpinned, T.keep _ _ _ st7 fun b hb ob e => (I9.pin (b, ob) (List.mem_append_right _ (List.mem_append_right _ (mem_pinsAt hb e)))).1, fun b hb => ?_⟩
          obtain ⟨ob, e, d⟩ := T.obj _ _ st7 b hb
          exact (I9.pin (b, ob) (List.mem_append_right _ (List.mem_append_right _ (mem_pinsAt hb e)))).2.1
        have P1 := hg' _ s7 σ5 H7 x u _ I7' r7 (step x H7 y7)
        rw [Yp, Yw, Yxe] at P1
        refine thn P1 fun _ s8 ⟨σ8, H8, I8, q8⟩ => ?_
        have P2 := ht' _ s8 σ8 H8 _ I8 q8
        rw [Yp, Yw, Yxe] at P2
        refine thn P2 fun ok s9 ⟨H9, I9, q9⟩ => ?_
        cases ok with
        | false =>
          rw [if_neg Bool.false_ne_true] at q9
          rw [if_neg Bool.false_ne_true]
          obtain ⟨b1, b2, b3⟩ := back I9
          obtain ⟨m', hm', w9⟩ := hNn _ _ _ q9
          exact ⟨m', hm', i + 1, ys, σ8, H9, b1, b2, b3, w9⟩
        | true =>
          rw [if_pos rfl] at q9
          rw [if_pos rfl]
          have P3 := he' _ s9 σ8 H9 _ I9 q9
          rw [Yp, Yw, Yxe] at P3
          refine thn P3 fun y s10 ⟨vy, H10, I10, r10, hDl, hsz, q10⟩ => ?_
          have P4 := mt_append (X := Y) _ s10 σ8 H10 (.ref s2.heap.objs.size) [vy] (.ref s2.heap.objs.size) [y] (fun _ H' => Nn (ys ++ [vy]) σ8 H') I10 rfl (.cons r10 .nil) ⟨_, ys, vy, rfl, rfl, hDl, hsz, q10⟩
          rw [Yp, Yw, Yxe] at P4
          refine thn P4 fun _ s11 ⟨_, H11, I11, _, q11⟩ => ?_
          obtain ⟨b1, b2, b3⟩ := back I11
          obtain ⟨m', hm', w11⟩ := hNn _ _ _ q11
          exact ⟨m', hm', i + 1, ys ++ [vy], σ8, H11, b1, b2, b3, w11⟩
    · exact w0
  have lp := T.self X.A 0 { s3 with heap := h₁, toks := s2.toks } (fun it' s' => codeAny (model X.prog X.w) X.A (.compLoop (.ListComp elt [⟨tg, iter, ifs, 0⟩] c pos) 0 it' (.ref s2.heap.objs.size) (compEnvC c (clOf X.env.cells c.names []) s3.heap.objs.size X.env))
      (compPost (model X.prog X.w) X.A X.xe use QQ (.ref s2.heap.objs.size) s3.heap.objs.size) s') (fun _ _ => False) st4 loop
  exact codeAny_compStart_list loop (wpAny_mono lp (fun _ _ z => z) fun _ _ z => z.elim)
theorem Inv.let {pins : List (Addr × Obj)} {σ : St} {H : Hp} {s : Shared} {C : Addr} {h' : Heap} (I : Inv X pins σ H s) (hn : H C = none) (hL : C ≠ X.env.locals) (h1 : X.s₀.heap.objs.size ≤ C)
    (h2 : ∀ x a, X.env.cells.lookup x = some a → a ≠ C) (h3 : ∀ p ∈ X.pn ++ pins, p.1 ≠ C) (hs : Heap.SameBut C s.heap h') : Inv X pins σ H { s with heap := h' } :=
  I.turned (t' := s.toks) (fun b ob hb e => hs.extBut b ob hb e) hn hL (.inr h1) h2 h3
theorem pe_comp {elt tg iter : Expr} {ifs : List Expr} {pos : Pos} {wi : TI} {g : TG} {tc : TT} {te : TE} (S : CompSc N N' o c) (hN : X.N = N) (ho : X.env.scope = o) (hc : X.calm = true)
    (hi : PI X tg iter wi) (hg : ∀ C s H fp, PG (compCx X c N' C s H fp) tg g) (ht : ∀ C s H fp, PTs (compCx X c N' C s H fp) ifs tc) (he : ∀ C s H fp, PE (compCx X c N' C s H fp) elt te)
    (hs : ∀ x, foldedSetIterable iter X.env x = pure x := by intro _; rfl) :
    PE X (.ListComp elt [⟨tg, iter, ifs, 0⟩] c pos) (tComp (N'.length - N.length) wi g tc te) := by
  intro pins s σ H Q I h
  rw [eval_ListComp]
  refine comp_run (use := none) S hN ho hc hi hg ht he hs I h fun D C s5 H5 m I5 hCn hn n1 n2 n3 n4 q => ⟨m, hn, fun h' hsb => ?_⟩
  exact ⟨.ref D, H5, I5.let hCn n1 n2 n3 n4 hsb, rfl, q⟩
end
end L2
set_option Elab.async false
set_option linter.all false
set_option maxRecDepth 100000
namespace L2
open PySem PySem.Spec PyProof.Rows
section
variable {X : Cx}
def rIsi (K : PySem.W.Frag) : List V → Hp → VK → Prop := fun xs H Q => ∃ x c t b, xs = [x, .ty c] ∧ TyOf K H x t ∧ PySem.W.kitOne K t (.type c) = some b ∧ Q (.bl b) H
theorem call_isi : CallR X (.builtin "isinstance") (rIsi X.K) := by
  intro pins s σ H xs us Q I r h
  obtain ⟨x, c, t, b, rfl, ty, e, q⟩ := h
  obtain ⟨u, w', rfl, rx, rc⟩ := vals2 r
  cases rc
  exact isinst_ok I rx ty e fun tk => ⟨.bl b, H, I.tok _, rfl, q⟩
def rIsiT (K : PySem.W.Frag) : List V → Hp → VK → Prop := fun xs H Q => ∃ (x : V) (tp : Addr) (cs : List String) (t : Value) (b : Bool), xs = [x, .ref tp] ∧ H tp = some (.tup (cs.map V.ty)) ∧ TyOf K H x t ∧ PySem.W.kitAny K t (cs.map Value.type) = some b ∧ Q (.bl b) H
theorem vals_ty {cs : List String} : ∀ {us : List Value}, Vals (cs.map V.ty) us → us = cs.map Value.type := by
  induction cs with
  | nil => intro us r; rw [List.map_nil] at r; cases r; rfl
  | cons y ys ih =>
    intro us r
    rw [List.map_cons] at r
    cases r with
    | cons r1 r2 => rw [show _ = Value.type y from r1, ih r2]; rfl
theorem call_isiT : CallR X (.builtin "isinstance") (rIsiT X.K) := by
  intro pins s σ H xs us Q I r h
  obtain ⟨x, tp, cs, t, b, rfl, ht, ty, e, q⟩ := h
  obtain ⟨u, w', rfl, rx, rc⟩ := vals2 r
  cases rc
  obtain ⟨_, its, rv, ⟨ot, e1, e2, n, e3⟩⟩ := I.hok tp _ ht
  have ei := vals_ty rv
  subst ei
  obtain ⟨oc, od, dt, sl⟩ := ot
  have e2' : oc = Value.type "tuple" := e2
  have e3' : dt = Data.seq (cs.map Value.type).toArray n := e3
  subst e2'; subst e3'
  have fin : ∀ tk, EP X pins σ Q (.bool b) { s with toks := tk } := fun tk => ⟨.bl b, H, I.tok _, rfl, q⟩
  cases ty with
  | non => cases (show u = Value.none from rx); exact PySem.W.kia_tup PySem.W.kitx_none I.kIn True.intro e1 e (fun z => nomatch z) fin
  | bl y => cases (show u = Value.bool y from rx); exact PySem.W.kia_tup PySem.W.kitx_bool I.kIn True.intro e1 e (fun z => nomatch z) fin
  | int i => obtain ⟨t, q⟩ := (show ∃ t, u = Value.int i t from rx); cases q; exact PySem.W.kia_tup PySem.W.kitx_int I.kIn True.intro e1 e (fun z => nomatch z) fin
  | str y => obtain ⟨t, q⟩ := (show ∃ t, u = Value.str y t from rx); cases q; exact PySem.W.kia_tup PySem.W.kitx_str I.kIn True.intro e1 e (fun z => nomatch z) fin
  | flt y => obtain ⟨t, q⟩ := (show ∃ t, u = Value.float y t from rx); cases q; exact PySem.W.kia_tup PySem.W.kitx_float I.kIn True.intro e1 e (fun z => nomatch z) fin
  | @lst a xs ea =>
    cases (show u = Value.ref a from rx)
    obtain ⟨_, _, n, _, h1⟩ := (show ObjOk X.prog X.w H s.heap a (.lst xs) from I.hok a _ ea)
    exact PySem.W.kia_tup PySem.W.kitx_list I.kIn ⟨_, h1, rfl⟩ e1 e (fun z => nomatch z) fin
  | @frz a ob xs ea =>
    cases (show u = Value.ref a from rx)
    obtain ⟨_, _, _, n, _, h1⟩ := (show ObjOk X.prog X.w H s.heap a (.frz ob (.lst xs)) from I.hok a _ ea)
    exact PySem.W.kia_tup PySem.W.kitx_list I.kIn ⟨_, h1, rfl⟩ e1 e (fun z => nomatch z) fin
  | @tup a xs ea =>
    cases (show u = Value.ref a from rx)
    obtain ⟨_, _, _, p⟩ := (show ObjOk X.prog X.w H s.heap a (.tup xs) from I.hok a _ ea)
    obtain ⟨o, h1, h2, _⟩ := p
    exact PySem.W.kia_tup PySem.W.kitx_tuple I.kIn ⟨o, h1, h2⟩ e1 e (fun z => nomatch z) fin
  | @dK a kvs ea =>
    cases (show u = Value.ref a from rx)
    obtain ⟨_, _, vs, _, p⟩ := (show ObjOk X.prog X.w H s.heap a (.dK kvs) from I.hok a _ ea)
    obtain ⟨o, es, ep, h1, h2, _⟩ := p
    exact PySem.W.kia_tup PySem.W.kitx_dict I.kIn ⟨o, h1, h2.1⟩ e1 e (fun z => nomatch z) fin
  | @dT a kvs ea =>
    cases (show u = Value.ref a from rx)
    obtain ⟨_, _, xs, _, o, es, ep, h1, h2, _⟩ := (show ObjOk X.prog X.w H s.heap a (.dT kvs) from I.hok a _ ea)
    exact PySem.W.kia_tup PySem.W.kitx_dict I.kIn ⟨o, h1, h2.1⟩ e1 e (fun z => nomatch z) fin
  | @ins a C dx fs ea cl ha hn htk hm =>
    cases (show u = Value.ref a from rx)
    obtain ⟨mA, O, _⟩ := ins_get I.hok ea
    obtain ⟨od, J, _⟩ := O.look
    exact PySem.W.kia_tup (PySem.W.kitx_own (cl.get _) cl.hd ha hn htk hm) I.kIn J e1 e (fun z => nomatch z) fin
theorem call_all (hc : X.calm = true) : CallR X (.builtin "all") (fun xs H Q => ∃ (p : Addr) (bs : List Bool), xs = [.ref p] ∧ SqL X.K H p (bs.map V.bl) ∧ Q (.bl (bs.all id)) H) := by
  intro pins s σ H xs us Q I r h
  obtain ⟨p, bs, rfl, hq, q⟩ := h
  obtain ⟨u, rfl, rx⟩ := vals1 r
  cases rx
  obtain ⟨its, rv, pl, hz⟩ := I.list hq
  have hl := pl.isList
  have hlt : p < s.heap.objs.size := by obtain ⟨_, e, _⟩ := hl; exact Heap.lt_size e
  refine call_all_walk (wpAny_pyIter_list hl ?_)
  refine ⟨s.heap.objs.size, [s.heap.objs.size, p], [s.heap.objs.size], its.toArray.size, _, _, fun i => (bs[i]?).getD true, rfl, Walks.list (A := X.A.in1) (I.ok.hd hc) _ p (Nat.ne_of_lt hlt) its.toArray,
    ⟨⟨_, Heap.get?_push_size _ rfl, rfl, rfl⟩, hl.push _⟩, fun i v s' Q' E' hP hQ => ?_, fun h' tk hk => ?_⟩
  · have hP' : its[i]? = some v := by simpa using hP
    have hi : i < its.length := (List.getElem?_eq_some_iff.mp hP').1
    have hlen := rv.length
    have hb : (bs.map V.bl)[i]? = some (V.bl (bs[i]'(by rw [List.length_map] at hlen; omega))) := by
      rw [List.getElem?_map, List.getElem?_eq_getElem (by rw [List.length_map] at hlen; omega)]; rfl
    obtain ⟨u', hu', ru'⟩ := rv.get hb
    rw [hP'] at hu'; cases hu'
    obtain rfl : v = Value.bool _ := ru'
    have hQ2 : Q' ((bs[i]?).getD true) s' := hQ
    rw [List.getElem?_eq_getElem (by rw [List.length_map] at hlen; omega)] at hQ2
    exact wpAny_truthy_bool hQ2
  · have e : ((List.range its.toArray.size).all fun i => (bs[i]?).getD true) = bs.all id := by
      have hlen := rv.length
      rw [List.length_map] at hlen
      rw [List.size_toArray, ← hlen, Bool.eq_iff_iff, List.all_eq_true, List.all_eq_true]
      constructor
      · intro z b hb
        obtain ⟨i, hi, rfl⟩ := List.mem_iff_getElem.mp hb
        have := z i (List.mem_range.mpr hi)
        rw [List.getElem?_eq_getElem hi] at this
        exact this
      · intro z i hi
        have hi' := List.mem_range.mp hi
        rw [List.getElem?_eq_getElem hi']
        exact z _ (List.getElem_mem hi')
    refine ⟨.bl (bs.all id), H, I.kept fun b ob e' => hk b ob (fun hm => ?_) (Heap.get?_push_of_some _ e'), by rw [e]; rfl, q⟩
    rw [List.mem_singleton.mp hm] at e'
    exact Nat.lt_irrefl _ (Heap.lt_size e')
def rSlS : V → Option Int → Option Int → Hp → VK → Prop := fun x lo hi H Q => ∃ z, x = .str z ∧ z.length ≤ sizeLine ∧ Q (.str (Txt.slice z lo hi)) H
end
end L2
set_option Elab.async false
set_option linter.all false
set_option maxRecDepth 100000
namespace L2
open PySem PySem.Spec PyProof.Rows
inductive Src where
  | l (a : Addr) | t (a : Addr) | s (z : Str)
def Src.val : Src → V
  | .l a => .ref a
  | .t a => .ref a
  | .s z => .str z
def oneSign (c : Nat) : V := .str ⟨#[c]⟩
def Src.its (K : PySem.W.Frag) (H : Hp) : Src → List V → Prop
  | .l a, xs => SqL K H a xs
  | .t a, xs => SqT K H a xs
  | .s z, xs => xs = z.cps.toList.map oneSign
def Src.at (h : Heap) (i : Addr) : Src → Nat → Prop
  | .l a, k => h.IsListIter i a k
  | .t a, k => h.IsTupleIter i a k
  | .s z, k => ∃ tk, h.IsStrIter i (strIterType z) z tk k
def Src.raw (h : Heap) : Src → List Value → Prop
  | .l a, us => h.IsList a us.toArray
  | .t a, us => h.IsTuple a us.toArray
  | .s _, _ => True
def Src.fit : Src → List Value → Nat → Value → Prop
  | .l _, us, k, u => us[k]? = some u
  | .t _, us, k, u => us[k]? = some u
  | .s z, _, k, u => ∃ c tk, z.cps[k]? = some c ∧ u = .str ⟨#[c]⟩ tk
def Src.many : Src → List Value → Nat
  | .l _, us => us.length
  | .t _, us => us.length
  | .s z, _ => z.cps.size
def Src.off : Src → Addr → Prop
  | .l a, b => a ≠ b
  | .t a, b => a ≠ b
  | .s _, _ => True
theorem Src.at_obj {h : Heap} {i : Addr} : ∀ {S : Src} {k : Nat}, S.at h i k → ∃ o vs, h.get? i = some o ∧ o.data = .fields vs
  | .l _, _, ⟨o, e, _, d⟩ => ⟨o, _, e, d⟩
  | .t _, _, ⟨o, e, _, d⟩ => ⟨o, _, e, d⟩
  | .s _, _, ⟨_, o, e, _, d⟩ => ⟨o, _, e, d⟩
theorem Src.at_keep {h h' : Heap} {i : Addr} (k' : ∀ o, h.get? i = some o → h'.get? i = some o) : ∀ {S : Src} {k : Nat}, S.at h i k → S.at h' i k
  | .l _, _, ⟨o, e, d⟩ => ⟨o, k' o e, d⟩
  | .t _, _, ⟨o, e, d⟩ => ⟨o, k' o e, d⟩
  | .s _, _, ⟨tk, o, e, d⟩ => ⟨tk, o, k' o e, d⟩
theorem Src.raw_keep {h h' : Heap} {b : Addr} (k' : ∀ c o, c ≠ b → h.get? c = some o → h'.get? c = some o) : ∀ {S : Src} {us : List Value}, S.off b → S.raw h us → S.raw h' us
  | .l _, _, f, ⟨o, e, d⟩ => ⟨o, k' _ o f e, d⟩
  | .t _, _, f, ⟨o, e, d⟩ => ⟨o, k' _ o f e, d⟩
  | .s _, _, _, _ => trivial
section
variable {prog : Program} {w : World} {A : Around} {E : Value → Shared → Prop} {s : Shared}
theorem nextOf_tuple {it t : Addr} {i : Nat} {items : Array Value} {x : Value} {Q : Value → Shared → Prop} (hit : s.heap.IsTupleIter it t i) (ht : s.heap.IsTuple t items) (hx : items[i]? = some x)
    (hQ : ∀ h', h'.IsTupleIter it t (i + 1) → Heap.SameBut it s.heap h' → Q x { s with heap := h' }) : wpAny (model prog w) A (Builtin.SmallTypes.nextOf (.ref it)) Q E s := by
  obtain ⟨o, ho, hc, hd⟩ := id hit
  obtain ⟨ol, hol, _, nl, hdl⟩ := ht
  unfold Builtin.SmallTypes.nextOf
  refine wpAny_bind (wpAny_callSpecial?_slot (name := Str.ofString "__next__") hit.typeIs F.slot_tuple_iterator_next
    (wpAny_call_entry F.slot_tuple_iterator_next hit.typeIs F.entry_tuple_iterator_next ?_ (F.args_tuple_iterator_next_1 _)))
  show wpAny _ _ (field (.ref it) 0 >>= _) _ _ s
  refine wpAny_bind (wpAny_field ho hd (x := .ref t) rfl ?_)
  show wpAny _ _ (if (Value.ref t == Value.none) = true then _ else _) _ _ s
  rw [if_neg (show ¬ ((Value.ref t == Value.none) = true) from Bool.false_ne_true)]
  show wpAny _ _ (field (.ref it) 1 >>= _) _ _ s
  refine wpAny_bind (wpAny_field ho hd (x := .int i 0) rfl ?_)
  show wpAny _ _ (seqItems? (.ref t) >>= _) _ _ s
  refine wpAny_bind (wpAny_seqItems hol hdl ?_)
  simp only [Int.toNat_natCast, hx]
  refine wpAny_bind (wpAny_setField ho hd (by simp) (wpAny_pure ⟨x, rfl, wpAny_pure (hQ _ ?_ (Heap.SameBut.update ..))⟩))
  exact ⟨_, Heap.get?_update_self _ ho (Obj.isFreed_of_fields (Obj.data_mapFields hd _)), (Obj.cls_mapFields ..).trans hc, by
    rw [Obj.data_mapFields hd]; simp [rawInt]⟩
theorem nextOf_item {i : Addr} {k : Nat} {us : List Value} {Q : Value → Shared → Prop} : ∀ {S : Src}, S.at s.heap i k → S.raw s.heap us → k < S.many us →
    (∀ h' tk u, S.fit us k u → S.at h' i (k + 1) → Heap.SameBut i s.heap h' → Q u { s with heap := h', toks := tk }) → wpAny (model prog w) A (Builtin.SmallTypes.nextOf (.ref i)) Q E s
  | .l a, h1, h2, h3, hQ => wpAny_nextOf_list_item h1 h2 (x := us[k]'h3) (by rw [List.getElem?_toArray]; exact List.getElem?_eq_getElem h3) fun h' q1 q2 => hQ h' s.toks _ (List.getElem?_eq_getElem h3) q1 q2
  | .t a, h1, h2, h3, hQ => nextOf_tuple h1 h2 (x := us[k]'h3) (by rw [List.getElem?_toArray]; exact List.getElem?_eq_getElem h3) fun h' q1 q2 => hQ h' s.toks _ (List.getElem?_eq_getElem h3) q1 q2
  | .s z, ⟨tk, h1⟩, h2, h3, hQ => by
    have hx : z.cps[k]? = some z.cps[k] := Array.getElem?_eq_getElem h3
    by_cases ha : z.cps.all (· < 128) = true
    · have e : strIterType z = "str_ascii_iterator" := by unfold strIterType; rw [if_pos ha]
      rw [e] at h1
      exact wpAny_nextOf_ascii_item h1 hx fun h' q1 q2 => hQ h' _ _ ⟨_, _, hx, rfl⟩ ⟨tk, by rw [e]; exact q1⟩ q2
    · have e : strIterType z = "str_iterator" := by unfold strIterType; rw [if_neg ha]
      rw [e] at h1
      exact wpAny_nextOf_wide_item h1 hx fun h' q1 q2 => hQ h' _ _ ⟨_, _, hx, rfl⟩ ⟨tk, by rw [e]; exact q1⟩ q2
theorem nextOf_tuple_end {it t : Addr} {i : Nat} {items : Array Value} {Q : Value → Shared → Prop} (hh : A.handled = none) (hit : s.heap.IsTupleIter it t i) (ht : s.heap.IsTuple t items) (hx : items[i]? = none)
    (hE : ∀ h' e, Heap.ExtBut it s.heap h' → (∃ o, h'.get? e = some o ∧ o.cls = .type "StopIteration") → E (.ref e) { s with heap := h' }) : wpAny (model prog w) A (Builtin.SmallTypes.nextOf (.ref it)) Q E s := by
  obtain ⟨o, ho, hc, hd⟩ := id hit
  obtain ⟨ol, hol, _, nl, hdl⟩ := ht
  unfold Builtin.SmallTypes.nextOf
  refine wpAny_bind (wpAny_callSpecial?_slot (name := Str.ofString "__next__") hit.typeIs F.slot_tuple_iterator_next
    (wpAny_call_entry F.slot_tuple_iterator_next hit.typeIs F.entry_tuple_iterator_next ?_ (F.args_tuple_iterator_next_1 _)))
  show wpAny _ _ (field (.ref it) 0 >>= _) _ _ s
  refine wpAny_bind (wpAny_field ho hd (x := .ref t) rfl ?_)
  show wpAny _ _ (if (Value.ref t == Value.none) = true then _ else _) _ _ s
  rw [if_neg (show ¬ ((Value.ref t == Value.none) = true) from Bool.false_ne_true)]
  show wpAny _ _ (field (.ref it) 1 >>= _) _ _ s
  refine wpAny_bind (wpAny_field ho hd (x := .int i 0) rfl ?_)
  show wpAny _ _ (seqItems? (.ref t) >>= _) _ _ s
  refine wpAny_bind (wpAny_seqItems hol hdl ?_)
  simp only [Int.toNat_natCast, hx]
  refine wpAny_bind (wpAny_rule (wpAny_bind (wpAny_setField ho hd (by simp) ?_)))
  show wpAny _ _ (newExc (.type "StopIteration") [] >>= _) _ _ _
  refine wpAny_bind ?_
  simp only [newExc, newTuple]
  refine wpAny_bind (wpAny_newObj_type ?_ (by size_fits))
  refine wpAny_bind (m := firstArgMember _ _) (wpAny_of_eq (a := Value.none) (by first | rfl | (simp only [firstArgMember]; rfl)) ?_)
  refine wpAny_newObj_type ?_ (by size_fits)
  simp only [raiseNew]
  refine wpAny_bind (wpAny_handled ?_)
  first | rw [show A.in1.handled = none from hh] | rw [hh]
  refine wpAny_bind (wpAny_pure (wpAny_throw ?_))
  exact hE _ _ (((Heap.SameBut.update ..).extBut.push _).push _) ⟨_, Heap.get?_push_size _ rfl, rfl⟩
theorem nextOf_end {i : Addr} {k : Nat} {us : List Value} {Q : Value → Shared → Prop} (hh : A.handled = none) : ∀ {S : Src}, S.at s.heap i k → S.raw s.heap us → S.many us ≤ k →
    (∀ h' e, Heap.ExtBut i s.heap h' → (∃ o, h'.get? e = some o ∧ o.cls = .type "StopIteration") → E (.ref e) { s with heap := h' }) → wpAny (model prog w) A (Builtin.SmallTypes.nextOf (.ref i)) Q E s
  | .l a, h1, h2, h3, hE => wpAny_nextOf_list_end hh h1 h2 (by rw [List.getElem?_toArray]; exact List.getElem?_eq_none h3) hE
  | .t a, h1, h2, h3, hE => nextOf_tuple_end hh h1 h2 (by rw [List.getElem?_toArray]; exact List.getElem?_eq_none h3) hE
  | .s z, ⟨tk, h1⟩, h2, h3, hE => by
    have hx : z.cps[k]? = none := Array.getElem?_eq_none h3
    by_cases ha : z.cps.all (· < 128) = true
    · have e : strIterType z = "str_ascii_iterator" := by unfold strIterType; rw [if_pos ha]
      rw [e] at h1
      exact wpAny_nextOf_ascii_end hh h1 hx hE
    · have e : strIterType z = "str_iterator" := by unfold strIterType; rw [if_neg ha]
      rw [e] at h1
      exact wpAny_nextOf_wide_end hh h1 hx hE
structure ZipOff (z TI TO i1 i2 : Addr) (S1 S2 : Src) : Prop where
  TIz : TI ≠ z
  TOz : TO ≠ z
  i1z : i1 ≠ z
  i2z : i2 ≠ z
  TITO : TI ≠ TO
  TIi1 : TI ≠ i1
  TIi2 : TI ≠ i2
  TOi1 : TO ≠ i1
  TOi2 : TO ≠ i2
  i12 : i1 ≠ i2
  s1z : S1.off z
  s1TO : S1.off TO
  s1i1 : S1.off i1
  s1i2 : S1.off i2
  s2z : S2.off z
  s2TO : S2.off TO
  s2i1 : S2.off i1
  s2i2 : S2.off i2
theorem zip_step {z TI TO i1 i2 : Addr} {S1 S2 : Src} {k : Nat} {us1 us2 : List Value} {a b : Value} {Q : Option Value → Shared → Prop} (D : ZipOff z TI TO i1 i2 S1 S2)
    (hz : IsZip s.heap z TI TO .none) (hTI : IsPair s.heap TI (.ref i1) (.ref i2)) (hTO : IsPair s.heap TO a b)
    (h1 : S1.at s.heap i1 k) (h2 : S2.at s.heap i2 k) (r1 : S1.raw s.heap us1) (r2 : S2.raw s.heap us2) (m1 : k < S1.many us1) (m2 : k < S2.many us2)
    (hQ : ∀ h' tk x y, S1.fit us1 k x → S2.fit us2 k y → IsZip h' z TI TO (rawInt s.heap.objs.size) → IsPair h' TO x y → S1.at h' i1 (k + 1) → S2.at h' i2 (k + 1) → IsPair h' s.heap.objs.size x y → h'.objs.size = s.heap.objs.size + 1 →
      (∀ c o, c ≠ z → c ≠ TO → c ≠ i1 → c ≠ i2 → s.heap.get? c = some o → h'.get? c = some o) → Q (some (.ref s.heap.objs.size)) { s with heap := h', toks := tk }) :
    wpAny (model prog w) A (pyNext (.ref z)) Q E s := by
  have hT : s.TypeIs (.ref z) "zip" := ⟨_, hz, rfl⟩
  unfold pyNext
  refine wpAny_bind (wpAny_attempt (wpAny_callSpecial?_slot (name := Str.ofString "__next__") hT F.slot_zip_next (wpAny_call_entry F.slot_zip_next hT F.entry_zip_next ?_ (F.args_zip_next_1 _))))
  show wpAny _ _ (field (.ref z) 2 >>= _) _ _ _
  refine wpAny_bind (wpAny_field hz rfl (x := .bool false) rfl ?_)
  show wpAny _ _ (field (.ref z) 3 >>= _) _ _ _
  refine wpAny_bind (wpAny_field hz rfl (x := .ref TI) rfl (wpAny_bind (wpAny_seqItems hTI rfl ?_)))
  show wpAny _ _ (Builtin.SmallTypes.ownedTupleIsFree (.ref z) >>= _) _ _ _
  unfold Builtin.SmallTypes.ownedTupleIsFree
  refine wpAny_bind (wpAny_bind (wpAny_field hz rfl (x := .none) rfl (wpAny_pure ?_)))
  simp only [if_true]
  refine wpAny_bind (wpAny_rule (wpAny_bind (wpAny_field hz rfl (x := .ref TO) rfl (wpAny_bind (wpAny_setField_rec hz (by simp) fun h₁ hz₁ hs₁ => ?_)))))
  replace hz₁ : IsZip h₁ z TI TO .ellipsis := hz₁
  refine wpAny_bind ?_
  simp only [List.zipIdx_cons, List.zipIdx_nil, List.forIn_cons, List.forIn_nil]
  refine wpAny_bind (wpAny_bind (wpAny_onRaise ?_))
  show wpAny _ _ (Builtin.SmallTypes.nextOf (.ref i1) >>= _) _ _ _
  refine wpAny_bind (nextOf_item (S := S1) (us := us1) (k := k) (S1.at_keep (fun o e => hs₁.extBut _ o D.i1z e) h1) (S1.raw_keep (fun c o n e => hs₁.extBut c o n e) D.s1z r1) m1 fun h₂ tk₂ x fx h1₂ hs₂ => wpAny_pure ?_)
  have hs₂' : Heap.SameBut i1 h₁ h₂ := hs₂
  have hTO₂ : IsPair h₂ TO a b := hs₂'.extBut _ _ D.TOi1 (hs₁.extBut _ _ D.TOz hTO)
  refine wpAny_bind (wpAny_seqItems hTO₂ rfl (wpAny_bind (wpAny_updateSeq_pair hTO₂ fun h₃ hTO₃ hs₃ => wpAny_bind (wpAny_letGo (wpAny_pure ?_)))))
  replace hTO₃ : IsPair h₃ TO x b := hTO₃
  have hs₃' : Heap.SameBut TO h₂ h₃ := hs₃
  refine wpAny_bind (wpAny_bind (wpAny_onRaise ?_))
  show wpAny _ _ (Builtin.SmallTypes.nextOf (.ref i2) >>= _) _ _ _
  refine wpAny_bind (nextOf_item (S := S2) (us := us2) (k := k)
    (S2.at_keep (fun o e => hs₃'.extBut _ o D.TOi2.symm (hs₂'.extBut _ o D.i12.symm (hs₁.extBut _ o D.i2z e))) h2)
    (S2.raw_keep (fun c o n e => hs₃'.extBut c o n e) D.s2TO (S2.raw_keep (fun c o n e => hs₂'.extBut c o n e) D.s2i1 (S2.raw_keep (fun c o n e => hs₁.extBut c o n e) D.s2z r2))) m2 fun h₄ tk₄ y fy h2₄ hs₄ => wpAny_pure ?_)
  have hs₄' : Heap.SameBut i2 h₃ h₄ := hs₄
  have hTO₄ : IsPair h₄ TO x b := hs₄'.extBut _ _ D.TOi2 hTO₃
  refine wpAny_bind (wpAny_seqItems hTO₄ rfl (wpAny_bind (wpAny_updateSeq_pair hTO₄ fun h₅ hTO₅ hs₅ => wpAny_bind (wpAny_letGo (wpAny_pure (wpAny_pure ?_))))))
  replace hTO₅ : IsPair h₅ TO x y := hTO₅
  have hs₅' : Heap.SameBut TO h₄ h₅ := hs₅
  refine wpAny_bind (wpAny_seqItems hTO₅ rfl (wpAny_bind (wpAny_newTuple ?_)))
  have hsz : h₅.objs.size = s.heap.objs.size := by rw [hs₅'.1, hs₄'.1, hs₃'.1, hs₂'.1, hs₁.1]
  have hz₅ : IsZip h₅ z TI TO .ellipsis := hs₅'.extBut _ _ D.TOz.symm (hs₄'.extBut _ _ D.i2z.symm (hs₃'.extBut _ _ D.TOz.symm (hs₂'.extBut _ _ D.i1z.symm hz₁)))
  have hk₅ : ∀ c o, c ≠ z → c ≠ TO → c ≠ i1 → c ≠ i2 → s.heap.get? c = some o → h₅.get? c = some o := fun c o c1 c2 c3 c4 e =>
    hs₅'.extBut _ _ c2 (hs₄'.extBut _ _ c4 (hs₃'.extBut _ _ c2 (hs₂'.extBut _ _ c3 (hs₁.extBut _ _ c1 e))))
  have h1₅ : S1.at h₅ i1 (k + 1) := S1.at_keep (fun o e => hs₅'.extBut _ o D.TOi1.symm (hs₄'.extBut _ o D.i12 (hs₃'.extBut _ o D.TOi1.symm e))) h1₂
  have h2₅ : S2.at h₅ i2 (k + 1) := S2.at_keep (fun o e => hs₅'.extBut _ o D.TOi2.symm e) h2₄
  have hzlt : z < h₅.objs.size := Heap.lt_size hz₅
  show wpAny _ _ (Builtin.SmallTypes.ownedTupleHandOut (.ref z) (.ref h₅.objs.size) >>= _) _ _ _
  refine wpAny_bind ?_
  unfold Builtin.SmallTypes.ownedTupleHandOut
  have hz₆ : IsZip (h₅.push { cls := .type "tuple", data := .seq #[x, y] }) z TI TO .ellipsis := Heap.get?_push_of_some _ hz₅
  refine wpAny_bind (wpAny_setField_rec hz₆ (by simp) fun h₇ hz₇ hs₇ => ?_)
  replace hz₇ : IsZip h₇ z TI TO (rawInt h₅.objs.size) := hz₇
  refine wpAny_setField_rec hz₇ (by simp) fun h₈ hz₈ hs₈ => ?_
  replace hz₈ : IsZip h₈ z TI TO (rawInt h₅.objs.size) := hz₈
  have up : ∀ c o, c ≠ z → h₅.get? c = some o → h₈.get? c = some o := fun c o c1 e => hs₈.extBut _ _ c1 (hs₇.extBut _ _ c1 (Heap.get?_push_of_some _ e))
  have hT₈ : IsPair h₈ h₅.objs.size x y := hs₈.extBut _ _ (Nat.ne_of_gt hzlt) (hs₇.extBut _ _ (Nat.ne_of_gt hzlt) (Heap.get?_push_size _ rfl))
  have hz8 : h₈.objs.size = h₅.objs.size + 1 := by rw [hs₈.1, hs₇.1, Heap.size_push]
  rw [hsz] at hz₈ hT₈ hz8
  refine wpAny_pure ⟨_, rfl, wpAny_pure ?_⟩
  show Q (some (.ref h₅.objs.size)) _
  rw [hsz]
  exact hQ h₈ tk₄ x y fx fy hz₈ (up _ _ D.TOz hTO₅) (S1.at_keep (fun o e => up _ o D.i1z e) h1₅) (S2.at_keep (fun o e => up _ o D.i2z e) h2₅) hT₈ hz8 fun c o c1 c2 c3 c4 e => up c o c1 (hk₅ c o c1 c2 c3 c4 e)
theorem zip_stop {z TI TO i1 i2 : Addr} {S1 S2 : Src} {k : Nat} {us1 us2 : List Value} {a b : Value} {Q : Option Value → Shared → Prop} (hh : A.handled = none) (D : ZipOff z TI TO i1 i2 S1 S2)
    (hz : IsZip s.heap z TI TO .none) (hTI : IsPair s.heap TI (.ref i1) (.ref i2)) (hTO : IsPair s.heap TO a b)
    (h1 : S1.at s.heap i1 k) (h2 : S2.at s.heap i2 k) (r1 : S1.raw s.heap us1) (r2 : S2.raw s.heap us2) (hend : S1.many us1 ≤ k ∨ S2.many us2 ≤ k)
    (hQ : ∀ h' tk, (∀ c o, c ≠ z → c ≠ TO → c ≠ i1 → c ≠ i2 → s.heap.get? c = some o → h'.get? c = some o) → Q none { s with heap := h', toks := tk }) :
    wpAny (model prog w) A (pyNext (.ref z)) Q E s := by
  have hT : s.TypeIs (.ref z) "zip" := ⟨_, hz, rfl⟩
  unfold pyNext
  have done : ∀ (h' : Heap) (tk : Nat) (e : Addr), (∀ c o, c ≠ z → c ≠ TO → c ≠ i1 → c ≠ i2 → s.heap.get? c = some o → h'.get? c = some o) → (∃ o, h'.get? e = some o ∧ o.cls = .type "StopIteration") →
      wpAny (model prog w) A (do if (← isInstance (.ref e) (.type "StopIteration")) then pure none else throw (.ref e) : Sem (Option Value)) Q E { s with heap := h', toks := tk } := fun h' tk e hk ⟨o, ho, hc⟩ =>
    wpAny_bind (wpAny_isInstance (T := "StopIteration") (b := true) ⟨o, ho, hc⟩ isSubtype_stop (wpAny_pure (hQ h' tk hk)))
  refine wpAny_bind (wpAny_attempt (wpAny_callSpecial?_slot (name := Str.ofString "__next__") hT F.slot_zip_next (wpAny_call_entry F.slot_zip_next hT F.entry_zip_next ?_ (F.args_zip_next_1 _))))
  show wpAny _ _ (field (.ref z) 2 >>= _) _ _ _
  refine wpAny_bind (wpAny_field hz rfl (x := .bool false) rfl ?_)
  show wpAny _ _ (field (.ref z) 3 >>= _) _ _ _
  refine wpAny_bind (wpAny_field hz rfl (x := .ref TI) rfl (wpAny_bind (wpAny_seqItems hTI rfl ?_)))
  show wpAny _ _ (Builtin.SmallTypes.ownedTupleIsFree (.ref z) >>= _) _ _ _
  unfold Builtin.SmallTypes.ownedTupleIsFree
  refine wpAny_bind (wpAny_bind (wpAny_field hz rfl (x := .none) rfl (wpAny_pure ?_)))
  simp only [if_true]
  refine wpAny_bind (wpAny_rule (wpAny_bind (wpAny_field hz rfl (x := .ref TO) rfl (wpAny_bind (wpAny_setField_rec hz (by simp) fun h₁ hz₁ hs₁ => ?_)))))
  replace hz₁ : IsZip h₁ z TI TO .ellipsis := hz₁
  refine wpAny_bind ?_
  simp only [List.zipIdx_cons, List.zipIdx_nil, List.forIn_cons, List.forIn_nil]
  refine wpAny_bind (wpAny_bind (wpAny_onRaise ?_))
  show wpAny _ _ (Builtin.SmallTypes.nextOf (.ref i1) >>= _) _ _ _
  by_cases m1 : k < S1.many us1
  · have m2 : S2.many us2 ≤ k := by rcases hend with z' | z'; omega; exact z'
    refine wpAny_bind (nextOf_item (S := S1) (us := us1) (k := k) (S1.at_keep (fun o e => hs₁.extBut _ o D.i1z e) h1) (S1.raw_keep (fun c o n e => hs₁.extBut c o n e) D.s1z r1) m1 fun h₂ tk₂ x fx h1₂ hs₂ => wpAny_pure ?_)
    have hs₂' : Heap.SameBut i1 h₁ h₂ := hs₂
    have hTO₂ : IsPair h₂ TO a b := hs₂'.extBut _ _ D.TOi1 (hs₁.extBut _ _ D.TOz hTO)
    refine wpAny_bind (wpAny_seqItems hTO₂ rfl (wpAny_bind (wpAny_updateSeq_pair hTO₂ fun h₃ hTO₃ hs₃ => wpAny_bind (wpAny_letGo (wpAny_pure ?_)))))
    have hs₃' : Heap.SameBut TO h₂ h₃ := hs₃
    refine wpAny_bind (wpAny_bind (wpAny_onRaise ?_))
    show wpAny _ _ (Builtin.SmallTypes.nextOf (.ref i2) >>= _) _ _ _
    refine wpAny_bind (nextOf_end (S := S2) (us := us2) (k := k) hh
      (S2.at_keep (fun o e => hs₃'.extBut _ o D.TOi2.symm (hs₂'.extBut _ o D.i12.symm (hs₁.extBut _ o D.i2z e))) h2)
      (S2.raw_keep (fun c o n e => hs₃'.extBut c o n e) D.s2TO (S2.raw_keep (fun c o n e => hs₂'.extBut c o n e) D.s2i1 (S2.raw_keep (fun c o n e => hs₁.extBut c o n e) D.s2z r2))) m2 fun h₄ e hs₄ he => ?_)
    obtain ⟨oe, hoe, hce⟩ := he
    have hz₄ : IsZip h₄ z TI TO .ellipsis := hs₄ _ _ D.i2z.symm (hs₃'.extBut _ _ D.TOz.symm (hs₂'.extBut _ _ D.i1z.symm hz₁))
    have hez : e ≠ z := fun x => by subst x; rw [hz₄] at hoe; cases hoe; simp at hce
    exact wpAny_setField_rec hz₄ (by simp) fun h₅ _ hs₅ => done h₅ _ e (fun c o c1 c2 c3 c4 x => hs₅.extBut _ _ c1 (hs₄ _ _ c4 (hs₃'.extBut _ _ c2 (hs₂'.extBut _ _ c3 (hs₁.extBut _ _ c1 x))))) ⟨oe, hs₅.extBut _ _ hez hoe, hce⟩
  · refine wpAny_bind (nextOf_end (S := S1) (us := us1) (k := k) hh (S1.at_keep (fun o e => hs₁.extBut _ o D.i1z e) h1) (S1.raw_keep (fun c o n e => hs₁.extBut c o n e) D.s1z r1) (by omega) fun h₂ e hs₂ he => ?_)
    obtain ⟨oe, hoe, hce⟩ := he
    have hz₂ : IsZip h₂ z TI TO .ellipsis := hs₂ _ _ D.i1z.symm hz₁
    have hez : e ≠ z := fun x => by subst x; rw [hz₂] at hoe; cases hoe; simp at hce
    exact wpAny_setField_rec hz₂ (by simp) fun h₃ _ hs₃ => done h₃ _ e (fun c o c1 _ c3 _ x => hs₃.extBut _ _ c1 (hs₂ _ _ c3 (hs₁.extBut _ _ c1 x))) ⟨oe, hs₃.extBut _ _ hez hoe, hce⟩
end
end L2
set_option Elab.async false
set_option linter.all false
set_option maxRecDepth 100000
namespace L2
open PySem PySem.Spec PyProof.Rows
def Src.iter (tk : Tok) : Src → Obj
  | .l a => { cls := .type "list_iterator", data := .fields #[.ref a, .int 0 0] }
  | .t a => { cls := .type "tuple_iterator", data := .fields #[.ref a, .int 0 0] }
  | .s z => { cls := .type (strIterType z), data := .fields #[.str z tk, .int 0 0] }
def Src.value (tk : Tok) : Src → Value
  | .l a => .ref a
  | .t a => .ref a
  | .s z => .str z tk
theorem Src.iter_at {h : Heap} {i : Addr} {tk : Tok} : ∀ {S : Src}, h.get? i = some (S.iter tk) → S.at h i 0
  | .l _, e => ⟨_, e, rfl, rfl⟩
  | .t _, e => ⟨_, e, rfl, rfl⟩
  | .s _, e => ⟨tk, _, e, rfl, rfl⟩
theorem Src.pyIter {prog : Program} {w : World} {A : Around} {E : Value → Shared → Prop} {s : Shared} {tk : Tok} {us : List Value} {Q : Value → Shared → Prop} : ∀ {S : Src}, S.raw s.heap us →
    Q (.ref s.heap.objs.size) { s with heap := s.heap.push (S.iter tk) } → wpAny (model prog w) A (pyIter (S.value tk)) Q E s
  | .l _, r, q => wpAny_pyIter_list r q
  | .t _, r, q => wpAny_pyIter_tuple r q
  | .s _, _, q => wpAny_pyIter_strU q
theorem Src.raw_push {h : Heap} {ob : Obj} : ∀ {S : Src} {us : List Value}, S.raw h us → S.raw (h.push ob) us
  | .l _, _, ⟨o, e, d⟩ => ⟨o, Heap.get?_push_of_some _ e, d⟩
  | .t _, _, ⟨o, e, d⟩ => ⟨o, Heap.get?_push_of_some _ e, d⟩
  | .s _, _, _ => trivial
abbrev zH1 (h : Heap) (S1 : Src) (t1 : Tok) : Heap := h.push (S1.iter t1)
abbrev zH2 (h : Heap) (S1 S2 : Src) (t1 t2 : Tok) : Heap := (zH1 h S1 t1).push (S2.iter t2)
abbrev zH3 (h : Heap) (S1 S2 : Src) (t1 t2 : Tok) : Heap := (zH2 h S1 S2 t1 t2).push { cls := .type "tuple", data := .seq #[.ref h.objs.size, .ref (zH1 h S1 t1).objs.size] }
abbrev zH4 (h : Heap) (S1 S2 : Src) (t1 t2 : Tok) : Heap := (zH3 h S1 S2 t1 t2).push { cls := .type "tuple", data := .seq #[.none, .none] }
abbrev zH5 (h : Heap) (S1 S2 : Src) (t1 t2 : Tok) : Heap := (zH4 h S1 S2 t1 t2).push { cls := .type "zip", data := .fields #[.none, .bool false, .bool false, .ref (zH2 h S1 S2 t1 t2).objs.size, .ref (zH3 h S1 S2 t1 t2).objs.size] }
theorem zip_new (S1 S2 : Src) (t1 t2 : Tok) (us1 us2 : List Value) :
    Meets (Builtin.«zip.__new__» ⟨[.type "zip", S1.value t1, S2.value t2], []⟩) (fun _ R s => S1.raw s.heap us1 ∧ S2.raw s.heap us2 ∧
      R (.ok (.ret (.ref (zH4 s.heap S1 S2 t1 t2).objs.size))) { s with heap := zH5 s.heap S1 S2 t1 t2 }) :=
  .of_wp fun prog w A R s h => by
    obtain ⟨hp, g, d, tk, os⟩ := s; obtain ⟨r1, r2, h⟩ := h
    have hsub := sub_zip
    have q1 : ∀ {A : Around} {E : Value → Shared → Prop} {Q : Value → Shared → Prop}, Q (.ref hp.objs.size) ⟨zH1 hp S1 t1, g, d, tk, os⟩ → wpAny (model prog w) A (pyIter (S1.value t1)) Q E ⟨hp, g, d, tk, os⟩ :=
      fun {A E Q} q => Src.pyIter (s := ⟨hp, g, d, tk, os⟩) (us := us1) r1 q
    have q2 : ∀ {A : Around} {E : Value → Shared → Prop} {Q : Value → Shared → Prop}, Q (.ref (zH1 hp S1 t1).objs.size) ⟨zH2 hp S1 S2 t1 t2, g, d, tk, os⟩ → wpAny (model prog w) A (pyIter (S2.value t2)) Q E ⟨zH1 hp S1 t1, g, d, tk, os⟩ :=
      fun {A E Q} q => Src.pyIter (s := ⟨zH1 hp S1 t1, g, d, tk, os⟩) (us := us2) (S2.raw_push r2) q
    generalize S1.value t1 = v1 at q1 ⊢
    generalize S2.value t2 = v2 at q2 ⊢
    wp_walk using q1, q2
    exact ⟨_, rfl, h⟩
section
variable {prog : Program} {w : World} {A : Around} {E : Value → Shared → Prop} {s : Shared}
theorem zip_call {S1 S2 : Src} {t1 t2 : Tok} {us1 us2 : List Value} {Q : Value → Shared → Prop} (r1 : S1.raw s.heap us1) (r2 : S2.raw s.heap us2)
    (h : ∀ h', IsZip h' (s.heap.objs.size + 4) (s.heap.objs.size + 2) (s.heap.objs.size + 3) .none → IsPair h' (s.heap.objs.size + 2) (.ref s.heap.objs.size) (.ref (s.heap.objs.size + 1)) →
      IsPair h' (s.heap.objs.size + 3) .none .none → S1.at h' s.heap.objs.size 0 → S2.at h' (s.heap.objs.size + 1) 0 → h'.objs.size = s.heap.objs.size + 5 →
      (∀ c o, s.heap.get? c = some o → h'.get? c = some o) → Q (.ref (s.heap.objs.size + 4)) { s with heap := h' }) :
    wpAny (model prog w) A (call (.type "zip") [S1.value t1, S2.value t2]) Q E s := by
  refine callType_new F.called_zip (by decide) (F.typeCall_zip_2 _ _) (F.newCall_zip_2 _ _) (fun obj => F.args_object_init_3 obj _ _) F.entry_zip_new (zip_new S1 S2 t1 t2 us1 us2) ⟨r1, r2, ?_⟩
  have z1 : (zH1 s.heap S1 t1).objs.size = s.heap.objs.size + 1 := Heap.size_push ..
  have z2 : (zH2 s.heap S1 S2 t1 t2).objs.size = s.heap.objs.size + 2 := by rw [Heap.size_push, z1]
  have z3 : (zH3 s.heap S1 S2 t1 t2).objs.size = s.heap.objs.size + 3 := by rw [Heap.size_push, z2]
  have z4 : (zH4 s.heap S1 S2 t1 t2).objs.size = s.heap.objs.size + 4 := by rw [Heap.size_push, z3]
  have z5 : (zH5 s.heap S1 S2 t1 t2).objs.size = s.heap.objs.size + 5 := by rw [Heap.size_push, z4]
  have fr : ∀ (tk : Tok) (S : Src), (S.iter tk).isFreed = false := fun tk S => by cases S <;> rfl
  have g5 : (zH5 s.heap S1 S2 t1 t2).get? (zH4 s.heap S1 S2 t1 t2).objs.size = some _ := Heap.get?_push_size _ rfl
  have g4 : (zH5 s.heap S1 S2 t1 t2).get? (zH3 s.heap S1 S2 t1 t2).objs.size = some _ := Heap.get?_push_of_some _ (Heap.get?_push_size _ rfl)
  have g3 : (zH5 s.heap S1 S2 t1 t2).get? (zH2 s.heap S1 S2 t1 t2).objs.size = some _ := Heap.get?_push_of_some _ (Heap.get?_push_of_some _ (Heap.get?_push_size _ rfl))
  have g2 : (zH5 s.heap S1 S2 t1 t2).get? (zH1 s.heap S1 t1).objs.size = some (S2.iter t2) := Heap.get?_push_of_some _ (Heap.get?_push_of_some _ (Heap.get?_push_of_some _ (Heap.get?_push_size _ (fr _ _))))
  have g1 : (zH5 s.heap S1 S2 t1 t2).get? s.heap.objs.size = some (S1.iter t1) := Heap.get?_push_of_some _ (Heap.get?_push_of_some _ (Heap.get?_push_of_some _ (Heap.get?_push_of_some _ (Heap.get?_push_size _ (fr _ _)))))
  show _ ∧ _
  rw [z2, z3, z4] at g5
  rw [z1, z2] at g3
  rw [z3] at g4
  rw [z1] at g2
  rw [z4]
  exact ⟨⟨_, g5, rfl⟩, h _ g5 g3 g4 (Src.iter_at g1) (Src.iter_at g2) z5 fun c o x =>
    Heap.get?_push_of_some _ (Heap.get?_push_of_some _ (Heap.get?_push_of_some _ (Heap.get?_push_of_some _ (Heap.get?_push_of_some _ x))))⟩
end
def Itz (K : PySem.W.Frag) (S1 S2 : Src) : It :=
  ⟨fun i H => ∃ xs ys, S1.its K H xs ∧ S2.its K H ys ∧ i < xs.length ∧ i < ys.length,
   fun i H v H' => ∃ p, H p = none ∧ v = .ref p ∧ ∀ xs ys, S1.its K H xs → S2.its K H ys → ∀ x y, xs[i]? = some x → ys[i]? = some y → H' = upd H p (.tup [x, y]),
   fun i H => ∃ xs ys, S1.its K H xs ∧ S2.its K H ys ∧ (xs.length ≤ i ∨ ys.length ≤ i)⟩
section
variable {X : Cx} {pins : List (Addr × Obj)} {σ : St} {H : Hp} {s : Shared}
theorem Inv.src (I : Inv X pins σ H s) : ∀ {S : Src} {xs : List V}, S.its X.K H xs → ∃ us, S.raw s.heap us ∧ S.many us = xs.length ∧ ∀ k u x, S.fit us k u → xs[k]? = some x → RelV x u
  | .l a, xs, h => by
    obtain ⟨its, rv, pl, _⟩ := I.list h
    refine ⟨its, pl.isList, rv.length.symm, fun k u x e1 e2 => ?_⟩
    obtain ⟨u', e3, r⟩ := rv.get e2
    rw [show its[k]? = some u from e1] at e3; cases e3
    exact r
  | .t a, xs, h => by
    obtain ⟨its, rv, pl, _⟩ := I.tuple h
    refine ⟨its, pl, rv.length.symm, fun k u x e1 e2 => ?_⟩
    obtain ⟨u', e3, r⟩ := rv.get e2
    rw [show its[k]? = some u from e1] at e3; cases e3
    exact r
  | .s z, xs, h => by
    refine ⟨[], trivial, ?_, fun k u x e1 e2 => ?_⟩
    · rw [show xs = _ from h, List.length_map]; simp [Src.many]
    · obtain ⟨c, tk, e3, e4⟩ := e1
      subst e4
      rw [show xs = _ from h, List.getElem?_map] at e2
      have e5 : z.cps.toList[k]? = some c := by simpa using e3
      rw [e5] at e2
      cases e2
      exact ⟨tk, rfl⟩
theorem Inv.src_off (I : Inv X pins σ H s) {b : Addr} (hb : FpOk X pins H b) : ∀ {S : Src} {xs : List V}, S.its X.K H xs → S.off b
  | .l a, xs, h => by
    rcases h with (h | ⟨ob, h⟩) | ⟨o, its, n, hk, _⟩
    · exact ne_of_none h hb.1
    · exact ne_of_none h hb.1
    · rintro rfl
      have e := I.ok.mod.kin a o hk
      rcases hb.2.2.2.1 with z | z
      · exact I.ok.noex a o e z
      · exact absurd (Nat.lt_of_lt_of_le (Heap.lt_size e) (Nat.le_trans I.ok.bsz z)) (Nat.lt_irrefl _)
  | .t a, xs, h => by
    rcases h with (h | ⟨ob, h⟩) | ⟨o, its, n, hk, _⟩
    · exact ne_of_none h hb.1
    · exact ne_of_none h hb.1
    · rintro rfl
      have e := I.ok.mod.kin a o hk
      rcases hb.2.2.2.1 with z | z
      · exact I.ok.noex a o e z
      · exact absurd (Nat.lt_of_lt_of_le (Heap.lt_size e) (Nat.le_trans I.ok.bsz z)) (Nat.lt_irrefl _)
  | .s z, xs, h => trivial
theorem Inv.zipped {fp : List Addr} {h' : Heap} {tk : Nat} {x y : V} {u v : Value} (I : Inv X pins σ H s) (hf : ∀ b ∈ fp, FpOk X pins H b) (rx : RelV x u) (ry : RelV y v)
    (hp : IsPair h' s.heap.objs.size u v) (hfh : ∀ b ∈ fp, ∃ o, h'.get? b = some o) (hk : ∀ c o, c ∉ fp → s.heap.get? c = some o → h'.get? c = some o) :
    Inv X pins σ (upd H s.heap.objs.size (.tup [x, y])) { s with heap := h', toks := tk } := by
  have hn : H s.heap.objs.size = none := I.fresh
  have ne : ∀ b ob, s.heap.get? b = some ob → b ≠ s.heap.objs.size := fun b ob e => Nat.ne_of_lt (Heap.lt_size e)
  have nt : ∀ b u, H b = some u → b ≠ s.heap.objs.size := fun b u e => ne_of_none e hn
  have nfp : ∀ b u, H b = some u → b ∉ fp := fun b u e hb => by rw [(hf b hb).1] at e; cases e
  refine I.step (g' := s.gens) (d' := s.drawn) (ch := fp) (fun b hb => ⟨(hf b hb).2.2.2.1, (hf b hb).2.1, (hf b hb).2.2.2.2.1, (hf b hb).2.2.2.2.2⟩)
    (fun b ob _ _ hc e _ => hk b ob hc e) (fun b ob _ _ hc e _ => ⟨ob.slots, hk b ob hc e⟩) (fun b ob _ e n => by rw [upd_ne (ne b ob e)]; exact n) (fun b ob hc e => ⟨ob, hk b ob hc e⟩)
    (fun b xs e => by rw [upd_ne (nt b _ e)]; exact e) (fun b ob u e => by rw [upd_ne (nt b _ e)]; exact e) (fun b ps e => ⟨#[], by rw [upd_ne (nt b _ e), e]; simp⟩) (fun m hm => ?_) (fun b ub e => ?_) I.bare
  · obtain ⟨ob, es, ep, ho, r⟩ := hm
    exact ⟨ob, es, ep, hk _ ob (fun z => (hf _ z).2.1 rfl) ho, r⟩
  · by_cases hb : b = s.heap.objs.size
    · subst hb
      rw [upd_same] at e; cases e
      exact ⟨by show 2 ≤ sizeLine; decide, [u, v], .cons rx (.cons ry .nil), ⟨_, hp, rfl, _, rfl⟩⟩
    · rw [upd_ne hb] at e
      refine (I.hok b ub e).stay (fun c w' hc q => hk c w' ?_ q) (fun c q => by rw [upd_ne (nt c _ q)]; exact q) fun c xs q => by rw [upd_ne (nt c _ q)]; exact q
      rcases hc with z | z
      · rw [z]; exact nfp b ub e
      · exact nfp c _ z
end
theorem turn_zip {P : Program} {w : World} {K : PySem.W.Frag} {elts : List Expr} {x1 : Nat} {tpos : Pos} {S1 S2 : Src} {z TI TO i1 i2 : Addr}
    (d1 : TI ≠ z) (d2 : TO ≠ z) (d3 : i1 ≠ z) (d4 : i2 ≠ z) (d5 : TI ≠ TO) (d6 : TI ≠ i1) (d7 : TI ≠ i2) (d8 : TO ≠ i1) (d9 : TO ≠ i2) (d10 : i1 ≠ i2) :
    Turn P w K (.Tuple elts x1 tpos) (Itz K S1 S2) [z, TI, TO, i1, i2] z
      (fun i h => IsZip h z TI TO .none ∧ IsPair h TI (.ref i1) (.ref i2) ∧ (∃ a b, IsPair h TO a b) ∧ S1.at h i1 i ∧ S2.at h i2 i) where
  mem := by simp
  obj := fun i h st b hb => by
    obtain ⟨hz, hTI, ⟨a, b', hTO⟩, h1, h2⟩ := st
    have nf : ∀ {o : Obj} {vs : Array Value}, o.data = .fields vs → ∀ v, o.data ≠ .cell v := fun d v e => by rw [d] at e; cases e
    simp only [List.mem_cons, List.not_mem_nil, or_false] at hb
    rcases hb with rfl | rfl | rfl | rfl | rfl
    · exact ⟨_, hz, nf rfl⟩
    · exact ⟨_, hTI, fun v e => by cases e⟩
    · exact ⟨_, hTO, fun v e => by cases e⟩
    · obtain ⟨o, vs, e, d⟩ := Src.at_obj h1; exact ⟨o, e, nf d⟩
    · obtain ⟨o, vs, e, d⟩ := Src.at_obj h2; exact ⟨o, e, nf d⟩
  keep := fun i h h' st k => by
    obtain ⟨hz, hTI, ⟨a, b', hTO⟩, h1, h2⟩ := st
    exact ⟨k z (by simp) _ hz, k TI (by simp) _ hTI, ⟨a, b', k TO (by simp) _ hTO⟩, Src.at_keep (fun o e => k i1 (by simp) o e) h1, Src.at_keep (fun o e => k i2 (by simp) o e) h2⟩
  item := by
    intro X hP hw hK hc i pins s σ H E I hf st hg
    subst hP hw hK
    obtain ⟨hz, hTI, ⟨a, b', hTO⟩, h1, h2⟩ := st
    obtain ⟨xs, ys, q1, q2, l1, l2⟩ := hg
    obtain ⟨us1, r1, m1, f1⟩ := I.src q1
    obtain ⟨us2, r2, m2, f2⟩ := I.src q2
    have hfz := hf z (by simp)
    have D : ZipOff z TI TO i1 i2 S1 S2 := ⟨d1, d2, d3, d4, d5, d6, d7, d8, d9, d10, I.src_off hfz q1, I.src_off (hf TO (by simp)) q1, I.src_off (hf i1 (by simp)) q1, I.src_off (hf i2 (by simp)) q1,
      I.src_off hfz q2, I.src_off (hf TO (by simp)) q2, I.src_off (hf i1 (by simp)) q2, I.src_off (hf i2 (by simp)) q2⟩
    refine zip_step D hz hTI hTO h1 h2 r1 r2 (by omega) (by omega) fun h' tk x y fx fy a1 a2 a3 a4 a5 a6 a7 => ?_
    have rx := f1 i x _ fx (List.getElem?_eq_getElem l1)
    have ry := f2 i y _ fy (List.getElem?_eq_getElem l2)
    refine ⟨_, rfl, wpAny_letOwnedTupleGo_zip a1 fun h'' hz'' hs'' => ?_⟩
    have hs' : Heap.SameBut z h' h'' := hs''
    have hTI' : IsPair h' TI (.ref i1) (.ref i2) := a7 _ _ d1 d5 d6 d7 hTI
    have lt : ∀ {b : Addr} {o : Obj}, s.heap.get? b = some o → s.heap.objs.size ≠ b := fun e => Nat.ne_of_gt (Heap.lt_size e)
    have hzs : s.heap.objs.size ≠ z := lt hz
    have I2 : Inv X pins σ (upd H s.heap.objs.size (.tup [xs[i], ys[i]])) { s with heap := h'', toks := tk } := by
      refine I.zipped (fp := [z, TI, TO, i1, i2]) hf rx ry (hs'.extBut _ _ hzs a5) (fun b hb => ?_) fun c o hc e => ?_
      · simp only [List.mem_cons, List.not_mem_nil, or_false] at hb
        rcases hb with rfl | rfl | rfl | rfl | rfl
        · exact ⟨_, hz''⟩
        · exact ⟨_, hs'.extBut _ _ d1 hTI'⟩
        · exact ⟨_, hs'.extBut _ _ d2 a2⟩
        · obtain ⟨o, vs, e, _⟩ := Src.at_obj a3; exact ⟨o, hs'.extBut _ _ d3 e⟩
        · obtain ⟨o, vs, e, _⟩ := Src.at_obj a4; exact ⟨o, hs'.extBut _ _ d4 e⟩
      · simp only [List.mem_cons, List.not_mem_nil, or_false, not_or] at hc
        exact hs'.extBut _ _ hc.1 (a7 c o hc.1 hc.2.2.1 hc.2.2.2.1 hc.2.2.2.2 e)
    refine ⟨.ref s.heap.objs.size, _, I2, rfl, ⟨s.heap.objs.size, I.fresh, rfl, fun xs' ys' w1 w2 x' y' e1 e2 => ?_⟩, ⟨hz'', hs'.extBut _ _ d1 hTI', ⟨_, _, hs'.extBut _ _ d2 a2⟩, Src.at_keep (fun o e => hs'.extBut _ o d3 e) a3, Src.at_keep (fun o e => hs'.extBut _ o d4 e) a4⟩, fun b hb => ?_⟩
    · have same : ∀ {S : Src} {us vs : List V}, S.its X.K H us → S.its X.K H vs → us = vs := fun {S us vs} p q => by
        cases S with
        | l a => exact I.list_inj p q
        | t a => exact I.tuple_inj p q
        | s z => rw [show us = _ from p, show vs = _ from q]
      have e3 := same w1 q1
      have e4 := same w2 q2
      subst e3; subst e4
      rw [List.getElem?_eq_getElem l1] at e1
      rw [List.getElem?_eq_getElem l2] at e2
      cases e1; cases e2
      rfl
    · rw [upd_ne (fun e => by
        obtain ⟨o, e1, _⟩ : ∃ o, s.heap.get? b = some o ∧ True := by
          simp only [List.mem_cons, List.not_mem_nil, or_false] at hb
          rcases hb with rfl | rfl | rfl | rfl | rfl
          · exact ⟨_, hz, trivial⟩
          · exact ⟨_, hTI, trivial⟩
          · exact ⟨_, hTO, trivial⟩
          · obtain ⟨o, vs, e, _⟩ := Src.at_obj h1; exact ⟨o, e, trivial⟩
          · obtain ⟨o, vs, e, _⟩ := Src.at_obj h2; exact ⟨o, e, trivial⟩
        exact lt e1 e.symm)]
      exact (hf b hb).1
  done := by
    intro X hP hw hK hc i pins s σ H E I hf st hg
    subst hP hw hK
    obtain ⟨hz, hTI, ⟨a, b', hTO⟩, h1, h2⟩ := st
    obtain ⟨xs, ys, q1, q2, l⟩ := hg
    obtain ⟨us1, r1, m1, f1⟩ := I.src q1
    obtain ⟨us2, r2, m2, f2⟩ := I.src q2
    have hfz := hf z (by simp)
    have D : ZipOff z TI TO i1 i2 S1 S2 := ⟨d1, d2, d3, d4, d5, d6, d7, d8, d9, d10, I.src_off hfz q1, I.src_off (hf TO (by simp)) q1, I.src_off (hf i1 (by simp)) q1, I.src_off (hf i2 (by simp)) q1,
      I.src_off hfz q2, I.src_off (hf TO (by simp)) q2, I.src_off (hf i1 (by simp)) q2, I.src_off (hf i2 (by simp)) q2⟩
    refine zip_stop (I.ok.hd hc) D hz hTI hTO h1 h2 r1 r2 (by omega) fun h' tk hk => ⟨rfl, ?_⟩
    have kf : ∀ c o, c ∉ [z, TI, TO, i1, i2] → s.heap.get? c = some o → h'.get? c = some o := fun c o hc e => by
      simp only [List.mem_cons, List.not_mem_nil, or_false, not_or] at hc
      exact hk c o hc.1 hc.2.2.1 hc.2.2.2.1 hc.2.2.2.2 e
    have nfp : ∀ b u, H b = some u → b ∉ [z, TI, TO, i1, i2] := fun b u e hb => by rw [(hf b hb).1] at e; cases e
    refine I.step (g' := s.gens) (d' := s.drawn) (ch := [z, TI, TO, i1, i2]) (fun b hb => ⟨(hf b hb).2.2.2.1, (hf b hb).2.1, (hf b hb).2.2.2.2.1, (hf b hb).2.2.2.2.2⟩)
      (fun b ob _ _ hc e _ => kf b ob hc e) (fun b ob _ _ hc e _ => ⟨ob.slots, kf b ob hc e⟩) (fun b ob _ e n => n) (fun b ob hc e => ⟨ob, kf b ob hc e⟩)
      (fun b xs e => e) (fun b ob u e => e) (fun b ps e => ⟨#[], by rw [e]; simp⟩) (fun m hm => ?_) (fun b ub e => ?_) I.bare
    · obtain ⟨ob, es, ep, ho, r⟩ := hm
      exact ⟨ob, es, ep, kf _ ob (fun z => (hf _ z).2.1 rfl) ho, r⟩
    · refine (I.hok b ub e).stay (fun c w' hc q => kf c w' ?_ q) (fun c q => q) fun c xs q => q
      rcases hc with z' | z'
      · rw [z']; exact nfp b ub e
      · exact nfp c _ z'
  self := fun _ _ _ _ _ st h => wpAny_pyIter_zip st.1 h
def iZip (K : PySem.W.Frag) (ta : TA) : TI := fun σ H R => ta σ H fun vs H1 => ∃ S1 S2 xs ys, vs = [Src.val S1, Src.val S2] ∧ S1.its K H1 xs ∧ S2.its K H1 ys ∧ R (Itz K S1 S2) H1
theorem pi_zip {X : Cx} {a b : Expr} {ta : TA} {p pos : Pos} {elts : List Expr} {x1 : Nat} {tpos : Pos} (hg : Gl X "zip") (hm : X.mg "zip" = none) (ha : PA X [a, b] ta)
    (hs : starEach [a, b] X.env = [(false, eval a X.env), (false, eval b X.env)] := by rfl) (hs2 : starEach [b] X.env = [(false, eval b X.env)] := by rfl) :
    PI X (.Tuple elts x1 tpos) (.Call (.Name "zip" p) [a, b] [] pos) (iZip X.K ta) := by
  intro pins s σ H R I h
  refine Call_ (ld_blt I hg hm boot_zip (PyProof.Rows.callWith_type1 (thn (ha pos pins s σ H _ I h) fun us s1 ⟨vs, H1, I1, r1, q1⟩ => ?_) (by rw [hs, hs2]) (by rw [hs2]; rfl)))
  obtain ⟨S1, S2, xs, ys, e, y1, y2, q⟩ := q1
  subst e
  obtain ⟨u1, u2, rfl, w1, w2⟩ := r1.two
  have vo : ∀ {S : Src} {u : Value}, RelV S.val u → ∃ tk, u = S.value tk := fun {S u} r => by
    cases S with
    | l a => exact ⟨0, r⟩
    | t a => exact ⟨0, r⟩
    | s z => obtain ⟨tk, e⟩ := r; exact ⟨tk, e⟩
  obtain ⟨t1, rfl⟩ := vo w1
  obtain ⟨t2, rfl⟩ := vo w2
  obtain ⟨us1, r1, m1, f1⟩ := I1.src y1
  obtain ⟨us2, r2, m2, f2⟩ := I1.src y2
  refine zip_call r1 r2 fun h' hz hTI hTO a1 a2 a3 hk => wpAny_pyIter_zip hz ?_
  have I2 : Inv X pins σ H1 { s1 with heap := h' } := I1.kept (t' := s1.toks) hk
  have n := s1.heap.objs.size
  refine ⟨_, _, _, _, H1, rfl, I2, turn_zip (S1 := S1) (S2 := S2) (z := s1.heap.objs.size + 4) (TI := s1.heap.objs.size + 2) (TO := s1.heap.objs.size + 3) (i1 := s1.heap.objs.size) (i2 := s1.heap.objs.size + 1)
    (Nat.ne_of_lt (Nat.add_lt_add_left (by decide) _)) (Nat.ne_of_lt (Nat.add_lt_add_left (by decide) _)) (Nat.ne_of_lt (Nat.lt_add_of_pos_right (by decide))) (Nat.ne_of_lt (Nat.add_lt_add_left (by decide) _))
    (Nat.ne_of_lt (Nat.add_lt_add_left (by decide) _)) (Nat.ne_of_gt (Nat.lt_add_of_pos_right (by decide))) (Nat.ne_of_gt (Nat.add_lt_add_left (by decide) _)) (Nat.ne_of_gt (Nat.lt_add_of_pos_right (by decide)))
    (Nat.ne_of_gt (Nat.add_lt_add_left (by decide) _)) (Nat.ne_of_lt (Nat.lt_add_of_pos_right (by decide))), ⟨hz, hTI, ⟨_, _, hTO⟩, a1, a2⟩, fun b hb => ?_, q⟩
  have hb' : s1.heap.objs.size ≤ b := by
    simp only [List.mem_cons, List.not_mem_nil, or_false] at hb
    rcases hb with rfl | rfl | rfl | rfl | rfl
    · exact Nat.le_add_right _ 4
    · exact Nat.le_add_right _ 2
    · exact Nat.le_add_right _ 3
    · exact Nat.le_refl _
    · exact Nat.le_add_right _ 1
  exact I1.fpOk hb' (I1.hok.fresh hb')
end L2
set_option Elab.async false
set_option linter.all false
set_option maxRecDepth 100000
namespace L2
open PySem PySem.Spec PyProof.Rows
section
variable {X : Cx} (K : PySem.W.Frag)
theorem ixL (h : X.K = K := by rfl) : IxR X (rIxL K) := by subst h; exact ix_list
theorem ixT (h : X.K = K := by rfl) : IxR X (rIxT K) := by subst h; exact ix_tup
theorem slL (h : X.K = K := by rfl) : SlR X (rSlL K) := by subst h; exact sl_list
def rLenQ : List V → Hp → VK → Prop := fun xs H Q => ∃ p ys, xs = [.ref p] ∧ (SqL K H p ys ∨ SqT K H p ys) ∧ Q (.int ys.length) H
theorem lenQ (h : X.K = K := by rfl) : CallR X (.builtin "len") (rLenQ K) := by subst h; exact call_len_seq
theorem isiQ (h : X.K = K := by rfl) : CallR X (.builtin "isinstance") (rIsi K) := by subst h; exact call_isi
theorem isiTQ (h : X.K = K := by rfl) : CallR X (.builtin "isinstance") (rIsiT K) := by subst h; exact call_isiT
def rAllQ : List V → Hp → VK → Prop := fun xs H Q => ∃ (p : Addr) (bs : List Bool), xs = [.ref p] ∧ SqL K H p (bs.map V.bl) ∧ Q (.bl (bs.all id)) H
theorem allQ (hc : X.calm = true := by rfl) (h : X.K = K := by rfl) : CallR X (.builtin "all") (rAllQ K) := by subst h; exact call_all hc
def rSrtI : List V → Hp → VK → Prop := fun xs H Q => ∃ (p : Addr) (ns : List Int), xs = [.ref p] ∧ SqL K H p (ns.map V.int) ∧ ns.length < 64 ∧
    ∀ (l : Addr) (ns' : List Int), H l = none → ns'.Perm ns → ns'.Pairwise (· ≤ ·) → Q (.ref l) (upd H l (.lst (ns'.map V.int)))
def rSrtS : List V → Hp → VK → Prop := fun xs H Q => ∃ (p : Addr) (ss : List Str), xs = [.ref p] ∧ SqL K H p (ss.map V.str) ∧ ss.length < 64 ∧
    ∀ (l : Addr) (ss' : List Str), H l = none → ss'.Perm ss → sortedS ss' = true → Q (.ref l) (upd H l (.lst (ss'.map V.str)))
def rJoin : V → List V → Hp → VK → Prop := fun x vs H Q => ∃ (sep : Str) (p : Addr) (ys : List Str), x = .str sep ∧ vs = [.ref p] ∧ SqL K H p (ys.map V.str) ∧ (ys.map (·.length)).sum + ys.length * sep.length ≤ 16777216 ∧ Q (.str (Txt.join sep ys)) H
theorem iL {tg l : Expr} {tl : TE} (hl : PE X l tl) (h : X.K = K := by rfl) : PI X tg l (iList K tl) := by subst h; exact pi_list hl
theorem iT {tg l : Expr} {tl : TE} (hl : PE X l tl) (h : X.K = K := by rfl) : PI X tg l (iTup K tl) := by subst h; exact pi_tup hl
theorem gT {es : List Expr} {k : Nat} {t : TGs} {n : Nat} {pos : Pos} (h : PGs X es t) (hK : X.K = K := by rfl) (hc : X.calm = true := by rfl)
    (hn : (assignEach es X.env).length = n := by rfl) (hst : (assignEach es X.env).findIdx? (·.1) = none := by rfl) : PG X (.Tuple es k pos) (gTup K n t) := by subst hK; exact pg_tup hc h hn hst
theorem iZ {a b : Expr} {ta : TA} {p pos : Pos} {elts : List Expr} {x1 : Nat} {tpos : Pos} (hm : X.mg "zip" = none) (ha : PA X [a, b] ta) (hg : Gl X "zip" := by rfl) (hK : X.K = K := by rfl)
    (hs : starEach [a, b] X.env = [(false, eval a X.env), (false, eval b X.env)] := by rfl) (hs2 : starEach [b] X.env = [(false, eval b X.env)] := by rfl) :
    PI X (.Tuple elts x1 tpos) (.Call (.Name "zip" p) [a, b] [] pos) (iZip K ta) := by subst hK; exact pi_zip hg hm ha hs hs2
end
structure Df (P : Program) (w : World) (K : PySem.W.Frag) (mg : Str → Option Value) (base : Heap) (k : Nat) (x : Str) (ps : List Str) (sp : Sp) : Prop where
  ex : ∃ f fd, FnOk P w K mg base CX0 k f fd ps sp ∧ mg x = some (.ref f) ∧ PySem.W.keepIn K (.ref f) = true ∧ Binds K fd ps []
section
variable {P : Program} {w : World} {K : PySem.W.Frag} {mg : Str → Option Value} {base : Heap}
structure Top (K : PySem.W.Frag) (mg : Str → Option Value) (x : Str) (st : Stmt) (ps : List Str) : Prop where
  ex : ∃ f fd, Fun K x x st f fd ∧ mg x = some (.ref f) ∧ Binds K fd ps []
theorem Top.df {x : Str} {st : Stmt} {N ps : List Str} {k : Nat} {sp : Sp} (T : Top K mg x st ps) (S : FnScope N ps (defScope st)) (len : ∀ vs H Q E, sp vs H Q E → vs.length = ps.length)
    (hbody : ∀ (cdv : Value) (f : Addr) (A : Around) (outer : List Env) (s : Shared) (H : Hp) (vs : List V) (Q : VK) (E : XK), Room k (A.deeper (envOfC x (defScope st) s.heap.objs.size f cdv)) → sp vs H Q E →
      ∃ t, PSs (cxOf CX0 P w K mg base N x (defScope st) f cdv A outer s H E).nox (defBody st) t ∧ t { nx := fun _ H' => Q .non H', rt := Q } (start N vs) H) : Df P w K mg base (k + 1) x ps sp := by
  obtain ⟨f, fd, F, m, b⟩ := T.ex
  exact ⟨f, fd, F.ok S len (fun cdv A outer s H vs Q E hr h => hbody cdv f A outer s H vs Q E hr h), m, F.kp, b⟩
end
section
variable {X : Cx} {k j : Nat} {x : Str} {ps : List Str} {sp : Sp} {e : Expr} {es : List Expr} {t : TA} {p pos : Pos}
theorem pe_df (F : Df X.prog X.w X.K X.mg X.base k x ps sp) (hr : Room j X.A) (ha : PA X (e :: es) t) (hjk : k ≤ j := by decide) (hg : Gl X x := by rfl) (hdb : (x == ("__debug__" : Str)) = false := by decide)
    (he : starEach (e :: es) X.env = (false, eval e X.env) :: starEach es X.env := by rfl) (hpl : (backTo pos (starEach es X.env)).any (·.1) = false := by rfl) :
    PE X (.Call (.Name x p) (e :: es) [] pos) (tCall sp [] E0 t) := by
  obtain ⟨f, fd, F, m, kp, b⟩ := F.ex
  exact pe_call F (hr.mono hjk) hg m kp b .nil pass0 ha hdb he hpl
theorem pe_ty {T : String} (hm : X.mg x = none) (hv : bootBuiltins x = some (.type T)) (hg : Gl X x := by rfl) (hn : x ≠ "__name__" := by decide) (hd : (x == ("__debug__" : Str)) = false := by decide) : PE X (.Name x pos) (tC (.ty T)) :=
  pe_bltn hg hm hv rfl hn hd
end
theorem comp_range {lo : Int} {n k : Nat} {D : Addr} {σ : St} {H1 : Hp} {g : TG} {te : TE} {Q : VK} (Pv : Nat → List V → St → Hp → Prop) (h0 : Pv 0 [] (σ ++ List.replicate k none) (upd H1 D (.lst [])))
    (hs : ∀ i ys σ H, i < n → Pv i ys σ H → g (.int (lo + i)) σ H fun σ4 H4 => te σ4 H4 fun y H6 => H6 D = some (.lst ys) ∧ ys.length < sizeLine ∧ Pv (i + 1) (ys ++ [y]) σ4 (upd H6 D (.lst (ys ++ [y]))))
    (hd : ∀ ys σ H, Pv n ys σ H → Q (.ref D) H) : CompGo (Itr lo n) D k σ H1 g tYes te Q := by
  refine ⟨fun i m ys σ H => m = n - i ∧ i ≤ n ∧ Pv i ys σ H, ⟨n, by simp, Nat.zero_le _, h0⟩, ?_⟩
  rintro i m ys σ H ⟨rfl, hi, p⟩
  by_cases hlt : i < n
  · refine .inr ⟨hlt, Pv (i + 1), fun ys' σ' H' p' => ⟨n - (i + 1), by omega, rfl, hlt, p'⟩, fun x H' y => ?_⟩
    obtain ⟨e, y⟩ := y
    subst e y
    simp only [tYes, ↓reduceIte]
    exact hs i ys σ _ hlt p
  · have e : i = n := by omega
    subst e
    exact .inl ⟨Nat.le_refl _, hd ys σ H p⟩
theorem comp_zip {K : PySem.W.Frag} {S1 S2 : Src} {xs ys : List V} {k : Nat} {D : Addr} {σ : St} {H1 : Hp} {g : TG} {te : TE} {Q : VK} (Pv : Nat → List V → St → Hp → Prop) (h0 : Pv 0 [] (σ ++ List.replicate k none) (upd H1 D (.lst [])))
    (hl : ∀ i zs σ H, Pv i zs σ H → S1.its K H xs ∧ S2.its K H ys)
    (hs : ∀ i zs σ H x y p, xs[i]? = some x → ys[i]? = some y → Pv i zs σ H → H p = none → g (.ref p) σ (upd H p (.tup [x, y])) fun σ4 H4 => te σ4 H4 fun z H6 => H6 D = some (.lst zs) ∧ zs.length < sizeLine ∧ Pv (i + 1) (zs ++ [z]) σ4 (upd H6 D (.lst (zs ++ [z]))))
    (hd : ∀ zs σ H, Pv (min xs.length ys.length) zs σ H → Q (.ref D) H) : CompGo (Itz K S1 S2) D k σ H1 g tYes te Q := by
  refine ⟨fun i m zs σ H => m = min xs.length ys.length - i ∧ i ≤ min xs.length ys.length ∧ Pv i zs σ H, ⟨min xs.length ys.length, by simp, Nat.zero_le _, h0⟩, ?_⟩
  rintro i m zs σ H ⟨rfl, hi, p⟩
  obtain ⟨q1, q2⟩ := hl i zs σ H p
  by_cases hlt : i < min xs.length ys.length
  · have l1 : i < xs.length := by omega
    have l2 : i < ys.length := by omega
    refine .inr ⟨⟨xs, ys, q1, q2, l1, l2⟩, Pv (i + 1), fun ys' σ' H' p' => ⟨min xs.length ys.length - (i + 1), by omega, rfl, hlt, p'⟩, fun x H' y => ?_⟩
    obtain ⟨r, hr, rfl, e⟩ := y
    have e' := e xs ys q1 q2 _ _ (List.getElem?_eq_getElem l1) (List.getElem?_eq_getElem l2)
    subst e'
    simp only [tYes, ↓reduceIte]
    exact hs i zs σ H _ _ r (List.getElem?_eq_getElem l1) (List.getElem?_eq_getElem l2) p hr
  · have e : i = min xs.length ys.length := by omega
    refine .inl ⟨⟨xs, ys, q1, q2, by omega⟩, hd zs σ H (e ▸ p)⟩
end L2
set_option Elab.async false
set_option linter.all false
set_option maxRecDepth 100000
namespace L2
open PySem PySem.Spec PyProof.Rows
section
variable {X : Cx} {N N' : List Str} {o c : Scope} {x : Str} {pos : Pos} {C : Addr} {s : Shared} {H : Hp} {fp : List Addr}
theorem comp_local (S : CompSc N N' o c) (ho : X.env.scope = o) (hl : c.names.lookup x = some .local) : (compCx X c N' C s H fp).env.scope.names.lookup x = some .local := by
  have e := comp_kind (X := X) S ho (clOf X.env.cells c.names []) C x
  rw [hl] at e
  exact e
theorem comp_glob (S : CompSc N N' o c) (ho : X.env.scope = o) (hl : c.names.lookup x = some .globalImplicit) : Gl (compCx X c N' C s H fp) x := by
  have e := comp_kind (X := X) S ho (clOf X.env.cells c.names []) C x
  rw [hl] at e
  exact e
theorem comp_vis (S : CompSc N N' o c) (ho : X.env.scope = o) (hl : c.names.lookup x = some .free) : Vis (compCx X c N' C s H fp).env.scope x := by
  have e := comp_kind (X := X) S ho (clOf X.env.cells c.names []) C x
  rw [hl] at e
  have e' : (compCx X c N' C s H fp).env.scope.names.lookup x = if X.env.kindOf x = some .cell then some NameKind.cell else some NameKind.free := e
  by_cases z : X.env.kindOf x = some .cell
  · rw [if_pos z] at e'; exact .inr (.inl e')
  · rw [if_neg z] at e'; exact .inr (.inr e')
theorem cv (i : Nat) (S : CompSc N N' o c) (ho : X.env.scope = o) (hl : c.names.lookup x = some .free) (hN : N'[i]? = some x := by rfl) (hd : (x == ("__debug__" : Str)) = false := by decide) (hcd : (x == ("__classdict__" : Str)) = false := by decide) :
    PE (compCx X c N' C s H fp) (.Name x pos) (tVar i) := pe_var hN (comp_vis S ho hl) hd hcd
theorem cw (i : Nat) (S : CompSc N N' o c) (ho : X.env.scope = o) (hl : c.names.lookup x = some .local) (hN : N'[i]? = some x := by rfl) (hd : (x == ("__debug__" : Str)) = false := by decide) (hcd : (x == ("__classdict__" : Str)) = false := by decide) :
    PE (compCx X c N' C s H fp) (.Name x pos) (tVar i) := pe_var hN (.inl (comp_local S ho hl)) hd hcd
theorem cg (i : Nat) (S : CompSc N N' o c) (ho : X.env.scope = o) (hl : c.names.lookup x = some .local) (hi : N'[i]? = some x := by rfl) : PG (compCx X c N' C s H fp) (.Name x pos) (gName i) :=
  pg_name S.nd hi (.inl (comp_local S ho hl)) (.inr (comp_local S ho hl))
end
end L2
set_option Elab.async false
set_option linter.all false
set_option maxRecDepth 100000
namespace L2
open PySem PySem.Spec PyProof.Rows
mutual
inductive DV (K : PySem.W.Frag) (H : Hp) : V → PyData → Prop where
  | non : DV K H .non .none
  | bl (b : Bool) : DV K H (.bl b) (.bool b)
  | int (i : Int) : DV K H (.int i) (.int i)
  | str (s : Str) : DV K H (.str s) (.str s)
  | lst {a : Addr} {xs : List V} {ds : List PyData} : SqL K H a xs → DVs K H xs ds → DV K H (.ref a) (.list ds)
  | tup {a : Addr} {xs : List V} {ds : List PyData} : SqT K H a xs → DVs K H xs ds → DV K H (.ref a) (.tuple ds)
inductive DVs (K : PySem.W.Frag) (H : Hp) : List V → List PyData → Prop where
  | nil : DVs K H [] []
  | cons {x : V} {d : PyData} {xs : List V} {ds : List PyData} : DV K H x d → DVs K H xs ds → DVs K H (x :: xs) (d :: ds)
end
section
variable {X : Cx} {pins : List (Addr × Obj)} {σ : St} {H : Hp} {s : Shared}
mutual
theorem Inv.reads (I : Inv X pins σ H s) : ∀ {x : V} {d : PyData} {u : Value}, DV X.K H x d → RelV x u → ∃ as, Reads s.heap u d as
  | _, _, _, .non, r => by cases r; exact ⟨_, .none⟩
  | _, _, _, .bl b, r => by cases r; exact ⟨_, .bool b⟩
  | _, _, _, .int i, r => by obtain ⟨t, rfl⟩ := r; exact ⟨_, .int i t⟩
  | _, _, _, .str z, r => by obtain ⟨t, rfl⟩ := r; exact ⟨_, .str z t⟩
  | _, _, _, .lst h hs, r => by
    cases r
    obtain ⟨its, rv, ⟨o, n, e, hc, _, hd⟩, _⟩ := I.list h
    obtain ⟨as, q⟩ := Inv.readsAll I hs rv
    exact ⟨_, reads_list_at e hc hd (by simpa using q)⟩
  | _, _, _, .tup h hs, r => by
    cases r
    obtain ⟨its, rv, ⟨o, e, hc, n, hd⟩, _⟩ := I.tuple h
    obtain ⟨as, q⟩ := Inv.readsAll I hs rv
    exact ⟨_, reads_tuple_at e hc hd (by simpa using q)⟩
theorem Inv.readsAll (I : Inv X pins σ H s) : ∀ {xs : List V} {ds : List PyData} {us : List Value}, DVs X.K H xs ds → Vals xs us → ∃ as, ReadsAll s.heap us ds as
  | _, _, _, .nil, r => by cases r; exact ⟨_, .nil⟩
  | _, _, _, .cons h hs, r => by
    cases r with
    | cons r1 r2 =>
      obtain ⟨as, q1⟩ := Inv.reads I h r1
      obtain ⟨bs, q2⟩ := Inv.readsAll I hs r2
      exact ⟨_, .cons q1 q2⟩
end
def rEqD (K : PySem.W.Frag) (neg : Bool) : R2 := fun x y H Q => ∃ d e, DV K H x d ∧ DV K H y e ∧ SeqAt.shaped d = true ∧ SeqAt.shaped e = true ∧ Q (.bl (if neg then !PyData.eqv d e else PyData.eqv d e)) H
theorem op_neD (hu : X.A.units + 64 < cLine) : OpR X (compareOp .NotEq) (rEqD X.K true) := by
  intro pins s σ H x y v u Q I rx ry h
  obtain ⟨d, e, h1, h2, s1, s2, q⟩ := h
  obtain ⟨as, r1⟩ := I.reads h1 rx
  obtain ⟨bs, r2⟩ := I.reads h2 ry
  exact ne_dataH r1 r2 s1 s2 hu ⟨.bl _, H, I, rfl, q⟩
end
theorem neD {X : Cx} (K : PySem.W.Frag) {k : Nat} (hr : Room k X.A) (h : X.K = K := by rfl) : OpR X (compareOp .NotEq) (rEqD K true) := by subst h; exact op_neD hr.units
mutual
theorem DV.mono {K : PySem.W.Frag} {H H' : Hp} (s : Same H H') : ∀ {x : V} {d : PyData}, DV K H x d → DV K H' x d
  | _, _, .non => .non
  | _, _, .bl b => .bl b
  | _, _, .int i => .int i
  | _, _, .str z => .str z
  | _, _, .lst h hs => .lst (s.seq h) (DVs.mono s hs)
  | _, _, .tup h hs => .tup (by
      rcases h with (h | ⟨ob, h⟩) | h
      · exact .inl (.inl (s _ _ h))
      · exact .inl (.inr ⟨ob, s _ _ h⟩)
      · exact .inr h) (DVs.mono s hs)
theorem DVs.mono {K : PySem.W.Frag} {H H' : Hp} (s : Same H H') : ∀ {xs : List V} {ds : List PyData}, DVs K H xs ds → DVs K H' xs ds
  | _, _, .nil => .nil
  | _, _, .cons h hs => .cons (DV.mono s h) (DVs.mono s hs)
end
end L2
set_option Elab.async false
set_option linter.all false
set_option maxRecDepth 100000
namespace L2
open PySem PySem.Spec PyProof.Rows
def Ite (K : PySem.W.Frag) (a : Addr) : It :=
  ⟨fun i H => ∃ xs, SqL K H a xs ∧ i < xs.length,
   fun i H v H' => ∃ p, H p = none ∧ v = .ref p ∧ ∀ xs, SqL K H a xs → ∀ x, xs[i]? = some x → H' = upd H p (.tup [.int i, x]),
   fun i H => ∃ xs, SqL K H a xs ∧ xs.length ≤ i⟩
theorem turn_enum {P : Program} {w : World} {K : PySem.W.Frag} {elts : List Expr} {x1 : Nat} {tpos : Pos} {a e it : Addr} (hne : e ≠ it) :
    Turn P w K (.Tuple elts x1 tpos) (Ite K a) [e, it] e (fun i h => (∃ old, IsEnum h e it i old) ∧ h.IsListIter it a i) where
  mem := by simp
  obj := fun i h st b hb => by
    obtain ⟨⟨old, he⟩, o, hit, hc, hd⟩ := st
    simp only [List.mem_cons, List.not_mem_nil, or_false] at hb
    rcases hb with rfl | rfl
    · exact ⟨_, he, fun v z => by cases z⟩
    · exact ⟨o, hit, fun v z => by rw [hd] at z; cases z⟩
  keep := fun i h h' st k => by
    obtain ⟨⟨old, he⟩, hit⟩ := st
    exact ⟨⟨old, k e (by simp) _ he⟩, hit.at fun o q => k it (by simp) o q⟩
  item := by
    intro X hP hw hK hc i pins s σ H E I hf st hg
    subst hP hw hK
    obtain ⟨⟨old, he⟩, hit⟩ := st
    obtain ⟨xs, q1, l1⟩ := hg
    obtain ⟨its, rv, pl, _⟩ := I.list q1
    obtain ⟨u, hu, ru⟩ := rv.get (List.getElem?_eq_getElem l1)
    refine wpAny_pyNext_enum_item he hit pl.isList (x := u) (by simpa using hu) hne fun h' a1 a2 a3 a4 a5 => ?_
    have lt : ∀ {b : Addr} {o : Obj}, s.heap.get? b = some o → s.heap.objs.size ≠ b := fun q => Nat.ne_of_gt (Heap.lt_size q)
    have hes : s.heap.objs.size ≠ e := lt he
    refine ⟨_, rfl, wpAny_letOwnedTupleGo_enum a1 fun h'' he'' hs'' => ?_⟩
    have hs' : Heap.SameBut e h' h'' := hs''
    have hit'' : h''.IsListIter it a (i + 1) := a2.extBut hs'.extBut hne.symm
    have I2 : Inv X pins σ (upd H s.heap.objs.size (.tup [.int i, xs[i]])) { s with heap := h'', toks := s.toks + 1 } := by
      refine I.zipped (fp := [e, it]) (u := .int i s.toks) (v := u) hf ⟨_, rfl⟩ ru (hs'.extBut _ _ hes a3) (fun b hb => ?_) fun c o hc q => ?_
      · simp only [List.mem_cons, List.not_mem_nil, or_false] at hb
        rcases hb with rfl | rfl
        · exact ⟨_, he''⟩
        · obtain ⟨o, q, _⟩ := hit''; exact ⟨o, q⟩
      · simp only [List.mem_cons, List.not_mem_nil, or_false, not_or] at hc
        exact hs'.extBut _ _ hc.1 (a5 c o hc.1 hc.2 q)
    refine ⟨.ref s.heap.objs.size, _, I2, rfl, ⟨s.heap.objs.size, I.fresh, rfl, fun xs' w1 x' e1 => ?_⟩, ⟨⟨_, he''⟩, hit''⟩, fun b hb => ?_⟩
    · have e3 := I.list_inj w1 q1
      subst e3
      rw [List.getElem?_eq_getElem l1] at e1
      cases e1
      rfl
    · rw [upd_ne (fun z => by
        obtain ⟨o, q⟩ : ∃ o, s.heap.get? b = some o := by
          simp only [List.mem_cons, List.not_mem_nil, or_false] at hb
          rcases hb with rfl | rfl
          · exact ⟨_, he⟩
          · obtain ⟨o, q, _⟩ := hit; exact ⟨o, q⟩
        exact lt q z.symm)]
      exact (hf b hb).1
  done := by
    intro X hP hw hK hc i pins s σ H E I hf st hg
    subst hP hw hK
    obtain ⟨⟨old, he⟩, hit⟩ := st
    obtain ⟨xs, q1, l1⟩ := hg
    obtain ⟨its, rv, pl, _⟩ := I.list q1
    obtain ⟨f0, f1, f2, f3, f4, f5⟩ := hf it (by simp)
    have hl := rv.length
    exact wpAny_pyNext_enum_end (I.ok.hd hc) he hit pl.isList (by rw [List.getElem?_toArray]; exact List.getElem?_eq_none (by omega)) fun h' eb => ⟨rfl, I.turned (t' := s.toks) (fun b o hb q => eb b o hb q) f0 f1 f3 f4 f5⟩
  self := fun _ _ _ _ _ st h => by obtain ⟨⟨old, he⟩, _⟩ := st; exact wpAny_pyIter_enum he h
def iEnum (K : PySem.W.Frag) (ta : TA) : TI := fun σ H R => ta σ H fun vs H1 => ∃ a xs, vs = [V.ref a] ∧ SqL K H1 a xs ∧ R (Ite K a) H1
theorem pi_enum {X : Cx} {l : Expr} {ta : TA} {p pos : Pos} {elts : List Expr} {x1 : Nat} {tpos : Pos} (hg : Gl X "enumerate") (hm : X.mg "enumerate" = none) (ha : PA X [l] ta)
    (hs : starEach [l] X.env = [(false, eval l X.env)] := by rfl) : PI X (.Tuple elts x1 tpos) (.Call (.Name "enumerate" p) [l] [] pos) (iEnum X.K ta) := by
  intro pins s σ H R I h
  refine Call_ (ld_blt I hg hm boot_enumerate (PyProof.Rows.callWith_type1 (thn (ha pos pins s σ H _ I h) fun us s1 ⟨vs, H1, I1, r1, q1⟩ => ?_) hs rfl))
  obtain ⟨a, xs, e, y1, q⟩ := q1
  subst e
  obtain ⟨u, rfl, ru⟩ := r1.one
  cases ru
  obtain ⟨its, rv, pl, _⟩ := I1.list y1
  refine call_enumerate_list pl.isList fun h' he hit hsz hk => wpAny_pyIter_enum he ?_
  have I2 : Inv X pins σ H1 { s1 with heap := h' } := I1.kept (t' := s1.toks) hk
  refine ⟨_, _, _, _, H1, rfl, I2, turn_enum (a := a) (e := s1.heap.objs.size + 1) (it := s1.heap.objs.size) (Nat.ne_of_gt (Nat.lt_succ_self _)), ⟨⟨_, he⟩, hit⟩, fun b hb => ?_, q⟩
  have hb' : s1.heap.objs.size ≤ b := by
    simp only [List.mem_cons, List.not_mem_nil, or_false] at hb
    rcases hb with rfl | rfl
    · exact Nat.le_add_right _ 1
    · exact Nat.le_refl _
  exact I1.fpOk hb' (I1.hok.fresh hb')
theorem iE {X : Cx} (K : PySem.W.Frag) {l : Expr} {ta : TA} {p pos : Pos} {elts : List Expr} {x1 : Nat} {tpos : Pos} (hm : X.mg "enumerate" = none) (ha : PA X [l] ta) (hg : Gl X "enumerate" := by rfl) (hK : X.K = K := by rfl)
    (hs : starEach [l] X.env = [(false, eval l X.env)] := by rfl) : PI X (.Tuple elts x1 tpos) (.Call (.Name "enumerate" p) [l] [] pos) (iEnum K ta) := by subst hK; exact pi_enum hg hm ha hs
def rMinL (K : PySem.W.Frag) : List V → Hp → VK → Prop := fun vs H Q => ∃ (p : Addr) (ns : List Int), vs = [.ref p] ∧ SqL K H p (ns.map V.int) ∧ 0 < ns.length ∧ ∀ M, M ∈ ns → (∀ a ∈ ns, M ≤ a) → Q (.int M) H
theorem call_minL {X : Cx} (hc : X.calm = true) : CallR X (.builtin "min") (rMinL X.K) := by
  intro pins s σ H vs us Q I r h
  obtain ⟨p, ns, rfl, hq, hne, q⟩ := h
  obtain ⟨u, rfl, rx⟩ := vals1 r
  cases rx
  obtain ⟨its, rv, pl, _⟩ := I.list hq
  have hi := intsAre_of rv
  obtain ⟨xs, e⟩ := hi.allInts.items
  have hns : ns = xs.toList.map (·.1) := by rw [← hi.numsOf, ← nums_intItems, ← e]
  have hsz : 0 < xs.size := by
    have h3 := hne
    rw [hns, List.length_map, Array.length_toList] at h3
    exact h3
  have hl := pl.isList
  rw [e] at hl
  refine min_intList (I.ok.hd hc) hl hsz fun v h' tk hv hk => ?_
  obtain ⟨t, rfl⟩ := intItems_at hv
  obtain ⟨h1, h2⟩ := argBest_lt (numAt xs) (xs.size - 1)
  refine ⟨.int _, H, I.kept hk, ⟨t, rfl⟩, q _ ?_ fun a ha => ?_⟩
  · rw [hns, numAt_eq]; exact getD_mem (by rw [List.length_map, Array.length_toList]; omega)
  · rw [hns] at ha
    obtain ⟨j, hj, rfl⟩ := mem_getD ha
    rw [List.length_map, Array.length_toList] at hj
    rw [← numAt_eq]; exact h2 j (by omega)
theorem minL {X : Cx} (K : PySem.W.Frag) (hc : X.calm = true := by rfl) (h : X.K = K := by rfl) : CallR X (.builtin "min") (rMinL K) := by subst h; exact call_minL hc
def rListQ (K : PySem.W.Frag) : List V → Hp → VK → Prop := fun xs H Q => ∃ p ys, xs = [.ref p] ∧ (SqL K H p ys ∨ SqT K H p ys) ∧ ∀ l, H l = none → Q (.ref l) (upd H l (.lst ys))
end L2
set_option Elab.async false
set_option linter.all false
set_option maxRecDepth 100000
namespace L2
open PySem PySem.Spec PyProof.Rows
section
variable {prog : Program} {w : World} {A : Around} {E : Value → Shared → Prop} {s : Shared}
end
def gLst (K : PySem.W.Frag) (n : Nat) (t : TGs) : TG := fun v σ H Q => ∃ a xs, v = .ref a ∧ SqL K H a xs ∧ xs.length = n ∧ t xs σ H Q
def pickV (xs : List V) (lo hi : Option Int) (st : Int) : List V :=
  (sliceRange (sliceBounds lo hi (some st) xs.length).1 (sliceBounds lo hi (some st) xs.length).2.1 (sliceBounds lo hi (some st) xs.length).2.2).filterMap fun i => xs[i]?
def SlRS (X : Cx) (r : V → Option Int → Option Int → Int → Hp → VK → Prop) : Prop :=
  ∀ (pins : List (Addr × Obj)) (s : Shared) (σ : St) (H : Hp) (x : V) (v vl vu vs : Value) (lo hi : Option Int) (st : Int) (sl : Addr) (Q : VK), Inv X pins σ H s → RelV x v → s.heap.IsSliceOf sl vl vu vs → IsPart vl lo → IsPart vu hi → IsPart vs (some st) → r x lo hi st H Q →
    ∃ T id, typeLookup (.type T) "__getitem__" = pure (some (.builtin id)) ∧ s.TypeIs v T ∧ wpAny (model X.prog X.w) X.A (getItem v (.ref sl)) (EP X pins σ Q) X.xe s
def tSlS (r : V → Option Int → Option Int → Int → Hp → VK → Prop) (te : TE) (tl th ts : TO) : TE := fun σ H Q => te σ H fun x H1 => tl σ H1 fun l H2 => th σ H2 fun u H3 => ts σ H3 fun k H4 => ∃ i, k = some i ∧ r x l u i H4 Q
section
variable {X : Cx} {e st : Expr} {te : TE} {lo hi : Option Expr} {tl th ts : TO} {pos p2 : Pos}
def rSlLS (K : PySem.W.Frag) : V → Option Int → Option Int → Int → Hp → VK → Prop := fun x lo hi st H Q => ∃ a xs, x = .ref a ∧ SqL K H a xs ∧ st ≠ 0 ∧ ∀ p, H p = none → Q (.ref p) (upd H p (.lst (pickV xs lo hi st)))
end
section
variable {X : Cx}
def rInsert : V → List V → Hp → VK → Prop := fun x vs H Q => ∃ l xs i y, x = .ref l ∧ vs = [.int i, y] ∧ H l = some (.lst xs) ∧ 0 ≤ i ∧ i ≤ xs.length ∧ xs.length < sizeLine ∧ Q .non (upd H l (.lst (xs.take i.toNat ++ y :: xs.drop i.toNat)))
def rBits : V → List V → Hp → VK → Prop := fun x vs H Q => ∃ i, x = .int i ∧ vs = [] ∧ Q (.int (Builtin.Int.intBits i : Nat)) H
def rTupQ (K : PySem.W.Frag) : List V → Hp → VK → Prop := fun xs H Q => ∃ p ys, xs = [.ref p] ∧ ((SqL K H p ys ∧ ∀ l, H l = none → Q (.ref l) (upd H l (.tup ys))) ∨ (SqT K H p ys ∧ Q (.ref p) H))
theorem tupQ (K : PySem.W.Frag) (h : X.K = K := by rfl) : CallR X (.type "tuple") (rTupQ K) := by subst h; exact call_tuple_of
end
end L2
set_option Elab.async false
set_option linter.all false
set_option maxRecDepth 100000
namespace L2
open PySem PySem.Spec PyProof.Rows
def Its (z : Str) : It := ⟨fun i _ => i < z.cps.size, fun i H v H' => H' = H ∧ ∃ c, z.cps[i]? = some c ∧ v = .str ⟨#[c]⟩, fun i _ => z.cps.size ≤ i⟩
section
variable {X : Cx} {tg : Expr}
def iStr (tl : TE) : TI := fun σ H R => tl σ H fun x H1 => ∃ z, x = .str z ∧ R (Its z) H1
end
end L2
set_option Elab.async false
set_option linter.all false
set_option maxRecDepth 100000
namespace L2
open PySem PySem.Spec PyProof.Rows
def strD : PyData → Str
  | .str z => z
  | d => d.shown
def rStrD (K : PySem.W.Frag) : List V → Hp → VK → Prop := fun xs H Q => ∃ x d, xs = [x] ∧ DV K H x d ∧ PyData.layable0 d = true ∧ d.intsShort 13 = true ∧ d.showable = true ∧ Q (.str (strD d)) H
end L2
set_option Elab.async false
set_option linter.all false
set_option maxRecDepth 100000
namespace L2
open PySem PySem.Spec PyProof.Rows
def lookK (kvs : List (List Key × V)) (k : List Key) : Option V := (kvs.find? fun kv => decide (kv.1 = k)).map (·.2)
abbrev PairT (H : Hp) : List (List Key × V) → List (List Key × Addr × Value) → Prop := Paired fun (p : List Key × V) (q : List Key × Addr × Value) => p.1 = q.1 ∧ H q.2.1 = some (.tup (p.1.map kV)) ∧ RelV p.2 q.2.2
theorem pair_snoc {H : Hp} {kvs : List (List Key × V)} {xs : List (List Key × Addr × Value)} (r : PairT H kvs xs) {p : List Key × V} {q : List Key × Addr × Value} (h : p.1 = q.1 ∧ H q.2.1 = some (.tup (p.1.map kV)) ∧ RelV p.2 q.2.2) : PairT H (kvs ++ [p]) (xs ++ [q]) := by
  induction r with
  | nil => exact .cons h .nil
  | cons a t ih => exact .cons a ih
theorem pair_keep {H H' : Hp} {kvs : List (List Key × V)} {xs : List (List Key × Addr × Value)} (k : ∀ b ys, H b = some (.tup ys) → H' b = some (.tup ys)) (r : PairT H kvs xs) : PairT H' kvs xs := by
  induction r with
  | nil => exact .nil
  | cons a t ih => exact .cons ⟨a.1, k _ _ a.2.1, a.2.2⟩ ih
theorem pair_all {H : Hp} {R : List Key → Addr → Prop} (k : ∀ ks b, H b = some (.tup (ks.map kV)) → R ks b) {kvs : List (List Key × V)} {xs : List (List Key × Addr × Value)} (r : PairT H kvs xs) : ∀ x ∈ xs, R x.1 x.2.1 := by
  induction r with
  | nil => intro x hx; cases hx
  | cons a t ih =>
    intro x hx
    rcases List.mem_cons.mp hx with rfl | hx
    · exact k _ _ (by rw [← a.1]; exact a.2.1)
    · exact ih x hx
theorem pair_len {H : Hp} {kvs : List (List Key × V)} {xs : List (List Key × Addr × Value)} (r : PairT H kvs xs) : kvs.length = xs.length := by
  induction r with
  | nil => rfl
  | cons a t ih => rw [List.length_cons, List.length_cons, ih]
theorem key_is {P : Program} {w : World} {k : Key} {u : Value} (r : RelV (kV k) u) : (mixKind P w).is k u = true := by
  rcases k with i | x
  · obtain ⟨t, e⟩ := (show ∃ t, u = Value.int i t from r)
    rw [e]
    exact mixKind_int P w i t
  · obtain ⟨t, e⟩ := (show ∃ t, u = Value.str x t from r)
    rw [e]
    exact mixKind_str P w x t
theorem keys_are {P : Program} {w : World} : ∀ (ks : List Key) (us : List Value), Vals (ks.map kV) us → ItemsAre (mixKind P w) ks us := by
  intro ks
  induction ks with
  | nil => intro us r; cases (show Vals [] us from r); exact .nil
  | cons k ks ih =>
    intro us r
    cases (show Vals (kV k :: ks.map kV) us from r) with
    | cons a b => exact .cons (key_is a) (ih _ b)
section
variable {X : Cx} {pins : List (Addr × Obj)} {σ : St} {H : Hp} {s : Shared}
theorem Inv.tkey {ks : List Key} {b : Addr} (I : Inv X pins σ H s) (e : H b = some (.tup (ks.map kV))) : (tupleKind (mixKind X.prog X.w)).is s.heap ks b := by
  obtain ⟨_, its, r, hb⟩ := I.hok b _ e
  obtain ⟨o, h1, h2, n, h3⟩ := hb
  refine ⟨o, its.toArray, n, h1, h2, h3, ?_⟩
  have := keys_are (P := X.prog) (w := X.w) ks its r
  simpa using this
def tNewT : TE := fun _ H Q => ∀ p, H p = none → Q (.ref p) (upd H p (.dT []))
theorem pe_newT {pos : Pos} : PE X (.Dict [] [] pos) tNewT := by
  intro pins s σ H Q I h
  have hb : sysModules < s.heap.objs.size := Nat.lt_trans (by decide) (show mainGlobals < s.heap.objs.size from (I.mod.glob.keeps I.bk).lt)
  refine wpAny_Dict_empty ⟨.ref s.heap.objs.size, upd H s.heap.objs.size (.dT []), ?_, rfl, h _ (I.hok.fresh (Nat.le_refl _))⟩
  refine I.laid (t' := s.toks) (fun _ _ q => Heap.get?_push_of_some _ q) (Nat.le_refl _) ?_
  refine ⟨Nat.zero_le _, ?_, [], .nil, _, #[], 0, Heap.get?_push_size _ rfl, ⟨rfl, rfl, rfl⟩, rfl, rfl, List.nodup_nil⟩
  exact beq_eq_false_iff_ne.mpr fun z => Nat.lt_irrefl _ (z ▸ hb)
end
def rSetDef : V → List V → Hp → VK → Prop := fun x vs H Q => ∃ d kvs b ks y, x = .ref d ∧ vs = [.ref b, y] ∧ H d = some (.dT kvs) ∧ H b = some (.tup (ks.map kV)) ∧ kvs.length < sizeLine ∧
  (∀ v, lookK kvs ks = some v → Q v H) ∧ (lookK kvs ks = none → Q y (upd H d (.dT (kvs ++ [(ks, y)]))))
end L2
set_option Elab.async false
set_option linter.all false
set_option maxRecDepth 100000
namespace L2
open PySem PySem.Spec PyProof.Rows
def rRng1 : List V → Hp → VK → Prop := fun xs H Q => ∃ j : Int, xs = [.int j] ∧ ∀ p, H p = none → Q (.ref p) (upd H p (.rng 0 j))
theorem rng1 {X : Cx} : CallR X (.type "range") rRng1 := by
  intro pins s σ H xs us Q I r h
  obtain ⟨j, rfl, q⟩ := h
  obtain ⟨u, rfl, t, rfl⟩ := vals1 r
  refine call_range_1 ⟨.ref s.heap.objs.size, _, I.laid (a := s.heap.objs.size) (o := .rng 0 j) (fun b o e => Heap.get?_push_of_some _ e) (Nat.le_refl _) ?_, rfl, q _ (I.hok.fresh (Nat.le_refl _))⟩
  exact ⟨_, _, _, Heap.get?_push_size _ rfl⟩
def rRng2 : List V → Hp → VK → Prop := fun xs H Q => ∃ i j : Int, xs = [.int i, .int j] ∧ ∀ p, H p = none → Q (.ref p) (upd H p (.rng i j))
def upsI (lo : Int) (n : Nat) : List Int := (List.range n).map fun (k : Nat) => lo + k
theorem upsI_len (lo : Int) (n : Nat) : (upsI lo n).length = n := by simp [upsI]
theorem vals_items {lo : Int} : ∀ (n : Nat) (us : List Value), us.length = n → (∀ (j : Nat) (v : Value), us[j]? = some v → ∃ t, v = Value.int (lo + j * 1) t) → Vals ((upsI lo n).map V.int) us := by
  intro n us hl h
  subst hl
  induction us generalizing lo with
  | nil => exact .nil
  | cons u r ih =>
    have e : upsI lo (u :: r).length = lo :: upsI (lo + 1) r.length := by
      unfold upsI
      rw [List.length_cons, List.range_succ_eq_map, List.map_cons, List.map_map]
      refine congr (congrArg _ (by simp)) (List.map_congr_left fun a _ => ?_)
      simp only [Function.comp]
      omega
    rw [e, List.map_cons]
    refine .cons ?_ (ih fun j v hv => ?_)
    · obtain ⟨t, e⟩ := h 0 u rfl
      exact ⟨t, by rw [e]; simp⟩
    · obtain ⟨t, e⟩ := h (j + 1) v (by simpa using hv)
      exact ⟨t, by rw [e]; congr 1; omega⟩
def rListR : List V → Hp → VK → Prop := fun xs H Q => ∃ (p : Addr) (lo hi : Int), xs = [.ref p] ∧ H p = some (.rng lo hi) ∧ -(2 ^ 62) ≤ lo ∧ lo < 2 ^ 62 ∧ -(2 ^ 62) ≤ hi ∧ hi < 2 ^ 62 ∧ (hi - lo).toNat ≤ 1000 ∧
  ∀ l, H l = none → Q (.ref l) (upd H l (.lst ((upsI lo (hi - lo).toNat).map V.int)))
theorem listR {X : Cx} (hc : X.calm = true := by rfl) : CallR X (.type "list") rListR := by
  intro pins s σ H xs us Q I r h
  obtain ⟨p, lo, hi, rfl, hp, h1, h2, h3, h4, h5, q⟩ := h
  obtain ⟨u, rfl, rx⟩ := vals1 r
  cases rx
  obtain ⟨t, u, v, e⟩ := I.hok _ _ hp
  have sz : Builtin.Range.rangeSize lo hi 1 = (((hi - lo).toNat : Nat) : Int) := by rw [rangeSize_one]; split <;> omega
  refine call_list_range (I.ok.hd hc) e (small_one h1 h2 h3 h4) sz (by omega) fun h' tk acc' c' kp e' it => ?_
  refine ⟨.ref s.heap.objs.size, _, I.laid (t' := tk) kp (Nat.le_refl _) (show ObjOk X.prog X.w _ h' _ (.lst ((upsI lo (hi - lo).toNat).map V.int)) from ⟨?_, acc'.toList, c', vals_items _ _ (by simpa using it.1) (fun j v hv => it.2 j v (by simpa using hv)), by simpa using e'⟩), rfl, q _ (I.hok.fresh (Nat.le_refl _))⟩
  rw [List.length_map, upsI_len]
  exact Nat.le_of_lt (small1000 h5)
end L2
set_option Elab.async false
set_option linter.all false
set_option maxRecDepth 100000
namespace L2
open PySem PySem.Spec PyProof.Rows
section
variable {prog : Program} {w : World} {A : Around} {E : Value → Shared → Prop} {s : Shared}
end
section
variable {X : Cx}
def rSlTS (K : PySem.W.Frag) : V → Option Int → Option Int → Int → Hp → VK → Prop := fun x lo hi st H Q => ∃ a xs, x = .ref a ∧ SqT K H a xs ∧ lo = none ∧ hi = none ∧ st = -1 ∧ ∀ p, H p = none → Q (.ref p) (upd H p (.tup xs.reverse))
def rExtendT (K : PySem.W.Frag) : V → List V → Hp → VK → Prop := fun x vs H Q => ∃ l b xs zs, x = .ref l ∧ vs = [.ref b] ∧ H l = some (.lst xs) ∧ H b = some (.tup zs) ∧ xs.length + zs.length ≤ sizeLine ∧ Q .non (upd H l (.lst (xs ++ zs)))
theorem listItems_at {prog : Program} {w : World} {A : Around} {E : Value → Shared → Prop} {s : Shared} {a : Addr} {o : Obj} {xs : Array Value} {n : Nat} {Q : Array Value → Shared → Prop} (ho : s.heap.get? a = some o) (hd : o.data = .seq xs n) (h : Q xs s) : wpAny (model prog w) A (Builtin.List.listItems (.ref a)) Q E s := by
  unfold Builtin.List.listItems
  exact wpAny_bind (wpAny_seqItems ho hd (wpAny_pure h))
def gSlice (to : TE) (tl th : TO) : TG := fun v σ H Q => to σ H fun o H1 => tl σ H1 fun l H2 => th σ H2 fun u H3 => ∃ (p b : Addr) (xs ys : List V) (a c : Int), o = .ref p ∧ v = .ref b ∧ l = some a ∧ u = some c ∧ H3 p = some (.lst xs) ∧ H3 b = some (.lst ys) ∧ p ≠ b ∧ 0 ≤ a ∧ a ≤ c ∧ c ≤ xs.length ∧ xs.length + ys.length ≤ sizeLine ∧
  Q σ (upd H3 p (.lst (xs.take a.toNat ++ ys ++ xs.drop c.toNat)))
def rSumB (K : PySem.W.Frag) : List V → Hp → VK → Prop := fun vs H Q => ∃ (p : Addr) (ns : List Int), vs = [.ref p] ∧ SqL K H p (ns.map V.int) ∧ ns.length ≤ 1000 ∧ (∀ n ∈ ns, 0 ≤ n ∧ n ≤ 10000000000) ∧ Q (.int ns.sum) H
theorem pre_sumB (ns : List Int) : ∀ n, n ≤ ns.length → preSum (fun j => ns.getD j 0) n = (ns.take n).sum
  | 0, _ => rfl
  | n + 1, h => by
    have ih := pre_sumB ns n (by omega)
    have e : ns.take (n + 1) = ns.take n ++ [ns.getD n 0] := by
      rw [List.take_add_one, List.getElem?_eq_getElem (by omega), List.getD_eq_getElem?_getD, List.getElem?_eq_getElem (by omega)]
      rfl
    rw [e, List.sum_append, ← ih]
    simp [preSum]
end
end L2
set_option Elab.async false
set_option linter.all false
set_option maxRecDepth 100000
namespace L2
open PySem PySem.Spec PyProof.Rows
section
variable {prog : Program} {w : World} {A : Around} {E : Value → Shared → Prop} {s : Shared} {κ : PyProof.Rows.KeyKind} {k0 : SortKind} {a₀ : Array Keyed} {st : SortSt}
def LtAt (prog : Program) (w : World) (A : Around) (s : Shared) (k0 : SortKind) (κ : PyProof.Rows.KeyKind) : Prop :=
  ∀ (E : Value → Shared → Prop) (x y : Value) (a b : κ.α) (Q : Bool → Shared → Prop), κ.keyOf x = some a → κ.keyOf y = some b → Q (κ.blt a b) s → wpAny (model prog w) A (keyLt' k0 x y) Q E s
structure SB (k0 : SortKind) (a₀ : Array Keyed) (st : SortSt) : Prop where
  perm : (arrOf st).Perm a₀
  kind : kindOf st = k0
  failed : failedOf st = none
  pend : pendingOf st = #[]
theorem SB.size (B : SB k0 a₀ st) : (arrOf st).size = a₀.size := B.perm.size_eq
theorem SB.at (B : SB k0 a₀ st) (hk : PyProof.Rows.KeysOf κ a₀) {i : Nat} (hi : i < a₀.size) : ∃ x p, (arrOf st)[i]? = some (x, p) ∧ κ.keyOf x = some (KK κ (arrOf st) i) := by
  have hs := B.size
  have e : (arrOf st)[i]? = some (arrOf st)[i] := Array.getElem?_eq_getElem (by omega)
  have hm : (arrOf st)[i] ∈ a₀.toList := by
    have h1 : (arrOf st)[i] ∈ arrOf st := Array.getElem_mem (by omega)
    have h2 := (B.perm.mem_iff (a := (arrOf st)[i])).mp h1
    simpa using h2
  obtain ⟨a, ha⟩ := hk _ hm
  refine ⟨(arrOf st)[i].1, (arrOf st)[i].2, e, ?_⟩
  unfold KK
  rw [e]
  show _ = some ((κ.keyOf (arrOf st)[i].1).getD κ.dflt)
  rw [ha]
  rfl
theorem SB.set (B : SB k0 a₀ st) {xs : Array Keyed} (h : xs.Perm (arrOf st)) : SB k0 a₀ (setArr st xs) := ⟨h.trans B.perm, B.kind, B.failed, B.pend⟩
theorem w_elem {arr : Array Keyed} {i : Nat} {p : Keyed} {Q : Keyed → SortSt → Prop} (h : arr[i]? = some p) (q : Q p st) : wpS (model prog w) A E s (elem' arr i) Q st := by
  rw [elem'_eq, h]
  exact wpS_pure q
theorem w_lt (hL : LtAt prog w A s k0 κ) (hk : PyProof.Rows.KeysOf κ a₀) (B : SB k0 a₀ st) {i j : Nat} (hi : i < a₀.size) (hj : j < a₀.size) {Q : Option Bool → SortSt → Prop} (q : Q (some (κ.blt (KK κ (arrOf st) i) (KK κ (arrOf st) j))) st) : wpS (model prog w) A E s (ltAt' i j) Q st := by
  obtain ⟨x, p, e1, k1⟩ := B.at hk hi
  obtain ⟨y, p', e2, k2⟩ := B.at hk hj
  rw [ltAt'_eq]
  refine wpS_bind (wpS_get ?_)
  show wpS _ _ _ _ (elem' (arrOf st) i >>= _) _ _
  refine wpS_bind (w_elem e1 (wpS_bind (w_elem e2 ?_)))
  rw [lt'_eq]
  refine wpS_bind (wpS_get (wpS_bind (wpS_lift (wpAny_attempt ?_))))
  rw [B.kind]
  refine hL _ x y _ _ _ k1 k2 ⟨rfl, ?_⟩
  exact wpS_pure q
theorem srt_succ {xs : Array Keyed} {i : Nat} (h0 : 1 ≤ i) (S : SortedToK κ xs i) (h : κ.kle (KK κ xs (i - 1)) (KK κ xs i)) : SortedToK κ xs (i + 1) := by
  intro a b hab hb
  by_cases e : b < i
  · exact S a b hab e
  · have eb : b = i := by omega
    subst eb
    by_cases ea : a = b
    · subst ea; exact KeyOrd.kle_refl _
    · exact KeyOrd.kle_trans (S a (b - 1) (by omega) (by omega)) h
theorem w_asc (hL : LtAt prog w A s k0 κ) (hk : PyProof.Rows.KeysOf κ a₀) {a nrem : Nat} (hn : nrem ≤ a₀.size) (h1 : 1 ≤ a) (ha : a ≤ nrem) (B : SB k0 a₀ st) (S : SortedToK κ (arrOf st) a) {Q : AscSt → SortSt → Prop}
    (q : ∀ n, a ≤ n → n ≤ nrem → SortedToK κ (arrOf st) n → (n = nrem ∨ κ.klt (KK κ (arrOf st) n) (KK κ (arrOf st) (n - 1))) → Q (none, n) st) : wpS (model prog w) A E s (ascLoop a nrem) Q st := by
  unfold ascLoop
  refine wpS_forRange (fun i c st' => st' = st ∧ c = (none, i) ∧ SortedToK κ (arrOf st) i) ?_ ?_ ⟨rfl, rfl, S⟩
  · rintro i c st' hai hin ⟨rfl, rfl, S'⟩
    refine wpS_bind (w_lt hL hk B (by show i < _; omega) (by show i - 1 < _; omega) ?_)
    cases hb : κ.blt (KK κ (arrOf st') i) (KK κ (arrOf st') (i - 1)) with
    | true => exact wpS_pure (q i hai (by omega) S' (.inr hb))
    | false => exact wpS_pure ⟨rfl, rfl, srt_succ (by omega) S' hb⟩
  · rintro c st' ⟨rfl, rfl, S'⟩
    rw [show max a nrem = nrem by omega] at S' ⊢
    exact q nrem ha (Nat.le_refl _) S' (.inl rfl)
theorem w_rev {i j : Nat} {Q : Unit → SortSt → Prop} (q : Q () (setArr st (mirror (arrOf st) i j ((j - i) / 2)))) : wpS (model prog w) A E s (reverseSlice' i j) Q st := wpS_reverse q
theorem arr_set (st : SortSt) (xs : Array Keyed) : arrOf (setArr st xs) = xs := rfl
theorem w_desc (hL : LtAt prog w A s k0 κ) (hk : PyProof.Rows.KeysOf κ a₀) {n nrem : Nat} (hn : nrem ≤ a₀.size) (h1 : 1 ≤ n) (hnn : n ≤ nrem) (B : SB k0 a₀ st) (S : NonIncK κ (arrOf st) n) {Q : DescSt → SortSt → Prop}
    (q : ∀ (m neq : Nat) (st' : SortSt), SB k0 a₀ st' → n ≤ m → m ≤ nrem → NonIncK κ (arrOf st') m → neq + 1 ≤ m → (∀ i, m - (neq + 1) ≤ i → i < m → KK κ (arrOf st') i = KK κ (arrOf st') (m - 1)) → Q (none, m, neq) st') : wpS (model prog w) A E s (descLoop n nrem) Q st := by
  unfold descLoop
  refine wpS_forRange (fun i c st' => ∃ neq, c = (none, i, neq) ∧ SB k0 a₀ st' ∧ n ≤ i ∧ i ≤ nrem ∧ NonIncK κ (arrOf st') i ∧ neq + 1 ≤ i ∧ (∀ k, i - (neq + 1) ≤ k → k < i → KK κ (arrOf st') k = KK κ (arrOf st') (i - 1))) ?_ ?_ ?_
  · rintro i c st' hai hin ⟨neq, rfl, B', hi1, hi2, N', hq, heq⟩
    have more : ∀ (st2 : SortSt), SB k0 a₀ st2 → (∀ k, KK κ (arrOf st2) k = KK κ (arrOf st') k) → κ.kle (KK κ (arrOf st') i) (KK κ (arrOf st') (i - 1)) → NonIncK κ (arrOf st2) (i + 1) := fun st2 B2 e hle a b hab hb => by
      rw [e a, e b]
      by_cases hbi : b < i
      · exact N' a b hab hbi
      · have eb : b = i := by omega
        subst eb
        by_cases ea : a = b
        · subst ea; exact KeyOrd.kle_refl _
        · exact KeyOrd.kle_trans hle (N' a (b - 1) (by omega) (by omega))
    refine wpS_bind (w_lt hL hk B' (by show i < _; omega) (by show i - 1 < _; omega) ?_)
    cases hb : κ.blt (KK κ (arrOf st') i) (KK κ (arrOf st') (i - 1)) with
    | true =>
      have hle : κ.kle (KK κ (arrOf st') i) (KK κ (arrOf st') (i - 1)) := KeyOrd.kle_of_klt hb
      show wpS _ _ _ _ (if neq > 0 then _ else _) _ _
      by_cases h0 : neq > 0
      · rw [if_pos h0]
        refine wpS_bind (w_rev (wpS_pure ?_))
        have e : ∀ k, KK κ (mirror (arrOf st') (i - (neq + 1)) i ((i - (i - (neq + 1))) / 2)) k = KK κ (arrOf st') k := KK_mirror_equal (by rw [B'.size]; omega) (fun k h1 h2 => heq k h1 h2)
        refine ⟨0, rfl, B'.set (mirror_perm _ _ _ _), by omega, by omega, more _ (B'.set (mirror_perm _ _ _ _)) e hle, by omega, fun k h1 h2 => ?_⟩
        have : k = i := by omega
        subst this
        rfl
      · rw [if_neg h0]
        refine wpS_pure ⟨0, rfl, B', by omega, by omega, more _ B' (fun _ => rfl) hle, by omega, fun k h1 h2 => ?_⟩
        have : k = i := by omega
        subst this
        rfl
    | false =>
      refine wpS_bind (w_lt hL hk B' (by show i - 1 < _; omega) (by show i < _; omega) ?_)
      cases hb2 : κ.blt (KK κ (arrOf st') (i - 1)) (KK κ (arrOf st') i) with
      | true => exact wpS_pure (q i neq st' B' hi1 hi2 N' hq heq)
      | false =>
        have ee := κ.total _ _ hb hb2
        refine wpS_pure ⟨neq + 1, rfl, B', by omega, by omega, more _ B' (fun _ => rfl) hb2, by omega, fun k h1 h2 => ?_⟩
        show KK κ (arrOf st') k = KK κ (arrOf st') i
        by_cases hki : k = i
        · rw [hki]
        · rw [ee]; exact heq k (by omega) (by omega)
  · rintro c st' ⟨neq, rfl, B', hi1, hi2, N', hq, heq⟩
    rw [show max n nrem = nrem by omega] at *
    exact q nrem neq st' B' hi1 hi2 N' hq heq
  · refine ⟨0, rfl, B, Nat.le_refl _, hnn, S, by omega, fun k h1 h2 => ?_⟩
    have : k = n - 1 := by omega
    rw [this]
theorem w_tail (hL : LtAt prog w A s k0 κ) (hk : PyProof.Rows.KeysOf κ a₀) {n nrem : Nat} (hn : nrem ≤ a₀.size) (h1 : 1 ≤ n) (hnn : n ≤ nrem) (B : SB k0 a₀ st) (N : NonIncK κ (arrOf st) n) {Q : Option Nat → SortSt → Prop}
    (q : ∀ (m : Nat) (st' : SortSt), SB k0 a₀ st' → 1 ≤ m → m ≤ nrem → SortedToK κ (arrOf st') m → Q (some m) st') : wpS (model prog w) A E s (tail3 n nrem) Q st := by
  unfold tail3
  refine wpS_bind (w_rev ?_)
  have B' := B.set (mirror_perm (arrOf st) 0 n ((n - 0) / 2))
  have e := KK_mirror (κ := κ) (xs := arrOf st) (i := 0) (j := n) (by rw [B.size]; omega)
  have S : SortedToK κ (mirror (arrOf st) 0 n ((n - 0) / 2)) n := fun a b hab hb => by
    rw [e a, e b, if_pos ⟨by omega, by omega⟩, if_pos ⟨by omega, by omega⟩]
    exact N _ _ (by omega) (by omega)
  refine wpS_bind (w_asc hL hk hn h1 hnn B' S fun m hm1 hm2 S' _ => ?_)
  exact wpS_pure (q m _ B' (by omega) hm2 S')
theorem w_part (hL : LtAt prog w A s k0 κ) (hk : PyProof.Rows.KeysOf κ a₀) {n nrem : Nat} (hn : nrem ≤ a₀.size) (hnn : n + 1 ≤ nrem) (B : SB k0 a₀ st) (N : NonIncK κ (arrOf st) (n + 1)) {Q : Option Nat → SortSt → Prop}
    (q : ∀ (m : Nat) (st' : SortSt), SB k0 a₀ st' → 1 ≤ m → m ≤ nrem → SortedToK κ (arrOf st') m → Q (some m) st') : wpS (model prog w) A E s (descPart n nrem) Q st := by
  unfold descPart
  refine wpS_bind (wpS_lift (wpAny_rule ⟨rfl, ?_⟩))
  refine wpS_bind (w_desc hL hk hn (by omega) hnn B N fun m neq st' B' m1 m2 N' hq heq => ?_)
  show wpS _ _ _ _ (if neq > 0 then _ else _) _ _
  by_cases h0 : neq > 0
  · rw [if_pos h0]
    refine wpS_bind (w_rev ?_)
    have e : ∀ k, KK κ (mirror (arrOf st') (m - (neq + 1)) m ((m - (m - (neq + 1))) / 2)) k = KK κ (arrOf st') k := KK_mirror_equal (by rw [B'.size]; omega) (fun k h1 h2 => heq k h1 h2)
    exact w_tail hL hk hn (by omega) m2 (B'.set (mirror_perm _ _ _ _)) (fun a b hab hb => by rw [e a, e b]; exact N' a b hab hb) q
  · rw [if_neg h0]
    exact w_tail hL hk hn (by omega) m2 B' N' q
theorem w_count (hL : LtAt prog w A s k0 κ) (hk : PyProof.Rows.KeysOf κ a₀) {nrem : Nat} (hn : nrem ≤ a₀.size) (h1 : 1 ≤ nrem) (B : SB k0 a₀ st) {Q : Option Nat → SortSt → Prop}
    (q : ∀ (m : Nat) (st' : SortSt), SB k0 a₀ st' → 1 ≤ m → m ≤ nrem → SortedToK κ (arrOf st') m → Q (some m) st') : wpS (model prog w) A E s (countRun' 0 nrem) Q st := by
  rw [countRun0_eq]
  refine wpS_bind (w_asc hL hk hn (Nat.le_refl 1) h1 B (fun a b hab hb => by obtain rfl : a = b := (by omega); exact KeyOrd.kle_refl _) fun n n1 n2 S hor => ?_)
  show wpS _ _ _ _ (if (n == nrem) = true then _ else _) _ _
  by_cases hnn : n = nrem
  · rw [if_pos (by rw [hnn]; exact beq_self_eq_true _)]
    exact wpS_pure (q n st B n1 n2 S)
  · rw [if_neg (by intro z; exact hnn (eq_of_beq z))]
    have hlt := hor.resolve_left hnn
    have flat : (∀ k, k < n → KK κ (arrOf st) k = KK κ (arrOf st) (n - 1)) → NonIncK κ (arrOf st) (n + 1) := fun hf a b hab hb => by
      by_cases hbn : b < n
      · rw [hf a (by omega), hf b hbn]; exact KeyOrd.kle_refl _
      · have eb : b = n := by omega
        subst eb
        by_cases ea : a = b
        · subst ea; exact KeyOrd.kle_refl _
        · rw [hf a (by omega)]; exact KeyOrd.kle_of_klt hlt
    by_cases hn1 : n > 1
    · rw [if_pos hn1]
      refine wpS_bind (w_lt hL hk B (by omega) (by omega) ?_)
      cases hb : κ.blt (KK κ (arrOf st) 0) (KK κ (arrOf st) (n - 1)) with
      | true => exact wpS_pure (q n st B n1 n2 S)
      | false =>
        have hf : ∀ k, k < n → KK κ (arrOf st) k = KK κ (arrOf st) (n - 1) := fun k hkn => by
          have a1 : κ.kle (KK κ (arrOf st) k) (KK κ (arrOf st) (n - 1)) := S k (n - 1) (by omega) (by omega)
          have a2 : κ.kle (KK κ (arrOf st) (n - 1)) (KK κ (arrOf st) k) := KeyOrd.kle_trans (show κ.kle (KK κ (arrOf st) (n - 1)) (KK κ (arrOf st) 0) from hb) (S 0 k (by omega) (by omega))
          exact KeyOrd.kle_antisymm a1 a2
        refine wpS_bind (w_rev ?_)
        have e : ∀ k, KK κ (mirror (arrOf st) 0 n ((n - 0) / 2)) k = KK κ (arrOf st) k := KK_mirror_equal (by rw [B.size]; omega) (fun k _ h2 => hf k h2)
        exact w_part hL hk hn (by omega) (B.set (mirror_perm _ _ _ _)) (fun a b hab hb => by rw [e a, e b]; exact flat hf a b hab hb) q
    · rw [if_neg hn1]
      exact w_part hL hk hn (by omega) B (flat fun k hkn => by rw [show k = n - 1 by omega]) q
theorem bin_put {xs : Array Keyed} {k l : Nat} (hk : k < xs.size) (hl : l ≤ k) (S' : SortedToK κ xs k) (hlo : ∀ j, j < l → κ.kle (KK κ xs j) (KK κ xs k)) (hhi : ∀ j, l ≤ j → j < k → κ.klt (KK κ xs k) (KK κ xs j)) :
    SortedToK κ (bubble xs (0 + k) (0 + k - (0 + l))) (k + 1) := by
  have eb := KK_bubble (κ := κ) (xs := xs) (src := 0 + k) (d := 0 + k - (0 + l)) (by omega) (by omega)
  intro a b hab hb
  rw [eb a, eb b]
  rw [show 0 + k = k by omega, show 0 + l = l by omega, show k - (k - l) = l by omega]
  by_cases ha : a = l
  · rw [if_pos ha]
    by_cases hbl : b = l
    · rw [if_pos hbl]; exact KeyOrd.kle_refl _
    · rw [if_neg hbl, if_pos ⟨by omega, by omega⟩]
      exact KeyOrd.kle_of_klt (hhi (b - 1) (by omega) (by omega))
  · rw [if_neg ha]
    by_cases hal : a < l
    · rw [if_neg (by omega)]
      by_cases hbl : b = l
      · rw [if_pos hbl]; exact hlo a hal
      · rw [if_neg hbl]
        by_cases hbb : l < b
        · rw [if_pos ⟨hbb, by omega⟩]; exact S' a (b - 1) (by omega) (by omega)
        · rw [if_neg (by omega)]; exact S' a b hab (by omega)
    · rw [if_pos ⟨by omega, by omega⟩, if_neg (by omega), if_pos ⟨by omega, by omega⟩]
      exact S' (a - 1) (b - 1) (by omega) (by omega)
theorem w_binary (hL : LtAt prog w A s k0 κ) (hk : PyProof.Rows.KeysOf κ a₀) {n ok : Nat} (hn : n ≤ a₀.size) (h1 : ok ≤ n) (h0 : 1 ≤ ok) (B : SB k0 a₀ st) (S : SortedToK κ (arrOf st) ok) {Q : Bool → SortSt → Prop}
    (q : ∀ (st' : SortSt), SB k0 a₀ st' → SortedToK κ (arrOf st') n → Q true st') : wpS (model prog w) A E s (binarySort' 0 n ok) Q st := by
  rw [binarySort'_eq]
  refine wpS_bind ?_
  refine wpS_forRange (fun i c st' => c = (none, ()) ∧ SB k0 a₀ st' ∧ SortedToK κ (arrOf st') i) ?_ ?_ ⟨rfl, B, by rw [show max ok 1 = ok by omega]; exact S⟩
  · rintro k c st' hak hkn ⟨rfl, B', S'⟩
    have k1 : 1 ≤ k := by omega
    refine wpS_bind ?_
    refine wpS_forRange (fun i c st2 => ∃ l r, c = (none, l, r) ∧ st2 = st' ∧ l ≤ r ∧ r ≤ k ∧ r - l ≤ k - i ∧ (∀ j, j < l → κ.kle (KK κ (arrOf st') j) (KK κ (arrOf st') k)) ∧ (∀ j, r ≤ j → j < k → κ.klt (KK κ (arrOf st') k) (KK κ (arrOf st') j))) ?_ ?_ ⟨0, k, rfl, rfl, Nat.zero_le _, Nat.le_refl _, by omega, fun j h => by omega, fun j h1 h2 => by omega⟩
    · rintro i c st2 hi0 hik ⟨l, r, rfl, rfl, hlr, hrk, hm, hlo, hhi⟩
      show wpS _ _ _ _ (if l ≥ r then _ else _) _ _
      by_cases hge : l ≥ r
      · rw [if_pos hge]
        refine wpS_pure ?_
        have elr : l = r := by omega
        subst elr
        refine wpS_bind ?_
        rw [moveDown'_eq]
        refine wpS_modify (wpS_pure ?_)
        exact ⟨rfl, B'.set (bubble_perm _ _ _), bin_put (by rw [B'.size]; omega) hrk S' hlo hhi⟩
      · rw [if_neg hge]
        refine wpS_bind (w_lt hL hk B' (by show 0 + k < _; omega) (by show 0 + (l + r) / 2 < _; omega) ?_)
        rw [show 0 + k = k by omega, show 0 + (l + r) / 2 = (l + r) / 2 by omega]
        cases hb : κ.blt (KK κ (arrOf st2) k) (KK κ (arrOf st2) ((l + r) / 2)) with
        | true =>
          refine wpS_pure ⟨l, (l + r) / 2, rfl, rfl, by omega, by omega, by omega, hlo, fun j h1 h2 => ?_⟩
          exact KeyOrd.klt_of_klt_of_kle hb (S' _ j h1 h2)
        | false =>
          refine wpS_pure ⟨(l + r) / 2 + 1, r, rfl, rfl, by omega, by omega, by omega, fun j h => ?_, hhi⟩
          exact KeyOrd.kle_trans (S' j ((l + r) / 2) (by omega) (by omega)) hb
    · rintro c st2 ⟨l, r, rfl, rfl, hlr, hrk, hm, hlo, hhi⟩
      have elr : l = r := by omega
      subst elr
      refine wpS_bind ?_
      rw [moveDown'_eq]
      refine wpS_modify (wpS_pure ?_)
      exact ⟨rfl, B'.set (bubble_perm _ _ _), bin_put (by rw [B'.size]; omega) hrk S' hlo hhi⟩
  · rintro c st' ⟨rfl, B', S'⟩
    rw [show max (max ok 1) n = n by omega] at S'
    exact wpS_pure (q st' B' S')
theorem w_runs (hL : LtAt prog w A s k0 κ) (hk : PyProof.Rows.KeysOf κ a₀) (B : SB k0 a₀ st) (h2 : 2 ≤ a₀.size) (h64 : a₀.size < 64) {Q : Unit → SortSt → Prop}
    (q : ∀ (st' : SortSt), (arrOf st').Perm a₀ → failedOf st' = none → SortedToK κ (arrOf st') a₀.size → Q () st') : wpS (model prog w) A E s sortRuns' Q st := by
  rw [sortRuns'_eq]
  refine wpS_bind (wpS_get ?_)
  have hsz := B.size
  have hmin : minRun' (arrOf st).size (arrOf st).size 0 = (arrOf st).size := by
    obtain ⟨f, hf⟩ : ∃ f, (arrOf st).size = f + 1 := ⟨(arrOf st).size - 1, by omega⟩
    rw [show minRun' (arrOf st).size (arrOf st).size 0 = minRun' (f + 1) (arrOf st).size 0 by rw [← hf], minRun'_succ, if_pos (by omega)]
    rfl
  refine wpS_bind ?_
  refine wpS_forRange (fun i c st' => (i = 0 ∧ c = (none, 0) ∧ st' = st) ∨ (i ≠ 0 ∧ c = (none, a₀.size) ∧ (arrOf st').Perm a₀ ∧ failedOf st' = none ∧ (pendingOf st').size ≤ 1 ∧ SortedToK κ (arrOf st') a₀.size)) ?_ ?_ (.inl ⟨rfl, rfl, rfl⟩)
  · rintro i c st' hi0 hi ⟨⟩
    · rename_i h
      obtain ⟨rfl, rfl, rfl⟩ := h
      show wpS _ _ _ _ (if 0 ≥ (arrOf st').size then _ else _) _ _
      rw [if_neg (by omega)]
      refine wpS_bind ?_
      rw [show (arrOf st').size - 0 = a₀.size by omega]
      refine w_count hL hk (Nat.le_refl _) (by omega) B fun m st2 B2 m1 m2 S2 => ?_
      have push : ∀ (st3 : SortSt), SB k0 a₀ st3 → SortedToK κ (arrOf st3) a₀.size → (arrOf (setPending st3 ((pendingOf st3).push (0, a₀.size, 0)))).Perm a₀ ∧ failedOf (setPending st3 ((pendingOf st3).push (0, a₀.size, 0))) = none ∧ (pendingOf (setPending st3 ((pendingOf st3).push (0, a₀.size, 0)))).size ≤ 1 ∧ SortedToK κ (arrOf (setPending st3 ((pendingOf st3).push (0, a₀.size, 0)))) a₀.size := fun st3 B3 S3 =>
        ⟨B3.perm, B3.failed, by show ((pendingOf st3).push (0, a₀.size, 0)).size ≤ 1; rw [B3.pend, Array.size_push]; exact Nat.le_refl _, S3⟩
      show wpS _ _ _ _ (if m < minRun' (arrOf st').size (arrOf st').size 0 then _ else _) _ _
      rw [hmin, hsz]
      by_cases hm : m < a₀.size
      · rw [if_pos hm]
        refine wpS_bind (wpS_lift (wpAny_rule ⟨rfl, ?_⟩))
        show wpS _ _ _ _ (binarySort' 0 (min a₀.size a₀.size) m >>= _) _ _
        rw [Nat.min_self]
        refine wpS_bind (w_binary hL hk (Nat.le_refl _) (by omega) m1 B2 S2 fun st3 B3 S3 => ?_)
        show wpS _ _ _ _ (get >>= _) _ _
        refine wpS_bind (wpS_get ?_)
        show wpS _ _ _ _ (match (pendingOf st3).back? with | some (s1, n1, snd) => _ | x => _) _ _
        rw [show (pendingOf st3).back? = none by rw [B3.pend]; rfl]
        show wpS _ _ _ _ (modify _ >>= _) _ _
        refine wpS_bind (wpS_modify (wpS_pure (.inr ⟨by omega, ?_, push st3 B3 S3⟩)))
        show (none, 0 + a₀.size) = (none, a₀.size)
        rw [Nat.zero_add]
      · rw [if_neg hm]
        have em : m = a₀.size := by omega
        subst em
        show wpS _ _ _ _ (get >>= _) _ _
        refine wpS_bind (wpS_get ?_)
        show wpS _ _ _ _ (match (pendingOf st2).back? with | some (s1, n1, snd) => _ | x => _) _ _
        rw [show (pendingOf st2).back? = none by rw [B2.pend]; rfl]
        show wpS _ _ _ _ (modify _ >>= _) _ _
        refine wpS_bind (wpS_modify (wpS_pure (.inr ⟨by omega, ?_, push st2 B2 S2⟩)))
        show (none, 0 + a₀.size) = (none, a₀.size)
        rw [Nat.zero_add]
    · rename_i h
      obtain ⟨hne, rfl, p1, p2, p3, p4⟩ := h
      show wpS _ _ _ _ (if a₀.size ≥ (arrOf st).size then _ else _) _ _
      rw [if_pos (by omega)]
      refine wpS_pure ?_
      show wpS _ _ _ _ (forIn [:(arrOf st).size] (none, ()) _ >>= _) _ _
      refine wpS_bind ?_
      refine wpS_forRange (fun i c st2 => c = (none, ()) ∧ st2 = st') ?_ ?_ ⟨rfl, rfl⟩
      · rintro i c st2 _ _ ⟨rfl, rfl⟩
        show wpS _ _ _ _ (get >>= _) _ _
        refine wpS_bind (wpS_get ?_)
        show wpS _ _ _ _ (if (pendingOf st2).size ≤ 1 then _ else _) _ _
        rw [if_pos p3]
        exact wpS_pure (wpS_pure (q _ p1 p2 p4))
      · rintro c st2 ⟨rfl, rfl⟩
        exact wpS_pure (q _ p1 p2 p4)
  · rintro c st' ⟨⟩
    · rename_i h
      exact absurd h.1 (by omega)
    · rename_i h
      obtain ⟨hne, rfl, p1, p2, p3, p4⟩ := h
      show wpS _ _ _ _ (forIn [:(arrOf st).size] (none, ()) _ >>= _) _ _
      refine wpS_bind ?_
      refine wpS_forRange (fun i c st2 => c = (none, ()) ∧ st2 = st') ?_ ?_ ⟨rfl, rfl⟩
      · rintro i c st2 _ _ ⟨rfl, rfl⟩
        show wpS _ _ _ _ (get >>= _) _ _
        refine wpS_bind (wpS_get ?_)
        show wpS _ _ _ _ (if (pendingOf st2).size ≤ 1 then _ else _) _ _
        rw [if_pos p3]
        exact wpS_pure (wpS_pure (q _ p1 p2 p4))
      · rintro c st2 ⟨rfl, rfl⟩
        exact wpS_pure (q _ p1 p2 p4)
end
end L2
set_option Elab.async false
set_option linter.all false
set_option maxRecDepth 100000
namespace L2
open PySem PySem.Spec PyProof.Rows
section
variable {prog : Program} {w : World} {A : Around} {E : Value → Shared → Prop} {s : Shared} {κ : PyProof.Rows.KeyKind}
theorem w_sort {a : Addr} {vs : List Value} {n : Nat} {P : PySem.Fin → Shared → Prop} (ha : s.heap.get? a = some (seqObj "list" vs.toArray n)) (hk : PyProof.Rows.KeysOf κ (pairsOf vs)) (h2 : 2 ≤ vs.length) (h64 : vs.length < 64)
    (hK : ∀ (s' : Shared), (∀ b o, b ≠ a → s.heap.get? b = some o → s'.heap.get? b = some o) → ∀ (E : Value → Shared → Prop) (Q : SortKind → Shared → Prop), (∀ k0, LtAt prog w A s' k0 κ → Q k0 s') → wpAny (model prog w) A (keyKind' vs.toArray) Q E s')
    (q : ∀ (st' : SortSt), (arrOf st').Perm (pairsOf vs) → SortedToK κ (arrOf st') (pairsOf vs).size → P (Fin.done (Flow.ret Value.none)) { s with heap := sortedHeap s.heap a vs ((arrOf st').map fun x => x.snd) }) :
    wpAny (model prog w) A (Builtin.«list.sort» { pos := [.ref a] }) P E s := by
  have hz : vs.toArray.size ≤ sizeLine := by rw [List.size_toArray, sizeLine_eq]; omega
  rw [list_sort_plain]
  refine wpAny_bind (listItems_at ha rfl ?_)
  show wpAny _ _ (updateSeq a (fun x => #[]) >>= _) _ _ _
  refine wpAny_bind (wpAny_updateSeq ha rfl ?_ hz (by show 0 ≤ _; omega))
  have e1 := get?_update_seq ha (fun _ => #[])
  refine wpAny_bind (seqEpoch_at e1 rfl ?_)
  refine wpAny_bind (wpAny_newTuple ?_ (by simpa using hz))
  refine wpAny_bind (wpAny_newList ?_ (by show 0 ≤ _; omega))
  refine wpAny_holding ?_
  have hn2 : ¬ vs.toArray.size < 2 := by rw [List.size_toArray]; omega
  have hps : (pairsOf vs).size = vs.length := by unfold pairsOf; simp
  rw [if_neg hn2, if_neg hn2]
  have keep : ∀ b o, b ≠ a → s.heap.get? b = some o → (((s.heap.update a (Obj.mapSeq fun _ => #[])).push { cls := .type "tuple", data := .seq vs.toArray.toList.toArray }).push { cls := .type "list", data := .seq ([] : List Value).toArray }).get? b = some o := fun b o hb h =>
    Heap.get?_push_of_some _ (Heap.get?_push_of_some _ (Heap.get?_update_of_ne _ (Ne.symm hb) h))
  have e2 : (((s.heap.update a (Obj.mapSeq fun _ => #[])).push { cls := .type "tuple", data := .seq vs.toArray.toList.toArray }).push { cls := .type "list", data := .seq ([] : List Value).toArray }).get? a = some (seqObj "list" #[] _) := Heap.get?_push_of_some _ (Heap.get?_push_of_some _ e1)
  refine wpAny_bind (hK _ keep _ _ fun k0 hL => ?_)
  refine wpAny_bind ?_
  have B : SB k0 (pairsOf vs) (SortSt.mk' k0 (vs.toArray.zip vs.toArray) #[] 7 none) := ⟨Array.Perm.refl _, rfl, rfl, rfl⟩
  refine thn (w_runs (E := E) hL hk B (by rw [hps]; exact h2) (by rw [hps]; exact h64) (Q := fun _ st' => (arrOf st').Perm (pairsOf vs) ∧ failedOf st' = none ∧ SortedToK κ (arrOf st') (pairsOf vs).size) (fun st' a b c => ⟨a, b, c⟩)) fun r s' hr => ?_
  obtain ⟨⟨⟩, st'⟩ := r
  obtain ⟨rfl, p1, p2, p3⟩ := hr
  refine wpAny_bind (seqEpoch_at e2 rfl ?_)
  have hsz : ((arrOf st').map fun x => x.snd).size = vs.length := by rw [Array.size_map, p1.size_eq, hps]
  show wpAny _ _ (updateSeq a (fun x => (arrOf st').map fun x => x.snd) >>= _) _ _ _
  refine wpAny_bind (wpAny_updateSeq e2 rfl ?_ (by show 0 ≤ _; omega) (by show ((arrOf st').map fun x => x.snd).size ≤ _; rw [hsz]; rw [List.size_toArray] at hz; omega))
  rw [p2]
  rw [if_neg (by simp)]
  exact wpAny_pure (q st' p1 p3)
theorem w_sorted {l : Addr} {vs : List Value} {Q : Value → Shared → Prop} (hl : s.heap.IsList l vs.toArray) (hk : PyProof.Rows.KeysOf κ (pairsOf vs)) (h2 : 2 ≤ vs.length) (h64 : vs.length < 64)
    (hK : ∀ (A : Around) (s' : Shared), (∀ b o, s.heap.get? b = some o → s'.heap.get? b = some o) → ∀ (E : Value → Shared → Prop) (Q : SortKind → Shared → Prop), (∀ k0, LtAt prog w A s' k0 κ → Q k0 s') → wpAny (model prog w) A (keyKind' vs.toArray) Q E s')
    (q : ∀ (st' : SortSt), (arrOf st').Perm (pairsOf vs) → SortedToK κ (arrOf st') (pairsOf vs).size → Q (.ref (s.heap.objs.size + 1)) { s with heap := sortedAll s.heap vs ((arrOf st').map fun x => x.snd) }) :
    wpAny (model prog w) A (call (.builtin "sorted") [.ref l]) Q E s := by
  refine Calls.call_function_entry kind_sorted plain_sorted entry_sorted (args_sorted1 (.ref l)) ?_
  have hz : vs.length ≤ sizeLine := by rw [sizeLine_eq]; omega
  refine wpAny_bind (wpAny_pure (wpAny_bind (collect_list hl (wpAny_bind (wpAny_newList ?_ hz)) hz)))
  have hsz : ((s.heap.push (seqObj "list" #[] 0)).update s.heap.objs.size (Obj.mapSeq fun x => x ++ vs.toArray)).objs.size = s.heap.objs.size + 1 := by rw [Heap.size_update, size_push']
  have hoL : ((((s.heap.push (seqObj "list" #[] 0)).update s.heap.objs.size (Obj.mapSeq fun x => x ++ vs.toArray)).push (seqObj "list" vs.toArray 0)).get? (s.heap.objs.size + 1)) = some (seqObj "list" vs.toArray 0) := by
    rw [← hsz]; exact Heap.get?_push_size _ rfl
  have keep : ∀ b o, s.heap.get? b = some o → (((s.heap.push (seqObj "list" #[] 0)).update s.heap.objs.size (Obj.mapSeq fun x => x ++ vs.toArray)).push (seqObj "list" vs.toArray 0)).get? b = some o := fun b o h =>
    Heap.get?_push_of_some _ (Heap.get?_update_of_ne _ (Nat.ne_of_gt (Heap.lt_size h)) (Heap.get?_push_of_some _ h))
  show wpAny _ _ (holding [.ref ((s.heap.push (seqObj "list" #[] 0)).update s.heap.objs.size (Obj.mapSeq fun x => x ++ vs.toArray)).objs.size] (call (.builtin "list.sort") [.ref ((s.heap.push (seqObj "list" #[] 0)).update s.heap.objs.size (Obj.mapSeq fun x => x ++ vs.toArray)).objs.size]) >>= fun _ => ret (.ref ((s.heap.push (seqObj "list" #[] 0)).update s.heap.objs.size (Obj.mapSeq fun x => x ++ vs.toArray)).objs.size)) _ _ _
  rw [hsz]
  refine wpAny_bind (wpAny_holding (wpAny_call_entry slot_list_sort ⟨_, hoL, rfl⟩ entry_list_sort ?_ (args_list_sort _)))
  refine w_sort hoL hk h2 h64 (fun s' hk' => hK _ s' fun b o h => hk' b o (Nat.ne_of_lt (Nat.lt_of_lt_of_le (Heap.lt_size h) (Nat.le_succ _))) (keep b o h)) fun st' p1 p3 => ?_
  exact ⟨_, rfl, wpAny_pure ⟨_, rfl, q st' p1 p3⟩⟩
end
end L2
set_option Elab.async false
set_option linter.all false
set_option maxRecDepth 100000
namespace L2
open PySem PySem.Spec PyProof.Rows
def kLt : Key → Key → Bool
  | .inl i, .inl j => decide (i < j)
  | .inr x, .inr y => decide (x.cps.toList < y.cps.toList)
  | .inl _, .inr _ => true
  | .inr _, .inl _ => false
theorem kLt_irrefl : ∀ a : Key, kLt a a = false
  | .inl i => decide_eq_false (by omega)
  | .inr x => decide_eq_false (List.lt_irrefl _)
theorem kLt_trans : ∀ a b c : Key, kLt a b = true → kLt b c = true → kLt a c = true
  | .inl i, .inl j, .inl k, h1, h2 => by have := of_decide_eq_true h1; have := of_decide_eq_true h2; exact decide_eq_true (by omega)
  | .inr x, .inr y, .inr z, h1, h2 => decide_eq_true (List.lt_trans (of_decide_eq_true h1) (of_decide_eq_true h2))
  | .inl _, .inl _, .inr _, _, _ => rfl
  | .inl _, .inr _, .inr _, _, _ => rfl
  | .inl _, .inr _, .inl _, _, h => by cases h
  | .inr _, .inl _, _, h, _ => by cases h
  | .inr _, .inr _, .inl _, _, h => by cases h
theorem kLt_total : ∀ a b : Key, kLt a b = false → kLt b a = false → a = b
  | .inl i, .inl j, h1, h2 => by have := of_decide_eq_false h1; have := of_decide_eq_false h2; congr 1; omega
  | .inr x, .inr y, h1, h2 => by
    have a1 : ¬ x.cps.toList < y.cps.toList := of_decide_eq_false h1
    have a2 : ¬ y.cps.toList < x.cps.toList := of_decide_eq_false h2
    have e : x.cps.toList = y.cps.toList := List.le_antisymm a2 a1
    obtain ⟨xs⟩ := x
    obtain ⟨ys⟩ := y
    congr 2
    exact Array.toList_inj.mp e
  | .inl _, .inr _, h, _ => by cases h
  | .inr _, .inl _, _, h => by cases h
def lexB : List Key → List Key → Bool
  | [], [] => false
  | [], _ :: _ => true
  | _ :: _, [] => false
  | x :: xs, y :: ys => if x = y then lexB xs ys else kLt x y
theorem lexB_cons (x y : Key) (xs ys : List Key) : lexB (x :: xs) (y :: ys) = if x = y then lexB xs ys else kLt x y := rfl
theorem lexB_irrefl : ∀ a : List Key, lexB a a = false
  | [] => rfl
  | x :: r => by unfold lexB; rw [if_pos rfl]; exact lexB_irrefl r
theorem lexB_trans : ∀ a b c : List Key, lexB a b = true → lexB b c = true → lexB a c = true
  | [], [], _, h, _ => by cases h
  | [], _ :: _, [], _, h => by cases h
  | [], _ :: _, _ :: _, _, _ => rfl
  | _ :: _, [], _, h, _ => by cases h
  | _ :: _, _ :: _, [], _, h => by cases h
  | x :: r, y :: s, z :: t, h1, h2 => by
    have ih := lexB_trans r s t
    unfold lexB at h1 h2 ⊢
    by_cases e1 : x = y
    · rw [if_pos e1] at h1
      by_cases e2 : y = z
      · rw [if_pos e2] at h2
        rw [if_pos (e1.trans e2)]
        exact ih h1 h2
      · rw [if_neg e2] at h2
        rw [if_neg (fun e => e2 (e1.symm.trans e)), e1]
        exact h2
    · rw [if_neg e1] at h1
      by_cases e2 : y = z
      · rw [if_neg (fun e => e1 (e.trans e2.symm)), ← e2]
        exact h1
      · rw [if_neg e2] at h2
        have h3 := kLt_trans _ _ _ h1 h2
        rw [if_neg (fun e => by rw [e, kLt_irrefl] at h3; cases h3)]
        exact h3
theorem lexB_total : ∀ a b : List Key, lexB a b = false → lexB b a = false → a = b
  | [], [], _, _ => rfl
  | [], _ :: _, h, _ => by cases h
  | _ :: _, [], _, h => by cases h
  | x :: r, y :: s, h1, h2 => by
    unfold lexB at h1 h2
    by_cases e : x = y
    · rw [if_pos e] at h1
      rw [if_pos e.symm] at h2
      rw [e, lexB_total r s h1 h2]
    · rw [if_neg e] at h1
      rw [if_neg fun z => e z.symm] at h2
      exact absurd (kLt_total _ _ h1 h2) e
theorem lexB_neg (a b c : List Key) (h : lexB a c = true) : lexB a b = true ∨ lexB b c = true := by
  by_cases h1 : lexB a b = true
  · exact .inl h1
  · by_cases h2 : lexB b a = true
    · exact .inr (lexB_trans _ _ _ h2 h)
    · have e := lexB_total a b (by simpa using h1) (by simpa using h2)
      rw [← e]; exact .inr h
def unV : V → Option Key
  | .int i => some (.inl i)
  | .str x => some (.inr x)
  | _ => none
def keysV : List V → Option (List Key)
  | [] => some []
  | x :: r => (unV x).bind fun k => (keysV r).map (k :: ·)
theorem unV_kV (k : Key) : unV (kV k) = some k := by cases k <;> rfl
theorem keysV_kV : ∀ ks : List Key, keysV (ks.map kV) = some ks
  | [] => rfl
  | k :: r => by show (unV (kV k)).bind _ = _; rw [unV_kV, keysV_kV r]; rfl
theorem unV_eq : ∀ {x : V} {k : Key}, unV x = some k → x = kV k
  | .int i, k, h => by cases h; rfl
  | .str z, k, h => by cases h; rfl
  | .non, _, h => by cases h
  | .bl _, _, h => by cases h
  | .byt _, _, h => by cases h
  | .flt _, _, h => by cases h
  | .ref _, _, h => by cases h
  | .ty _, _, h => by cases h
theorem keysV_eq : ∀ {xs : List V} {ks : List Key}, keysV xs = some ks → xs = ks.map kV
  | [], ks, h => by cases h; rfl
  | x :: r, ks, h => by
    unfold keysV at h
    cases hu : unV x with
    | none => rw [hu] at h; cases h
    | some k =>
      rw [hu] at h
      cases hr : keysV r with
      | none => rw [hr] at h; cases h
      | some ms => rw [hr] at h; cases h; rw [unV_eq hu, keysV_eq hr]; rfl
def shape (ks : List Key) : List Bool := ks.map fun k => k.isLeft
def tupOf (H : Hp) (sh : List Bool) : Value → Option (List Key)
  | .ref a => match H a with
    | some (.tup xs) => (keysV xs).bind fun ks => if shape ks = sh then some ks else none
    | _ => none
  | _ => none
theorem tupOf_at {H : Hp} {a : Addr} {ks : List Key} (h : H a = some (.tup (ks.map kV))) : tupOf H (shape ks) (.ref a) = some ks := by
  unfold tupOf
  dsimp only
  rw [h]
  show (keysV (ks.map kV)).bind _ = _
  rw [keysV_kV]
  show (if shape ks = shape ks then some ks else none) = _
  rw [if_pos rfl]
theorem tupOf_eq {H : Hp} {sh : List Bool} {v : Value} {ks : List Key} (h : tupOf H sh v = some ks) : ∃ a, v = .ref a ∧ H a = some (.tup (ks.map kV)) ∧ shape ks = sh := by
  unfold tupOf at h
  split at h
  · rename_i a
    split at h
    · rename_i xs hx
      cases hk : keysV xs with
      | none => rw [hk] at h; cases h
      | some ms =>
        rw [hk] at h
        have h' : (if shape ms = sh then some ms else none) = some ks := h
        by_cases e : shape ms = sh
        · rw [if_pos e] at h'
          cases h'
          exact ⟨a, rfl, by rw [hx, keysV_eq hk], e⟩
        · rw [if_neg e] at h'; cases h'
    · cases h
  · cases h
def tupKind (H : Hp) (sh : List Bool) : PyProof.Rows.KeyKind := ⟨⟨List Key, lexB, lexB_irrefl, lexB_trans, fun a b c h => lexB_neg a b c h, lexB_total⟩, tupOf H sh, []⟩
section
variable {prog : Program} {w : World} {A : Around} {E : Value → Shared → Prop} {s : Shared}
theorem eq_key {k m : Key} {p q : Value} (hp : RelV (kV k) p) (hq : RelV (kV m) q) (hs : k.isLeft = m.isLeft) {Q : Bool → Shared → Prop} (h : Q (decide (k = m)) s) : wpAny (model prog w) A (eqBool p q) Q E s := by
  cases k with
  | inl i =>
    cases m with
    | inl j =>
      obtain ⟨t, rfl⟩ := hp
      obtain ⟨u, rfl⟩ := hq
      refine wpAny_eqBool_int ?_
      have e : (i == j) = decide ((Sum.inl i : Key) = Sum.inl j) := by
        by_cases z : i = j
        · rw [z]; simp
        · rw [decide_eq_false (fun e => z (Sum.inl.inj e))]; simpa using z
      rw [e]; exact h
    | inr y => cases hs
  | inr x =>
    cases m with
    | inl j => cases hs
    | inr y =>
      obtain ⟨t, rfl⟩ := hp
      obtain ⟨u, rfl⟩ := hq
      refine wpAny_eqBool_str ?_
      have e : decide (x = y) = decide ((Sum.inr x : Key) = Sum.inr y) := decide_eq_decide.mpr ⟨fun z => by rw [z], fun z => Sum.inr.inj z⟩
      rw [e]; exact h
theorem lt_key {c : Bool} {k m : Key} {p q : Value} (hp : RelV (kV k) p) (hq : RelV (kV m) q) (hs : k.isLeft = m.isLeft) {Q : Bool → Shared → Prop} (h : Q (kLt k m) s) : wpAny (model prog w) A (oneLt' c p q) Q E s := by
  cases k with
  | inl i =>
    cases m with
    | inl j =>
      obtain ⟨t, rfl⟩ := hp
      obtain ⟨u, rfl⟩ := hq
      cases c with
      | true => exact oneLt_int h
      | false =>
        rw [oneLt'_eq]
        show wpAny _ _ (richCompare .Lt (.int i t) (.int j u) >>= _) _ _ _
        refine wpAny_bind (show wpAny (model prog w) A (compareOp .Lt (.int i t) (.int j u)) _ _ _ from PyProof.Rows.lt_int ?_)
        exact wpAny_pure h
    | inr y => cases hs
  | inr x =>
    cases m with
    | inl j => cases hs
    | inr y =>
      obtain ⟨t, rfl⟩ := hp
      obtain ⟨u, rfl⟩ := hq
      cases c with
      | true => exact oneLt_str h
      | false =>
        rw [oneLt'_eq]
        show wpAny _ _ (richCompare .Lt (.str x t) (.str y u) >>= _) _ _ _
        refine wpAny_bind (show wpAny (model prog w) A (compareOp .Lt (.str x t) (.str y u)) _ _ _ from PyProof.Rows.lt_str ?_)
        exact wpAny_pure h
theorem lt_tup {b : Bool} {x y : Addr} {ks ms : List Key} {its its2 : List Value} (hx : IsTup s.heap x its.toArray) (hy : IsTup s.heap y its2.toArray) (rx : Vals (ks.map kV) its) (ry : Vals (ms.map kV) its2) (hs : shape ks = shape ms) {Q : Bool → Shared → Prop}
    (h : Q (lexB ks ms) s) : wpAny (model prog w) A (keyLt' (tuples' b) (.ref x) (.ref y)) Q E s := by
  obtain ⟨o1, ho1, _, n1, hd1⟩ := hx
  obtain ⟨o2, ho2, _, n2, hd2⟩ := hy
  show wpAny _ _ (Builtin.List.listItems (.ref x) >>= _) _ _ _
  refine wpAny_bind (listItems_at ho1 hd1 (wpAny_bind (listItems_at ho2 hd2 (wpAny_bind ?_))))
  have hl1 := rx.length
  have hl2 := ry.length
  have hl3 : ks.length = ms.length := by have := congrArg List.length hs; simpa [shape] using this
  rw [List.length_map] at hl1 hl2
  refine wpAny_forIn_list _ (fun rest c s' => c = (none, ()) ∧ s' = s ∧ ∃ (vs ws : List Value) (k : Nat) (ks' ms' : List Key), rest = (vs.zip ws).zipIdx k ∧ Vals (ks'.map kV) vs ∧ Vals (ms'.map kV) ws ∧ shape ks' = shape ms' ∧ lexB ks ms = lexB ks' ms') _ ?_ ?_ _ _ ⟨rfl, rfl, its, its2, 0, ks, ms, by simp, rx, ry, hs, rfl⟩
  · rintro ⟨⟨p, q⟩, i⟩ rest c s' ⟨rfl, rfl, vs, ws, k, ks', ms', hz, rv, rw', hs', he⟩
    cases ks' with
    | nil => cases rv; cases hz
    | cons k1 kr =>
      cases ms' with
      | nil => cases hs'
      | cons m1 mr =>
        cases rv with
        | cons r1 rr =>
          cases rw' with
          | cons r1' rr' =>
            rw [List.zip_cons_cons, List.zipIdx_cons] at hz
            injection hz with h1 h2
            injection h1 with h3 h4
            injection h3 with h5 h6
            subst h4 h5 h6
            unfold shape at hs'
            rw [List.map_cons, List.map_cons] at hs'
            injection hs' with s1 s2
            refine wpAny_bind (eq_key r1 r1' s1 ?_)
            rw [lexB_cons] at he
            by_cases e : k1 = m1
            · rw [if_pos e] at he
              rw [decide_eq_true e]
              exact wpAny_pure ⟨rfl, rfl, _, _, _, kr, mr, h2, rr, rr', s2, he⟩
            · rw [if_neg e] at he
              rw [decide_eq_false e]
              refine wpAny_bind (lt_key r1 r1' s1 (wpAny_pure ?_))
              refine wpAny_pure ?_
              rw [← he]; exact h
  · rintro c s' ⟨rfl, rfl, vs, ws, k, ks', ms', hz, rv, rw', hs', he⟩
    refine wpAny_pure ?_
    have e : lexB ks' ms' = false := by
      cases ks' with
      | nil =>
        cases ms' with
        | nil => rfl
        | cons _ _ => cases hs'
      | cons k1 kr =>
        cases ms' with
        | nil => cases hs'
        | cons m1 mr =>
          cases rv with
          | cons r1 rr =>
            cases rw' with
            | cons r1' rr' => rw [List.zip_cons_cons, List.zipIdx_cons] at hz; cases hz
    rw [e] at he
    rw [he] at h
    have e2 : decide (its.toArray.size < its2.toArray.size) = false := decide_eq_false (by rw [List.size_toArray, List.size_toArray]; omega)
    rw [e2]; exact h
end
end L2
set_option Elab.async false
set_option linter.all false
set_option maxRecDepth 100000
namespace L2
open PySem PySem.Spec PyProof.Rows
section
variable {prog : Program} {w : World} {A : Around} {E : Value → Shared → Prop} {s : Shared}
theorem w_mapM {M : Model} {α β : Type} {f : α → Sem β} (R : α → β → Prop) : ∀ (l : List α) {Q : List β → Shared → Prop}, (∀ v ∈ l, ∃ r, R v r ∧ ∀ (Q' : β → Shared → Prop), Q' r s → wpAny M A (f v) Q' E s) → (∀ rs, rs.length = l.length → (∀ r ∈ rs, ∃ v ∈ l, R v r) → Q rs s) → wpAny M A (List.mapM f l) Q E s
  | [], Q, _, q => by rw [List.mapM_nil]; exact wpAny_pure (q [] rfl (fun r h => by cases h))
  | a :: l, Q, h, q => by
    rw [List.mapM_cons]
    obtain ⟨r, hr, hw⟩ := h a (by simp)
    refine wpAny_bind (hw _ (wpAny_bind (w_mapM R l (fun v hv => h v (List.mem_cons_of_mem _ hv)) fun rs hl hrs => wpAny_pure (q (r :: rs) (by simp [hl]) fun z hz => ?_))))
    rcases List.mem_cons.mp hz with rfl | hz
    · exact ⟨a, by simp, hr⟩
    · obtain ⟨v, hv, hR⟩ := hrs z hz
      exact ⟨v, List.mem_cons_of_mem _ hv, hR⟩
theorem w_mapA {M : Model} {α β : Type} {f : α → Sem β} (R : α → β → Prop) (l : Array α) {Q : Array β → Shared → Prop} (h : ∀ v ∈ l.toList, ∃ r, R v r ∧ ∀ (Q' : β → Shared → Prop), Q' r s → wpAny M A (f v) Q' E s) (q : ∀ rs : Array β, (∀ r ∈ rs.toList, ∃ v ∈ l.toList, R v r) → Q rs s) : wpAny M A (Array.mapM f l) Q E s := by
  rw [Array.mapM_eq_mapM_toList, map_eq_pure_bind]
  exact wpAny_bind (w_mapM R l.toList h fun rs _ hr => wpAny_pure (q rs.toArray (by simpa using hr)))
theorem first_tup {a : Addr} {its : List Value} (ht : IsTup s.heap a its.toArray) {Q : Option Value → Shared → Prop} (q : Q its[0]? s) : wpAny (model prog w) A (firstOfTuple' (.ref a)) Q E s := by
  obtain ⟨o, ho, hc, n, hd⟩ := id ht
  show wpAny _ _ (typeOf (.ref a) >>= _) _ _ _
  refine wpAny_bind (wpAny_typeOf ht.typeIs ?_)
  rw [if_neg (by decide)]
  refine wpAny_bind (listItems_at ho hd (wpAny_pure ?_))
  simpa using q
theorem type_key {k : Key} {v : Value} (h : RelV (kV k) v) {Q : Value → Shared → Prop} (q : Q (.type (if k.isLeft then "int" else "str")) s) : wpAny (model prog w) A (typeOf v) Q E s := by
  cases k with
  | inl i => obtain ⟨t, rfl⟩ := h; exact wpAny_typeOf (T := "int") rfl q
  | inr x => obtain ⟨t, rfl⟩ := h; exact wpAny_typeOf (T := "str") rfl q
theorem kind_tup {vs : List Value} (h : ∀ v ∈ vs, ∃ (a : Addr) (its : List Value) (k : Key) (v0 : Value), v = .ref a ∧ IsTup s.heap a its.toArray ∧ its[0]? = some v0 ∧ RelV (kV k) v0) {Q : SortKind → Shared → Prop} (q : ∀ b, Q (tuples' b) s) : wpAny (model prog w) A (keyKind' vs.toArray) Q E s := by
  rw [keyKind'_eq]
  refine wpAny_bind (w_mapA (fun _ r => ∃ (k : Key) (v0 : Value), r = some v0 ∧ RelV (kV k) v0) _ (fun v hv => ?_) fun firsts hf => ?_)
  · obtain ⟨a, its, k, v0, rfl, ht, h0, hr⟩ := h v (by simpa using hv)
    exact ⟨its[0]?, ⟨k, v0, h0, hr⟩, fun Q' q' => first_tup ht q'⟩
  · have hall : (firsts.all fun x => x.isSome) = true := by
      rw [Array.all_eq_true]
      intro i hi
      obtain ⟨v, _, k, v0, e, _⟩ := hf firsts[i] (by simp)
      rw [e]; rfl
    rw [if_pos hall]
    refine wpAny_bind (wpAny_rule (wpAny_bind ?_))
    rw [oneTypeOnly'_eq]
    refine wpAny_bind (w_mapA (fun _ _ => True) _ (fun v hv => ?_) fun ts _ => ?_)
    · have hv' : v ∈ (Array.filterMap id firsts).toList := hv
      rw [Array.toList_filterMap] at hv'
      obtain ⟨o, ho, eo⟩ := List.mem_filterMap.mp hv'
      obtain ⟨_, _, k, v0, e, hr⟩ := hf o ho
      have e2 : v0 = v := by
        have : o = some v := eo
        rw [e] at this; exact Option.some.inj this
      subst e2
      exact ⟨_, trivial, fun Q' q' => type_key hr q'⟩
    · split
      · exact wpAny_pure (wpAny_pure (q _))
      · exact wpAny_pure (wpAny_pure (q _))
theorem w_sort0 {a : Addr} {vs : List Value} {n : Nat} {P : PySem.Fin → Shared → Prop} (ha : s.heap.get? a = some (seqObj "list" vs.toArray n)) (h2 : vs.length < 2)
    (q : P (Fin.done (Flow.ret Value.none)) { s with heap := sortedHeap s.heap a vs ((pairsOf vs).map fun x => x.snd) }) :
    wpAny (model prog w) A (Builtin.«list.sort» { pos := [.ref a] }) P E s := by
  have hz : vs.toArray.size ≤ sizeLine := by rw [List.size_toArray, sizeLine_eq]; omega
  rw [list_sort_plain]
  refine wpAny_bind (listItems_at ha rfl ?_)
  show wpAny _ _ (updateSeq a (fun x => #[]) >>= _) _ _ _
  refine wpAny_bind (wpAny_updateSeq ha rfl ?_ hz (by show 0 ≤ _; omega))
  have e1 := get?_update_seq ha (fun _ => #[])
  refine wpAny_bind (seqEpoch_at e1 rfl ?_)
  refine wpAny_bind (wpAny_newTuple ?_ (by simpa using hz))
  refine wpAny_bind (wpAny_newList ?_ (by show 0 ≤ _; omega))
  refine wpAny_holding ?_
  have hn2 : vs.toArray.size < 2 := by rw [List.size_toArray]; omega
  have hps : (pairsOf vs).size = vs.length := by unfold pairsOf; simp
  rw [if_pos hn2, if_pos hn2]
  have e2 : (((s.heap.update a (Obj.mapSeq fun _ => #[])).push { cls := .type "tuple", data := .seq vs.toArray.toList.toArray }).push { cls := .type "list", data := .seq ([] : List Value).toArray }).get? a = some (seqObj "list" #[] _) := Heap.get?_push_of_some _ (Heap.get?_push_of_some _ e1)
  refine wpAny_bind (wpAny_pure ?_)
  show wpAny _ _ (pure ((), SortSt.mk' general' (vs.toArray.zip vs.toArray) #[] 7 none) >>= _) _ _ _
  refine wpAny_bind (wpAny_pure ?_)
  refine wpAny_bind (seqEpoch_at e2 rfl ?_)
  have hsz : ((pairsOf vs).map fun x => x.snd).size = vs.length := by rw [Array.size_map, hps]
  show wpAny _ _ (updateSeq a (fun x => (pairsOf vs).map fun x => x.snd) >>= _) _ _ _
  refine wpAny_bind (wpAny_updateSeq e2 rfl ?_ (by show 0 ≤ _; omega) (by show ((pairsOf vs).map fun x => x.snd).size ≤ _; rw [hsz]; rw [List.size_toArray] at hz; omega))
  show wpAny _ _ (if _ then _ else _) _ _ _
  rw [if_neg (by simp)]
  exact wpAny_pure q
theorem w_sorted0 {l : Addr} {vs : List Value} {Q : Value → Shared → Prop} (hl : s.heap.IsList l vs.toArray) (h2 : vs.length < 2)
    (q : Q (.ref (s.heap.objs.size + 1)) { s with heap := sortedAll s.heap vs ((pairsOf vs).map fun x => x.snd) }) :
    wpAny (model prog w) A (call (.builtin "sorted") [.ref l]) Q E s := by
  refine Calls.call_function_entry kind_sorted plain_sorted entry_sorted (args_sorted1 (.ref l)) ?_
  have hz : vs.length ≤ sizeLine := by rw [sizeLine_eq]; omega
  refine wpAny_bind (wpAny_pure (wpAny_bind (collect_list hl (wpAny_bind (wpAny_newList ?_ hz)) hz)))
  have hsz : ((s.heap.push (seqObj "list" #[] 0)).update s.heap.objs.size (Obj.mapSeq fun x => x ++ vs.toArray)).objs.size = s.heap.objs.size + 1 := by rw [Heap.size_update, size_push']
  have hoL : ((((s.heap.push (seqObj "list" #[] 0)).update s.heap.objs.size (Obj.mapSeq fun x => x ++ vs.toArray)).push (seqObj "list" vs.toArray 0)).get? (s.heap.objs.size + 1)) = some (seqObj "list" vs.toArray 0) := by
    rw [← hsz]; exact Heap.get?_push_size _ rfl
  show wpAny _ _ (holding [.ref ((s.heap.push (seqObj "list" #[] 0)).update s.heap.objs.size (Obj.mapSeq fun x => x ++ vs.toArray)).objs.size] (call (.builtin "list.sort") [.ref ((s.heap.push (seqObj "list" #[] 0)).update s.heap.objs.size (Obj.mapSeq fun x => x ++ vs.toArray)).objs.size]) >>= fun _ => ret (.ref ((s.heap.push (seqObj "list" #[] 0)).update s.heap.objs.size (Obj.mapSeq fun x => x ++ vs.toArray)).objs.size)) _ _ _
  rw [hsz]
  refine wpAny_bind (wpAny_holding (wpAny_call_entry slot_list_sort ⟨_, hoL, rfl⟩ entry_list_sort ?_ (args_list_sort _)))
  exact w_sort0 hoL h2 ⟨_, rfl, wpAny_pure ⟨_, rfl, q⟩⟩
end
end L2
set_option Elab.async false
set_option linter.all false
set_option maxRecDepth 100000
namespace L2
open PySem PySem.Spec PyProof.Rows
theorem perm_map {α β : Type} (f : α → β) {l m : List β} (h : l.Perm m) : ∀ ts : List α, m = ts.map f → ∃ ts' : List α, ts'.Perm ts ∧ l = ts'.map f := by
  induction h with
  | nil =>
    intro ts e
    have : ts = [] := by cases ts with
      | nil => rfl
      | cons _ _ => cases e
    subst this
    exact ⟨[], .nil, rfl⟩
  | cons x _ ih =>
    intro ts e
    cases ts with
    | nil => cases e
    | cons a r =>
      rw [List.map_cons] at e
      injection e with e1 e2
      obtain ⟨ts', p, e3⟩ := ih r e2
      exact ⟨a :: ts', p.cons a, by rw [List.map_cons, e1, e3]⟩
  | swap x y l =>
    intro ts e
    cases ts with
    | nil => cases e
    | cons a r =>
      cases r with
      | nil => cases e
      | cons b r =>
        rw [List.map_cons, List.map_cons] at e
        injection e with e1 e2
        injection e2 with e2 e3
        exact ⟨b :: a :: r, .swap a b r, by rw [List.map_cons, List.map_cons, e1, e2, e3]⟩
  | trans _ _ ih1 ih2 =>
    intro ts e
    obtain ⟨ts2, p2, e2⟩ := ih2 ts e
    obtain ⟨ts1, p1, e1⟩ := ih1 ts2 e2
    exact ⟨ts1, p1.trans p2, e1⟩
theorem zip_self {α : Type} : ∀ l : List α, l.zip l = l.map fun v => (v, v)
  | [] => rfl
  | a :: r => by rw [List.zip_cons_cons, zip_self r]; rfl
abbrev TupL := List (Addr × List Key)
def refs (ts : TupL) : List V := ts.map fun t => V.ref t.1
def AtT (H : Hp) (ts : TupL) : Prop := ∀ t ∈ ts, H t.1 = some (.tup (t.2.map kV))
theorem vals_refs : ∀ {ts : TupL} {us : List Value}, Vals (refs ts) us → us = ts.map fun t => Value.ref t.1
  | [], _, h => by cases h; rfl
  | t :: r, _, h => by
    cases h with
    | cons a b => rw [vals_refs b]; cases a; rfl
theorem refs_vals : ∀ ts : TupL, Vals (refs ts) (ts.map fun t => Value.ref t.1)
  | [] => .nil
  | t :: r => .cons rfl (refs_vals r)
def rSrtT (K : PySem.W.Frag) : List V → Hp → VK → Prop := fun xs H Q => ∃ (p : Addr) (ts : TupL) (sh : List Bool), xs = [.ref p] ∧ SqL K H p (refs ts) ∧ AtT H ts ∧ sh ≠ [] ∧ (∀ t ∈ ts, shape t.2 = sh) ∧ ts.length < 64 ∧
  ∀ (l : Addr) (ts' : TupL), H l = none → ts'.Perm ts → ts'.Pairwise (fun a b => lexB b.2 a.2 = false) → Q (.ref l) (upd H l (.lst (refs ts')))
theorem call_sortedT {X : Cx} : CallR X (.builtin "sorted") (rSrtT X.K) := by
  intro pins s σ H xs us Q I r h
  obtain ⟨p, ts, sh, rfl, hq, hat, hsh, hts, h64, q⟩ := h
  obtain ⟨u, rfl, rx⟩ := vals1 r
  cases rx
  obtain ⟨its, rv, pl, hz⟩ := I.list hq
  have ei := vals_refs rv
  subst ei
  have tupAt : ∀ t ∈ ts, ∃ its : List Value, Vals (t.2.map kV) its ∧ IsTup s.heap t.1 its.toArray := fun t ht => by
    obtain ⟨i, v, q, _⟩ := I.tuple (SqT.of (K := X.K) (hat t ht))
    exact ⟨i, v, q⟩
  have eptl : (pairsOf (ts.map fun t => Value.ref t.1)).toList = ts.map fun t => (Value.ref t.1, Value.ref t.1) := by
    unfold pairsOf
    rw [Array.toList_zip, zip_self, List.map_map]
    rfl
  have fin : ∀ (out : Array Value) (ts' : TupL), ts'.Perm ts → ts'.Pairwise (fun a b => lexB b.2 a.2 = false) → out.toList = ts'.map (fun t => Value.ref t.1) → EP X pins σ Q (.ref (s.heap.objs.size + 1)) { s with heap := sortedAll s.heap (ts.map fun t => Value.ref t.1) out } := fun out ts' pm pw eo => by
    obtain ⟨e, he⟩ := sortedAll_at s.heap (ts.map fun t => Value.ref t.1) out
    refine ⟨.ref (s.heap.objs.size + 1), _, I.laid (t' := s.toks) (o := .lst (refs ts')) (fun _ _ => sortedAll_old) (Nat.le_succ _) ⟨?_, out.toList, e, by rw [eo]; exact refs_vals ts', by simpa using he⟩, rfl, q _ ts' (I.hok.fresh (Nat.le_succ _)) pm pw⟩
    unfold refs
    rw [List.length_map, pm.length_eq, sizeLine_eq]; omega
  by_cases h2 : ts.length < 2
  · refine w_sorted0 pl.isList (by rw [List.length_map]; exact h2) (fin _ ts (.refl _) ?_ ?_)
    · cases ts with
      | nil => exact .nil
      | cons t r =>
        have : r = [] := List.eq_nil_of_length_eq_zero (by rw [List.length_cons] at h2; omega)
        subst this
        exact List.pairwise_singleton _ _
    · rw [Array.toList_map, eptl, List.map_map]; rfl
  · have hk : PyProof.Rows.KeysOf (tupKind H sh) (pairsOf (ts.map fun t => Value.ref t.1)) := fun z hz' => by
      rw [eptl] at hz'
      obtain ⟨t, ht, rfl⟩ := List.mem_map.mp hz'
      exact ⟨t.2, by rw [← hts t ht]; exact tupOf_at (hat t ht)⟩
    refine w_sorted (κ := tupKind H sh) pl.isList hk (by rw [List.length_map]; omega) (by rw [List.length_map]; exact h64) (fun A' s' kp E' Q' q' => ?_) fun st' p1 p3 => ?_
    · have tup' : ∀ {a : Addr} {its : List Value}, IsTup s.heap a its.toArray → IsTup s'.heap a its.toArray := fun ⟨o, ho, hc⟩ => ⟨o, kp _ _ ho, hc⟩
      refine kind_tup (fun v hv => ?_) fun b => q' _ fun E2 x y a c Q2 hx hy h2 => ?_
      · obtain ⟨t, ht, rfl⟩ := List.mem_map.mp hv
        obtain ⟨i, v, qt⟩ := tupAt t ht
        have hs1 := hts t ht
        cases hk2 : t.2 with
        | nil => rw [hk2] at hs1; exact absurd hs1.symm hsh
        | cons k kr =>
          rw [hk2] at v
          cases v with
          | cons r1 rr => exact ⟨t.1, _, k, _, rfl, tup' qt, rfl, r1⟩
      · obtain ⟨a1, rfl, ha1, s1⟩ := tupOf_eq hx
        obtain ⟨a2, rfl, ha2, s2⟩ := tupOf_eq hy
        obtain ⟨i1, v1, t1, _⟩ := I.tuple (SqT.of (K := X.K) ha1)
        obtain ⟨i2, v2, t2, _⟩ := I.tuple (SqT.of (K := X.K) ha2)
        exact lt_tup (tup' t1) (tup' t2) v1 v2 (s1.trans s2.symm) h2
    · have p1' := p1.toList
      obtain ⟨ts', pm, e⟩ := perm_map (fun t : Addr × List Key => (Value.ref t.1, Value.ref t.1)) p1' ts eptl
      refine fin _ ts' pm ?_ ?_
      · rw [List.pairwise_iff_getElem]
        intro i j hi hj hij
        have hsz : (pairsOf (ts.map fun t => Value.ref t.1)).size = ts'.length := by rw [← Array.length_toList, eptl, List.length_map, pm.length_eq]
        have := p3 i j (by omega) (by rw [hsz]; exact hj)
        have key : ∀ k (hk' : k < ts'.length), KK (tupKind H sh) (arrOf st') k = ts'[k].2 := fun k hk' => by
          unfold KK
          have e1 : (arrOf st')[k]? = some (Value.ref ts'[k].1, Value.ref ts'[k].1) := by
            rw [← Array.getElem?_toList, e, List.getElem?_map, List.getElem?_eq_getElem hk']; rfl
          rw [e1]
          have hm : ts'[k] ∈ ts := pm.mem_iff.mp (List.getElem_mem hk')
          show ((tupOf H sh (.ref ts'[k].1)).getD _) = _
          rw [← hts _ hm, tupOf_at (hat _ hm)]; rfl
        rw [key i hi, key j hj] at this
        exact this
      · rw [Array.toList_map, e, List.map_map]; rfl
theorem srtT {X : Cx} (K : PySem.W.Frag) (h : X.K = K := by rfl) : CallR X (.builtin "sorted") (rSrtT K) := by subst h; exact call_sortedT
end L2
set_option Elab.async false
set_option linter.all false
set_option maxRecDepth 100000
namespace L2
open PySem PySem.Spec PyProof.Rows
section
open PySem.SeqAt
open PySem.AutoSeq1 (wpAny_loadPart')
open PySem.MeetsSeq PySem.MeetsSeq2 PySem.MeetsSeq3
end
section
variable {prog : Program} {w : World} {A : Around} {E : Value → Shared → Prop} {s : Shared}
end
end L2
set_option Elab.async false
set_option linter.all false
set_option maxRecDepth 100000
namespace L2
open PySem PySem.Spec PyProof.Rows
section
variable {prog : Program} {w : World}
end
end L2
set_option Elab.async false
set_option linter.all false
set_option maxRecDepth 100000
namespace L2
open PySem PySem.Spec PyProof.Rows
section
variable {X : Cx}
def rMinT (K : PySem.W.Frag) : List V → Hp → VK → Prop := fun vs H Q => ∃ (p : Addr) (ts : TupL) (sh : List Bool), vs = [.ref p] ∧ SqL K H p (refs ts) ∧ AtT H ts ∧ ts ≠ [] ∧ (∀ t ∈ ts, shape t.2 = sh) ∧
  ∀ t : Addr × List Key, t ∈ ts → (∀ u ∈ ts, lexB u.2 t.2 = false) → Q (.ref t.1) H
def tMinD (K : PySem.W.Frag) (te : TA) : TE := fun σ H Q => te σ H fun vs H1 => ∃ (p : Addr) (ts : TupL) (sh : List Bool), vs = [.ref p] ∧ SqL K H1 p (refs ts) ∧ AtT H1 ts ∧ (∀ t ∈ ts, shape t.2 = sh) ∧ (ts = [] → Q .non H1) ∧
  ∀ t : Addr × List Key, t ∈ ts → (∀ u ∈ ts, lexB u.2 t.2 = false) → Q (.ref t.1) H1
end
end L2
set_option Elab.async false
set_option linter.all false
set_option maxRecDepth 100000
namespace L2
open PySem PySem.Spec PyProof.Rows
def EqS (s : Shared) (items : List Value) (v : Value) (e : Nat → Bool) : Prop := ∀ (prog : Program) (w : World) (A : Around) (E : Value → Shared → Prop) (Q : Bool → Shared → Prop) (m : Nat) (x : Value), A.units + 2 < cLine → items[m]? = some x → Q (e m) s → wpAny (model prog w) A (eqBool x v) Q E s
section
variable {X : Cx}
def rRemI : V → List V → Hp → VK → Prop := fun x vs H Q => ∃ (l : Addr) (ns : List Int) (n : Int), x = .ref l ∧ vs = [.int n] ∧ H l = some (.lst (ns.map V.int)) ∧ n ∈ ns ∧ ns.length ≤ 1000 ∧ Q .non (upd H l (.lst ((ns.erase n).map V.int)))
def rRemT : V → List V → Hp → VK → Prop := fun x vs H Q => ∃ (l : Addr) (ts : TupL) (t : Addr × List Key), x = .ref l ∧ vs = [.ref t.1] ∧ H l = some (.lst (refs ts)) ∧ AtT H ts ∧ t ∈ ts ∧ ts.length ≤ 1000 ∧ ∀ (i : Nat) (hi : i < ts.length), ts[i].2 = t.2 → Q .non (upd H l (.lst (refs (ts.eraseIdx i))))
end
end L2
set_option Elab.async false
set_option linter.all false
set_option maxRecDepth 100000
namespace L2
open PySem PySem.Spec PyProof.Rows
section
open PySem.SeqAt
open PySem.AutoSeq1 (wpAny_loadPart')
open PySem.MeetsSeq PySem.MeetsSeq2 PySem.MeetsSeq3
end
section
variable {prog : Program} {w : World} {A : Around} {E : Value → Shared → Prop} {s : Shared}
end
section
variable {X : Cx}
def rGeK (K : PySem.W.Frag) : R2 := fun x y H Q => ∃ (a b : Addr) (ks ms : List Key), x = .ref a ∧ y = .ref b ∧ SqT K H a (ks.map kV) ∧ SqT K H b (ms.map kV) ∧ shape ks = shape ms ∧ Q (.bl (!lexB ks ms)) H
end
end L2
set_option Elab.async false
set_option linter.all false
set_option maxRecDepth 100000
namespace L2
open PySem PySem.Spec PyProof.Rows
def rMaxL (K : PySem.W.Frag) : List V → Hp → VK → Prop := fun vs H Q => ∃ (p : Addr) (ns : List Int), vs = [.ref p] ∧ SqL K H p (ns.map V.int) ∧ 0 < ns.length ∧ ∀ M, M ∈ ns → (∀ a ∈ ns, a ≤ M) → Q (.int M) H
def isNum (n : Int) : Value → Bool
  | .int a _ => a == n
  | _ => false
section
variable {X : Cx}
def rCountI : V → List V → Hp → VK → Prop := fun x vs H Q => ∃ (l : Addr) (ns : List Int) (n : Int), x = .ref l ∧ vs = [.int n] ∧ H l = some (.lst (ns.map V.int)) ∧ Q (.int ((ns.count n : Nat) : Int)) H
end
section
variable {X : Cx} {T name id : String} {r : V → List V → Hp → VK → Prop} {o e : Expr} {es : List Expr} {to : TE} {t : TA} {apos cpos : Pos}
end
end L2
set_option Elab.async false
set_option linter.all false
set_option maxRecDepth 100000
namespace L2
open PySem PySem.Spec PyProof.Rows
def EqS6 (s : Shared) (items : List Value) (v : Value) (e : Nat → Bool) : Prop := ∀ (prog : Program) (w : World) (A : Around) (E : Value → Shared → Prop) (Q : Bool → Shared → Prop) (m : Nat) (x : Value), A.units + 60 < cLine → items[m]? = some x → Q (e m) s → wpAny (model prog w) A (eqBool x v) Q E s
section
variable {X : Cx}
def rRemD (K : PySem.W.Frag) : V → List V → Hp → VK → Prop := fun x vs H Q => ∃ (l : Addr) (xs : List V) (ds : List PyData) (y : V) (d : PyData) (i : Nat), x = .ref l ∧ vs = [y] ∧ H l = some (.lst xs) ∧ DVs K H xs ds ∧ DV K H y d ∧ (∀ e ∈ ds, e.canLay0 = true) ∧ d.canLay0 = true ∧ d.depth ≤ 56 ∧ xs.length ≤ 1000 ∧
  i < ds.length ∧ (∀ e, ds[i]? = some e → PyData.eqv e d = true) ∧ (∀ m e, m < i → ds[m]? = some e → PyData.eqv e d = false) ∧ Q .non (upd H l (.lst (xs.eraseIdx i)))
def rInD (K : PySem.W.Frag) : R2 := fun x y H Q => ∃ (l : Addr) (xs : List V) (ds : List PyData) (d : PyData), y = .ref l ∧ SqL K H l xs ∧ DVs K H xs ds ∧ DV K H x d ∧ PyData.canLayAll0 ds = true ∧ SeqAt.shaped d = true ∧ d.depth ≤ 60 ∧ Q (.bl (ds.any fun e => PyData.eqv e d)) H
theorem op_inD (hu : X.A.units + 64 < cLine) : OpR X (compareOp .In) (rInD X.K) := by
  intro pins s σ H x y v u Q I rx ry h
  obtain ⟨l, xs, ds, d, rfl, hl, hds, hd, hc, hsd, hdep, q⟩ := h
  obtain ⟨as, ra⟩ := I.reads (.lst hl hds) ry
  obtain ⟨bs, rb⟩ := I.reads hd rx
  exact SeqAt.in_list_reads ra rb hc (SeqAt.canLay_of_shaped hsd) (by have := Nat.min_le_right (PyData.depthAll ds) d.depth; omega) ⟨.bl _, H, I, rfl, q⟩
def rSumC (K : PySem.W.Frag) : List V → Hp → VK → Prop := fun vs H Q => ∃ (p : Addr) (ns : List Int), vs = [.ref p] ∧ SqL K H p (ns.map V.int) ∧ ns.length ≤ 1000 ∧ (∀ n ∈ ns, 0 ≤ n ∧ n ≤ 10000000000000) ∧ Q (.int ns.sum) H
theorem call_sumC (hc : X.calm = true) : CallR X (.builtin "sum") (rSumC X.K) := by
  intro pins s σ H vs us Q I r h
  obtain ⟨p, ns, rfl, hq, hn, hb, q⟩ := h
  obtain ⟨u, rfl, rx⟩ := vals1 r
  cases rx
  obtain ⟨its, rv, pl, _⟩ := I.list hq
  have hi := intsAre_of rv
  obtain ⟨xs, e⟩ := hi.allInts.items
  have hns : ns = xs.toList.map (·.1) := by rw [← hi.numsOf, ← nums_intItems, ← e]
  have hsz : xs.size = ns.length := by rw [hns, List.length_map, Array.length_toList]
  have hnum : numAt xs = fun j => ns.getD j 0 := by funext j; rw [numAt_eq, hns]
  have hl := pl.isList
  rw [e] at hl
  have bound : ∀ n, n ≤ ns.length → 0 ≤ (ns.take n).sum ∧ (ns.take n).sum ≤ 10000000000000 * n := by
    intro n
    induction n with
    | zero => intro _; exact ⟨by simp, by simp⟩
    | succ n ih =>
      intro h
      have ih := ih (by omega)
      have hm := hb ns[n] (List.getElem_mem (by omega))
      have e2 : ns.take (n + 1) = ns.take n ++ [ns[n]] := by rw [List.take_add_one, List.getElem?_eq_getElem (by omega)]; rfl
      rw [e2, List.sum_append]
      have e3 : ([ns[n]] : List Int).sum = ns[n] := by simp
      rw [e3]
      omega
  refine sum_intList (I.ok.hd hc) hl (fun j hj => ?_) fun h' tk t' hk => ⟨.int _, H, I.kept hk, ⟨t', rfl⟩, ?_⟩
  · rw [hnum]
    have hm := hb ns[j] (List.getElem_mem (by omega))
    have hg : ns.getD j 0 = ns[j] := by rw [List.getD_eq_getElem?_getD, List.getElem?_eq_getElem (by omega)]; rfl
    have hp := bound (j + 1) (by omega)
    refine ⟨⟨?_, ?_⟩, ⟨?_, ?_⟩⟩
    · show -(2 ^ 63) ≤ ns.getD j 0
      rw [hg]; omega
    · show ns.getD j 0 < 2 ^ 63
      rw [hg]; omega
    · rw [pre_sumB ns (j + 1) (by omega)]; omega
    · rw [pre_sumB ns (j + 1) (by omega)]; omega
  · rw [hnum, hsz, pre_sumB ns ns.length (Nat.le_refl _), List.take_of_length_le (Nat.le_refl _)]
    exact q
theorem sumC (K : PySem.W.Frag) (hc : X.calm = true := by rfl) (h : X.K = K := by rfl) : CallR X (.builtin "sum") (rSumC K) := by subst h; exact call_sumC hc
theorem slT {X : Cx} (K : PySem.W.Frag) (h : X.K = K := by rfl) : SlR X (rSlT K) := by subst h; exact sl_tup
theorem inD {X : Cx} (K : PySem.W.Frag) {k : Nat} (hr : Room k X.A) (h : X.K = K := by rfl) : OpR X (compareOp .In) (rInD K) := by subst h; exact op_inD hr.units
end
end L2
set_option Elab.async false
set_option linter.all false
set_option maxRecDepth 100000
namespace L2
open PySem PySem.Spec PyProof.Rows
theorem look_at {H : Hp} {k : List Key} {kvs : List (List Key × V)} {xs : List (List Key × Addr × Value)} (r : PairT H kvs xs) : ∀ {v : V}, lookK kvs k = some v → ∃ p, atKey xs k = some p ∧ RelV v p.2 := by
  induction r with
  | nil => intro v h; cases h
  | @cons p q ps qs h t ih =>
    intro v hv
    unfold lookK at hv
    unfold atKey
    rw [List.find?_cons] at hv ⊢
    rw [← h.1]
    by_cases e : p.1 = k
    · rw [decide_eq_true e] at hv ⊢
      cases hv
      exact ⟨q.2, rfl, h.2.2⟩
    · rw [decide_eq_false e] at hv ⊢
      exact ih hv
theorem look_no {H : Hp} {k : List Key} {kvs : List (List Key × V)} {xs : List (List Key × Addr × Value)} (r : PairT H kvs xs) : lookK kvs k = none → atKey xs k = none := by
  induction r with
  | nil => intro _; rfl
  | @cons p q ps qs h t ih =>
    intro hv
    unfold lookK at hv
    unfold atKey
    rw [List.find?_cons] at hv ⊢
    rw [← h.1]
    by_cases e : p.1 = k
    · rw [decide_eq_true e] at hv
      cases hv
    · rw [decide_eq_false e] at hv ⊢
      exact ih hv
section
variable {X : Cx}
def rIxD : R2 := fun x y H Q => ∃ d kvs b ks v, x = .ref d ∧ y = .ref b ∧ H d = some (.dT kvs) ∧ H b = some (.tup (ks.map kV)) ∧ lookK kvs ks = some v ∧ Q v H
theorem ix_dT (hu : X.A.units + 64 < cLine) : IxR X rIxD := by
  intro value slice pins s σ H x y v u Q I rx ry h hs
  obtain ⟨d, kvs, b, ks, z, rfl, rfl, hH, hb, hk, q⟩ := h
  cases rx
  cases ry
  obtain ⟨_, hd, xs, rel, o, es, ep, ho, hex, hdat, hent, hnd⟩ := (show ObjOk X.prog X.w H s.heap d (.dT kvs) from I.hok d _ hH)
  have hm : s.heap.DictOfH (tupleKind (mixKind X.prog X.w)) d xs := ⟨o, es, ep, ho, hex, hdat, hent, pair_all (R := fun ks b => (tupleKind (mixKind X.prog X.w)).is s.heap ks b) (fun ks b e => I.tkey e) rel, hnd⟩
  obtain ⟨p, hp, rp⟩ := look_at rel hk
  exact subscriptTail_builtinR (x := p.2) hm.typeIs PySem.F.slot_dict_getitem.lookup (wpAny_getItem_heap (knd := tupleKind (mixKind X.prog X.w)) (by show X.A.units + 1 < cLine; omega) (I.tkey hb) hm hp ⟨rfl, z, H, I.tok _, rp, q⟩) hs
theorem ixD {k : Nat} (hr : Room k X.A) : IxR X rIxD := ix_dT hr.units
def rSetDT : TSet := fun o i v H Q => ∃ d kvs b ks, o = .ref d ∧ i = .ref b ∧ H d = some (.dT kvs) ∧ H b = some (.tup (ks.map kV)) ∧ lookK kvs ks = none ∧ kvs.length < sizeLine ∧ Q (upd H d (.dT (kvs ++ [(ks, v)])))
theorem set_dT (hu : X.A.units + 64 < cLine) : PSet X rSetDT := by
  intro pins s σ H o i v ov iv u Q I ro ri rv h
  obtain ⟨d, kvs, b, ks, rfl, rfl, hH, hb, hk, hz, q⟩ := h
  cases ro
  cases ri
  obtain ⟨_, hd, xs, rel, o, es, ep, ho, hex, hdat, hent, hnd⟩ := (show ObjOk X.prog X.w H s.heap d (.dT kvs) from I.hok d _ hH)
  have hm : s.heap.DictOfH (tupleKind (mixKind X.prog X.w)) d xs := ⟨o, es, ep, ho, hex, hdat, hent, pair_all (R := fun ks b => (tupleKind (mixKind X.prog X.w)).is s.heap ks b) (fun ks b e => I.tkey e) rel, hnd⟩
  have hl := pair_len rel
  have hno := look_no rel hk
  refine wpAny_setItem_heap (knd := tupleKind (mixKind X.prog X.w)) (k := ks) (by show X.A.units + 1 < cLine; omega) (I.tkey hb) hm (fun h' hm' hs => ?_) (by omega)
  rw [storedH_new hno] at hm'
  obtain ⟨o', es', ep', g1, g2, g3, g4, _, g5⟩ := hm'
  refine ⟨_, ?_, q⟩
  refine I.write (x := d) (e := d) (by rw [hH]; exact True.intro) (.inl rfl) (fun c q hc z => (hs.2 c hc).trans z) ⟨o', g1⟩ ?_
  refine ⟨by rw [List.length_append, List.length_singleton]; omega, hd, xs ++ [(ks, b, u)], ?_, o', es', ep', g1, g2, g3, g4, g5⟩
  refine pair_keep (fun c ys ec => ?_) (pair_snoc rel ⟨rfl, hb, rv⟩)
  rw [upd_ne (ne_of ec hH (fun z => nomatch z))]
  exact ec
theorem setD {k : Nat} (hr : Room k X.A) : PSet X rSetDT := set_dT hr.units
end
end L2
set_option Elab.async false
set_option linter.all false
set_option maxRecDepth 100000
namespace L2
open PySem PySem.Spec PyProof.Rows
abbrev IsZipG (h : Heap) (z TI TO : Addr) (f0 : Value) (fl : Bool) : Prop :=
  h.get? z = some { cls := .type "zip", dict := none, data := .fields #[f0, .bool fl, .bool false, .ref TI, .ref TO], slots := #[] }
section
variable {prog : Program} {w : World} {A : Around} {E : Value → Shared → Prop} {s : Shared}
end
end L2
set_option Elab.async false
set_option linter.all false
set_option maxRecDepth 100000
namespace L2
open PySem PySem.Spec PyProof.Rows
section
variable {prog : Program} {w : World} {A : Around} {R : Result → Shared → Prop} {s : Shared}
end
def InnerGo (J : It) (D : Addr) (ys : List V) (σ : St) (H : Hp) (g : TG) (te : TE) (N : List V → St → Hp → Prop) : Prop :=
  ∃ W : Nat → Nat → List V → St → Hp → Prop, (∃ m, W 0 m ys σ H) ∧
    ∀ i m ys σ2 H2, W i m ys σ2 H2 → (J.stop i H2 ∧ N ys σ2 H2) ∨
      (J.go i H2 ∧ ∃ N2 : List V → St → Hp → Prop, (∀ ys' σ' H', N2 ys' σ' H' → ∃ m', m' < m ∧ W (i + 1) m' ys' σ' H') ∧ ∀ x H3, J.yld i H2 x H3 → g x σ2 H3 fun σ4 H4 =>
        te σ4 H4 fun y H6 => H6 D = some (.lst ys) ∧ ys.length < sizeLine ∧ N2 (ys ++ [y]) σ4 (upd H6 D (.lst (ys ++ [y]))))
def Comp2Go (J : It) (D : Addr) (k : Nat) (σ : St) (H1 : Hp) (g : TG) (wi2 : TI) (g2 : TG) (te : TE) (Q : VK) : Prop :=
  ∃ W : Nat → Nat → List V → St → Hp → Prop, (∃ m, W 0 m [] (σ ++ List.replicate k none) (upd H1 D (.lst []))) ∧
    ∀ i m ys σ2 H2, W i m ys σ2 H2 → (J.stop i H2 ∧ Q (.ref D) H2) ∨
      (J.go i H2 ∧ ∃ N : List V → St → Hp → Prop, (∀ ys' σ' H', N ys' σ' H' → ∃ m', m' < m ∧ W (i + 1) m' ys' σ' H') ∧ ∀ x H3, J.yld i H2 x H3 → g x σ2 H3 fun σ4 H4 => wi2 σ4 H4 fun J2 H5 => InnerGo J2 D ys σ4 H5 g2 te N)
def tComp2 (n : Nat) (wi : TI) (g : TG) (wi2 : TI) (g2 : TG) (te : TE) : TE := fun σ H Q => wi σ H fun J H1 => ∀ D, H1 D = none → Comp2Go J D n σ H1 g wi2 g2 te Q
section
variable {X : Cx} {N N' : List Str} {o c : Scope}
end
end L2
set_option Elab.async false
set_option linter.all false
set_option maxRecDepth 100000
namespace L2
open PySem PySem.Spec PyProof.Rows
end L2
set_option Elab.async false
set_option linter.all false
namespace Hf
open L2
abbrev PW := List (Int × Nat)
def val (P : PW) : Int := (P.map fun p => p.1 * (p.2 : Int)).sum
def ws (P : PW) : List Int := P.map (·.1)
def ds (P : PW) : List Nat := P.map (·.2)
def zs (z : Nat) : List Int := List.replicate z 0
def kr (w E : Nat) (D : List Nat) : Nat := (D.map fun d => w ^ (E - d)).sum
def Kr (w : Nat) (D : List Nat) : Prop := ∃ E, (∀ d ∈ D, d ≤ E) ∧ kr w E D = w ^ E
theorem sumI_perm {l l' : List Int} (h : l.Perm l') : l.sum = l'.sum := by
  induction h with
  | nil => rfl
  | cons x _ ih => rw [List.sum_cons, List.sum_cons, ih]
  | swap x y l => simp only [List.sum_cons]; omega
  | trans _ _ h1 h2 => rw [h1, h2]
theorem sumN_perm {l l' : List Nat} (h : l.Perm l') : l.sum = l'.sum := by
  induction h with
  | nil => rfl
  | cons x _ ih => rw [List.sum_cons, List.sum_cons, ih]
  | swap x y l => simp only [List.sum_cons]; omega
  | trans _ _ h1 h2 => rw [h1, h2]
theorem val_perm {P Q : PW} (h : P.Perm Q) : val P = val Q := sumI_perm (h.map _)
theorem val_cons (p : Int × Nat) (P : PW) : val (p :: P) = p.1 * (p.2 : Int) + val P := by unfold val; rw [List.map_cons, List.sum_cons]
theorem val_app (P Q : PW) : val (P ++ Q) = val P + val Q := by unfold val; rw [List.map_append, List.sum_append]
theorem kr_cons (w E d : Nat) (D : List Nat) : kr w E (d :: D) = w ^ (E - d) + kr w E D := by unfold kr; rw [List.map_cons, List.sum_cons]
theorem kr_app (w E : Nat) (D F : List Nat) : kr w E (D ++ F) = kr w E D + kr w E F := by unfold kr; rw [List.map_append, List.sum_append]
theorem kr_rep (w E d : Nat) : ∀ n, kr w E (List.replicate n d) = n * w ^ (E - d)
  | 0 => by simp [kr]
  | n + 1 => by rw [List.replicate_succ, kr_cons, kr_rep w E d n, Nat.succ_mul]; omega
theorem kr_perm {w E : Nat} {D F : List Nat} (h : D.Perm F) : kr w E D = kr w E F := sumN_perm (h.map _)
theorem Kr.perm {w : Nat} {D F : List Nat} (h : Kr w D) (p : D.Perm F) : Kr w F := by
  obtain ⟨E, h1, h2⟩ := h
  exact ⟨E, fun d hd => h1 d (p.mem_iff.mpr hd), by rw [← kr_perm p]; exact h2⟩
theorem kr_down {w E : Nat} : ∀ {D : List Nat}, (∀ d ∈ D, d ≤ E) → kr w (E + 1) D = w * kr w E D
  | [], _ => by simp [kr]
  | d :: D, h => by
    have h1 := h d (by simp)
    rw [kr_cons, kr_cons, kr_down (fun x hx => h x (by simp [hx])), Nat.mul_add]
    have : E + 1 - d = (E - d) + 1 := by omega
    rw [this, Nat.pow_succ, Nat.mul_comm (w ^ (E - d)) w]
theorem kr_zero (w : Nat) : ∀ D : List Nat, kr w 0 D = D.length
  | [] => rfl
  | d :: D => by rw [kr_cons, kr_zero w D, List.length_cons]; simp; omega
theorem kr_max {w : Nat} (hw : 0 < w) {D : List Nat} : ∀ E, (∀ d ∈ D, d ≤ E) → kr w E D = w ^ E → ∃ E, (∀ d ∈ D, d ≤ E) ∧ E ∈ D ∧ kr w E D = w ^ E
  | 0, h, e => by
    refine ⟨0, h, ?_, e⟩
    rw [kr_zero] at e
    cases D with
    | nil => simp at e
    | cons d D => have := h d (by simp); have : d = 0 := by omega
                  subst this; simp
  | E + 1, h, e => by
    by_cases hE : E + 1 ∈ D
    · exact ⟨E + 1, h, hE, e⟩
    · have h' : ∀ d ∈ D, d ≤ E := fun d hd => by
        have := h d hd
        have : d ≠ E + 1 := fun z => hE (z ▸ hd)
        omega
      refine kr_max hw E h' ?_
      rw [kr_down h', Nat.pow_succ, Nat.mul_comm (w ^ E)] at e
      exact Nat.eq_of_mul_eq_mul_left hw e
theorem kr_count {w E : Nat} : ∀ {D : List Nat}, (∀ d ∈ D, d ≤ E) → ∃ q, kr w E D = D.count E + w * q
  | [], _ => ⟨0, by simp [kr]⟩
  | d :: D, h => by
    obtain ⟨q, hq⟩ := kr_count (w := w) (fun x hx => h x (by simp [hx]) : ∀ d ∈ D, d ≤ E)
    have h1 := h d (by simp)
    rw [kr_cons, hq, List.count_cons]
    by_cases e : d = E
    · subst e; refine ⟨q, ?_⟩; simp; omega
    · obtain ⟨r, e2⟩ : ∃ r, E - d = r + 1 := ⟨E - d - 1, by omega⟩
      refine ⟨q + w ^ r, ?_⟩
      rw [e2, Nat.pow_succ, if_neg (by simpa using e), Nat.mul_add, Nat.mul_comm (w ^ r) w]
      omega
theorem pow_mod (v : Nat) : ∀ j, ∃ q, (v + 1) ^ j = 1 + v * q
  | 0 => ⟨0, by simp⟩
  | j + 1 => by
    obtain ⟨q, hq⟩ := pow_mod v j
    refine ⟨1 + q * (v + 1), ?_⟩
    rw [Nat.pow_succ, hq, Nat.add_mul, Nat.mul_assoc, Nat.mul_add v 1]
    omega
theorem kr_mod (v E : Nat) : ∀ D : List Nat, ∃ q, kr (v + 1) E D = D.length + v * q
  | [] => ⟨0, by simp [kr]⟩
  | d :: D => by
    obtain ⟨q, hq⟩ := kr_mod v E D
    obtain ⟨r, hr⟩ := pow_mod v (E - d)
    refine ⟨q + r, ?_⟩
    rw [kr_cons, hq, hr, List.length_cons, Nat.mul_add]
    omega
theorem swap_le {x y : Int} {d E : Nat} (h : x ≤ y) (g : d ≤ E) : x * (E : Int) + y * (d : Int) ≤ x * (d : Int) + y * (E : Int) := by
  have h1 : 0 ≤ (y - x) * ((E : Int) - d) := Int.mul_nonneg (by omega) (by omega)
  rw [Int.sub_mul, Int.mul_sub, Int.mul_sub] at h1
  omega
theorem ext (E : Nat) : ∀ (n : Nat) (P : PW), P.length = n → ∀ j, (ws P).Pairwise (· ≤ ·) → (∀ d ∈ ds P, d ≤ E) → j ≤ (ds P).count E → ∃ P', ws P' = ws P ∧ (ds P').Perm (ds P) ∧ val P' ≤ val P ∧ (ds P').take j = List.replicate j E
  | 0, P, hn, j, _, _, hj => by
    have := List.eq_nil_of_length_eq_zero hn
    subst this
    refine ⟨[], rfl, .refl _, Int.le_refl _, ?_⟩
    have : j = 0 := by simpa [ds] using hj
    subst this; rfl
  | n + 1, [], hn, j, _, _, hj => by simp at hn
  | n + 1, (x, d) :: P, hn, 0, _, _, hj => ⟨_, rfl, .refl _, Int.le_refl _, rfl⟩
  | n + 1, (x, d) :: P, hn, j + 1, hs, hd, hj => by
    have hn' : P.length = n := by simpa using hn
    have hs' : (ws P).Pairwise (· ≤ ·) := (List.pairwise_cons.mp hs).2
    have hx : ∀ y ∈ ws P, x ≤ y := (List.pairwise_cons.mp hs).1
    have hd' : ∀ d ∈ ds P, d ≤ E := fun e he => hd e (List.mem_cons_of_mem _ he)
    have hdd : d ≤ E := hd d (List.mem_cons_self ..)
    have ec : (ds ((x, d) :: P)).count E = (ds P).count E + if d = E then 1 else 0 := by
      show (d :: ds P).count E = _
      rw [List.count_cons]; simp
    rw [ec] at hj
    by_cases e : d = E
    · subst e
      rw [if_pos rfl] at hj
      obtain ⟨P', a, b, c, f⟩ := ext d n P hn' j hs' hd' (by omega)
      refine ⟨(x, d) :: P', by show x :: ws P' = x :: ws P; rw [a], b.cons d, by rw [val_cons, val_cons]; omega, ?_⟩
      show d :: (ds P').take j = _
      rw [f]; rfl
    · rw [if_neg e] at hj
      have hm : E ∈ ds P := List.count_pos_iff.mp (by omega)
      obtain ⟨⟨y, E'⟩, hp, hE⟩ := List.mem_map.mp hm
      have hE : E' = E := hE
      subst hE
      obtain ⟨A, B, rfl⟩ := List.append_of_mem hp
      have ew : ws (A ++ (y, d) :: B) = ws (A ++ (y, E') :: B) := by simp [ws]
      have c1 : (ds (A ++ (y, d) :: B)).count E' + 1 = (ds (A ++ (y, E') :: B)).count E' := by
        simp only [ds, List.map_append, List.map_cons, List.count_append, List.count_cons]
        have : (d == E') = false := by simpa using e
        simp [this]; omega
      obtain ⟨P', a, b, c, f⟩ := ext E' n (A ++ (y, d) :: B) (by simpa using hn') j (by rw [ew]; exact hs') (fun z hz => by
        simp only [ds, List.map_append, List.map_cons, List.mem_append, List.mem_cons] at hz
        rcases hz with hz | hz | hz
        · exact hd' z (by simp only [ds, List.map_append, List.mem_append]; exact .inl hz)
        · rw [hz]; exact hdd
        · exact hd' z (by simp only [ds, List.map_append, List.map_cons, List.mem_append, List.mem_cons]; exact .inr (.inr hz))) (by omega)
      refine ⟨(x, E') :: P', by show x :: ws P' = x :: ws (A ++ (y, E') :: B); rw [a, ew], ?_, ?_, ?_⟩
      · show (E' :: ds P').Perm (d :: ds (A ++ (y, E') :: B))
        refine (b.cons E').trans ?_
        simp only [ds, List.map_append, List.map_cons]
        refine (List.perm_middle.cons E').trans ((List.Perm.swap ..).trans (List.perm_middle.symm.cons d))
      · have hy : x ≤ y := hx y (by simp [ws])
        have := swap_le hy hdd
        rw [val_app, val_cons] at c
        rw [val_cons, val_cons, val_app, val_cons]
        simp only at c this ⊢
        omega
      · show E' :: (ds P').take j = _
        rw [f]; rfl
theorem reorder {P : PW} {L : List Int} (h : (ws P).Perm L) : ∃ P', P'.Perm P ∧ ws P' = L := by
  obtain ⟨P', a, b⟩ := perm_map (fun p : Int × Nat => p.1) h.symm P rfl
  exact ⟨P', a, b.symm⟩
theorem val_rep {E : Nat} : ∀ {T : PW}, ds T = List.replicate T.length E → val T = (ws T).sum * (E : Int)
  | [], _ => by simp [val, ws]
  | (x, d) :: T, h => by
    have h : d :: ds T = E :: List.replicate T.length E := h
    injection h with h1 h2
    rw [val_cons, val_rep h2, h1]
    show _ = (x :: ws T).sum * _
    rw [List.sum_cons, Int.add_mul]
theorem core {w : Nat} (hw : 2 ≤ w) {P : PW} {L : List Int} (hl : ws P = L) (hs : L.Pairwise (· ≤ ·)) (h2 : 2 ≤ L.length) (hk : Kr w (ds P)) :
    ∃ (e : Nat) (Q : PW), w ≤ L.length ∧ ws Q = L.drop w ∧ Kr w (e :: ds Q) ∧ val (((L.take w).sum, e) :: Q) + (L.take w).sum ≤ val P := by
  obtain ⟨E0, b0, k0⟩ := hk
  obtain ⟨E, hb, hE, k⟩ := kr_max (by omega) E0 b0 k0
  have hlen : (ds P).length = L.length := by rw [← hl]; simp [ds, ws]
  have hE1 : 1 ≤ E := by
    rcases Nat.eq_zero_or_pos E with z | z
    · subst z; rw [kr_zero, hlen] at k; simp at k; omega
    · exact z
  obtain ⟨q, hq⟩ := kr_count (w := w) hb
  have hc : w ≤ (ds P).count E := by
    have hp : 0 < (ds P).count E := List.count_pos_iff.mpr hE
    have e1 : w ^ E = w * w ^ (E - 1) := by
      have : E = (E - 1) + 1 := by omega
      rw [this, Nat.pow_succ, Nat.mul_comm]; simp
    have hdv : w ∣ (ds P).count E := by
      have : w ∣ (ds P).count E + w * q := by rw [← hq, k, e1]; exact Nat.dvd_mul_right ..
      exact (Nat.dvd_add_iff_left (Nat.dvd_mul_right w q)).mpr this
    exact Nat.le_of_dvd hp hdv
  obtain ⟨P', a, b, c, f⟩ := ext E P.length P rfl w (by rw [hl]; exact hs) hb hc
  have hwl : w ≤ L.length := by
    rw [← hlen]; exact Nat.le_trans hc List.count_le_length
  have hPl : P'.length = L.length := by rw [← hl, ← a]; simp [ws]
  have ew : ws (P'.take w) = L.take w := by unfold ws; rw [List.map_take]; show (ws P').take w = _; rw [a, hl]
  have ed : ds (P'.take w) = List.replicate w E := by unfold ds; rw [List.map_take]; exact f
  have etl : (P'.take w).length = w := by rw [List.length_take]; omega
  have eP : P'.take w ++ P'.drop w = P' := List.take_append_drop ..
  refine ⟨E - 1, P'.drop w, hwl, ?_, ?_, ?_⟩
  · unfold ws; rw [List.map_drop]; show (ws P').drop w = _; rw [a, hl]
  · refine ⟨E, fun d hd => ?_, ?_⟩
    · rcases List.mem_cons.mp hd with hd | hd
      · omega
      · refine hb d (b.mem_iff.mp ?_)
        rw [← eP]; simp only [ds, List.map_append, List.mem_append]; exact .inr hd
    · have k1 : kr w E (ds P') = w ^ E := by rw [kr_perm b]; exact k
      have e2 : ds P' = List.replicate w E ++ ds (P'.drop w) := by rw [← ed]; unfold ds; rw [← List.map_append, eP]
      rw [e2, kr_app, kr_rep, Nat.sub_self, Nat.pow_zero, Nat.mul_one] at k1
      rw [kr_cons]
      have : E - (E - 1) = 1 := by omega
      rw [this, Nat.pow_one]; exact k1
  · have v1 : val P' = (L.take w).sum * (E : Int) + val (P'.drop w) := by
      have : val P' = val (P'.take w ++ P'.drop w) := by rw [eP]
      rw [this, val_app, val_rep (E := E) (by rw [etl]; exact ed), ew]
    rw [val_cons]
    have e3 : (((E - 1 : Nat) : Int)) = (E : Int) - 1 := by omega
    simp only [e3, Int.mul_sub, Int.mul_one]
    omega
theorem zs_app (a b : Nat) : zs a ++ zs b = zs (a + b) := by unfold zs; rw [List.replicate_append_replicate]
theorem zs_sum (z : Nat) : (zs z).sum = 0 := by unfold zs; induction z with
  | zero => rfl
  | succ n ih => rw [List.replicate_succ, List.sum_cons, ih]; rfl
theorem zs_sorted {z : Nat} {L : List Int} (h0 : ∀ x ∈ L, 0 ≤ x) (hs : L.Pairwise (· ≤ ·)) : (zs z ++ L).Pairwise (· ≤ ·) := by
  refine List.pairwise_append.mpr ⟨?_, hs, fun a ha b hb => ?_⟩
  · unfold zs
    exact List.pairwise_replicate.mpr (.inr (Int.le_refl 0))
  · rw [(List.mem_replicate.mp ha).2]; exact h0 b hb
theorem sum_nonneg : ∀ {L : List Int}, (∀ x ∈ L, 0 ≤ x) → 0 ≤ L.sum
  | [], _ => by simp
  | x :: L, h => by
    have := h x (by simp)
    have := sum_nonneg (L := L) fun y hy => h y (by simp [hy])
    rw [List.sum_cons]; omega
theorem shrink {w : Nat} (hw : 2 ≤ w) {P : PW} {L : List Int} {z : Nat} (hL : L ≠ []) (h0 : ∀ x ∈ L, 0 ≤ x) (hs : L.Pairwise (· ≤ ·)) (hp : (ws P).Perm (L ++ zs z)) (hz : w - 1 ≤ z) (hk : Kr w (ds P)) :
    ∃ P', (ws P').Perm (L ++ zs (z - (w - 1))) ∧ Kr w (ds P') ∧ val P' ≤ val P := by
  obtain ⟨x, L, rfl⟩ := List.exists_cons_of_ne_nil hL
  obtain ⟨P1, p1, e1⟩ := reorder (hp.trans List.perm_append_comm)
  obtain ⟨e, Q, hwl, eQ, kQ, vQ⟩ := core hw e1 (zs_sorted h0 hs) (by simp [zs]; omega) (hk.perm (p1.symm.map _))
  rw [val_perm p1] at vQ
  have sn : 0 ≤ ((zs z ++ x :: L).take w).sum := sum_nonneg fun y hy => by
    rcases List.mem_append.mp (List.mem_of_mem_take hy) with hy | hy
    · rw [(List.mem_replicate.mp hy).2]; exact Int.le_refl 0
    · exact h0 y hy
  refine ⟨(((zs z ++ x :: L).take w).sum, e) :: Q, ?_, kQ, by omega⟩
  show (((zs z ++ x :: L).take w).sum :: ws Q).Perm _
  rw [eQ]
  by_cases hzw : w ≤ z
  · have e2 : zs z = zs w ++ zs (z - w) := by rw [zs_app]; congr 1; omega
    have lz : (zs w).length = w := by simp [zs]
    rw [e2, List.append_assoc, List.take_append_of_le_length (by omega), List.take_of_length_le (by omega), zs_sum, List.drop_append_of_le_length (by omega), List.drop_of_length_le (by omega), List.nil_append]
    have e3 : zs (z - (w - 1)) = 0 :: zs (z - w) := by
      have : z - (w - 1) = (z - w) + 1 := by omega
      unfold zs; rw [this, List.replicate_succ]
    rw [e3]
    exact (List.perm_append_comm.cons 0).trans List.perm_middle.symm
  · have hz2 : z = w - 1 := by omega
    have lz : (zs z).length = w - 1 := by simp [zs, hz2]
    have e4 : zs z ++ x :: L = (zs z ++ [x]) ++ L := by simp
    have l4 : (zs z ++ [x]).length = w := by rw [List.length_append, lz]; simp; omega
    rw [e4, List.take_append_of_le_length (by omega), List.take_of_length_le (by omega), List.drop_append_of_le_length (by omega), List.drop_of_length_le (by omega), List.nil_append, List.sum_append, zs_sum]
    have e5 : z - (w - 1) = 0 := by omega
    rw [e5]
    simp [zs]
theorem shrunk {w : Nat} (hw : 2 ≤ w) {L : List Int} (hL : L ≠ []) (h0 : ∀ x ∈ L, 0 ≤ x) (hs : L.Pairwise (· ≤ ·)) : ∀ (n z : Nat) (P : PW), z ≤ n → (ws P).Perm (L ++ zs z) → Kr w (ds P) →
    ∃ z' P', z' < w - 1 ∧ (ws P').Perm (L ++ zs z') ∧ Kr w (ds P') ∧ val P' ≤ val P
  | 0, z, P, hn, hp, hk => ⟨z, P, by omega, hp, hk, Int.le_refl _⟩
  | n + 1, z, P, hn, hp, hk => by
    by_cases hz : z < w - 1
    · exact ⟨z, P, hz, hp, hk, Int.le_refl _⟩
    · obtain ⟨P1, a, b, c⟩ := shrink hw hL h0 hs hp (by omega) hk
      obtain ⟨z', P', d, e, f, g⟩ := shrunk hw hL h0 hs n _ P1 (by omega) a b
      exact ⟨z', P', d, e, f, by omega⟩
inductive Hu (w : Nat) : List Int → Nat → Int → Prop
  | stop {e : Int} {m : Nat} : Hu w [e] m 0
  | step {E L : List Int} {m : Nat} {C : Int} : 1 < L.length → E.Perm L → L.Pairwise (· ≤ ·) → Hu w (L.drop m ++ [(L.take m).sum]) w C → Hu w E m (C + (L.take m).sum)
def Fit (w n m : Nat) : Prop := n = 1 ∨ ∃ t, n = m + t * (w - 1)
theorem fit_next {w n m t : Nat} (hw : 2 ≤ w) (h : n = m + t * (w - 1)) : Fit w (n - m + 1) w := by
  cases t with
  | zero => left; omega
  | succ t => right; refine ⟨t, ?_⟩; rw [Nat.succ_mul] at h; omega
theorem val_nonneg : ∀ {P : PW}, (∀ x ∈ ws P, 0 ≤ x) → 0 ≤ val P
  | [], _ => by simp [val]
  | (x, d) :: P, h => by
    have h1 : 0 ≤ x := h x (by simp [ws])
    have := val_nonneg (P := P) fun y hy => h y (List.mem_cons_of_mem _ hy)
    have : 0 ≤ x * (d : Int) := Int.mul_nonneg h1 (by omega)
    rw [val_cons]; simp only; omega
theorem opt {w : Nat} (hw : 2 ≤ w) {E : List Int} {m : Nat} {C : Int} (h : Hu w E m C) : 2 ≤ m → m ≤ w → Fit w E.length m → (∀ e ∈ E, 0 ≤ e) → ∀ (z : Nat) (P : PW), (ws P).Perm (E ++ zs z) → Kr w (ds P) → C ≤ val P := by
  induction h with
  | @stop e m =>
    intro _ _ _ h0 z P hp hk
    refine val_nonneg fun x hx => ?_
    rcases List.mem_append.mp (hp.mem_iff.mp hx) with hx | hx
    · exact h0 x hx
    · rw [(List.mem_replicate.mp hx).2]; exact Int.le_refl 0
  | @step E L m C hl pe hs _ ih =>
    intro hm hmw hf h0 z P hp hk
    have h0L : ∀ e ∈ L, 0 ≤ e := fun e he => h0 e (pe.mem_iff.mpr he)
    have hf2 : ∃ t, L.length = m + t * (w - 1) := by
      rw [pe.length_eq] at hf
      rcases hf with hf | hf
      · omega
      · exact hf
    obtain ⟨t, ht⟩ := hf2
    obtain ⟨z', P1, hz, p1, k1, v1⟩ := shrunk hw (L := L) (by intro c; rw [c] at hl; simp at hl) h0L hs z z P (Nat.le_refl _) (hp.trans (pe.append_right _)) hk
    obtain ⟨P2, p2, e2⟩ := reorder (p1.trans List.perm_append_comm)
    have k2 : Kr w (ds P2) := k1.perm (p2.symm.map _)
    have ez : z' = w - m := by
      obtain ⟨E0, _, kk⟩ := k2
      obtain ⟨v, rfl⟩ : ∃ v, w = v + 1 := ⟨w - 1, by omega⟩
      obtain ⟨q1, hq1⟩ := kr_mod v E0 (ds P2)
      obtain ⟨q2, hq2⟩ := pow_mod v E0
      have hlen : (ds P2).length = z' + (m + t * v) := by
        have : (ds P2).length = (ws P2).length := by simp [ds, ws]
        rw [this, e2, List.length_append, ht]; simp [zs]
      rw [kk, hq2, hlen] at hq1
      have hq : (m + z' - 1) + v * (t + q1) = v * q2 := by rw [Nat.mul_add, Nat.mul_comm v t]; omega
      have hdv : v ∣ m + z' - 1 := (Nat.dvd_add_iff_left (Nat.dvd_mul_right v (t + q1))).mpr (by rw [hq]; exact Nat.dvd_mul_right ..)
      obtain ⟨a, ha⟩ := hdv
      match a with
      | 0 => simp at ha; omega
      | 1 => simp at ha hz; omega
      | a + 2 => rw [Nat.mul_add] at ha; simp at hz; omega
    subst ez
    obtain ⟨e, Q, hwl, eQ, kQ, vQ⟩ := core hw e2 (zs_sorted h0L hs) (by simp [zs]; omega) k2
    have lz : (zs (w - m)).length = w - m := by simp [zs]
    have et : ((zs (w - m) ++ L).take w).sum = (L.take m).sum := by
      rw [List.take_append, List.take_of_length_le (by omega), lz, List.sum_append, zs_sum]
      have : w - (w - m) = m := by omega
      rw [this]; omega
    have ed : (zs (w - m) ++ L).drop w = L.drop m := by
      rw [List.drop_append, List.drop_of_length_le (by omega), lz, List.nil_append]
      congr 1; omega
    rw [et] at vQ
    rw [ed] at eQ
    have := ih hw (Nat.le_refl _) (by rw [List.length_append, List.length_drop]; exact fit_next hw ht) (fun x hx => by
      rcases List.mem_append.mp hx with hx | hx
      · exact h0L x (List.mem_of_mem_drop hx)
      · rw [List.mem_singleton.mp hx]; exact sum_nonneg fun y hy => h0L y (List.mem_of_mem_take hy)) 0 (((L.take m).sum, e) :: Q) (by
        show ((L.take m).sum :: ws Q).Perm _
        rw [eQ]; simp only [zs, List.replicate_zero, List.append_nil]
        exact (List.perm_append_comm (l₁ := [(L.take m).sum]))) kQ
    rw [val_perm p2] at vQ
    omega
structure Fits (w n m : Nat) : Prop where
  w2 : 2 ≤ w
  m2 : 2 ≤ m
  mw : m ≤ w
  ok : Fit w n m
end Hf
set_option Elab.async false
set_option linter.all false
set_option maxRecDepth 100000
namespace L2
open PySem PySem.Spec PyProof.Rows
section
variable {prog : Program} {w : World} {A : Around} {R : Result → Shared → Prop} {s : Shared}
end
def DictGo (J : It) (D : Addr) (k : Nat) (σ : St) (H1 : Hp) (g : TG) (tc : TT) (tk te : TE) (Q : VK) : Prop :=
  ∃ W : Nat → Nat → List (List Key × V) → St → Hp → Prop, (∃ m, W 0 m [] (σ ++ List.replicate k none) (upd H1 D (.dT []))) ∧
    ∀ i m ys σ2 H2, W i m ys σ2 H2 → (J.stop i H2 ∧ Q (.ref D) H2) ∨
      (J.go i H2 ∧ ∃ N : List (List Key × V) → St → Hp → Prop, (∀ ys' σ' H', N ys' σ' H' → ∃ m', m' < m ∧ W (i + 1) m' ys' σ' H') ∧ ∀ x H3, J.yld i H2 x H3 → g x σ2 H3 fun σ4 H4 => tc σ4 H4 fun b H5 =>
        if b = true then tk σ4 H5 fun kv H6 => te σ4 H6 fun y H7 => ∃ (b : Addr) (ks : List Key), kv = .ref b ∧ H7 D = some (.dT ys) ∧ H7 b = some (.tup (ks.map kV)) ∧ lookK ys ks = none ∧ ys.length < sizeLine ∧ N (ys ++ [(ks, y)]) σ4 (upd H7 D (.dT (ys ++ [(ks, y)]))) else N ys σ4 H5)
def tDComp (n : Nat) (wi : TI) (g : TG) (tc : TT) (tk te : TE) : TE := fun σ H Q => wi σ H fun J H1 => ∀ D, H1 D = none → DictGo J D n σ H1 g tc tk te Q
section
variable {X : Cx} {N N' : List Str} {o c : Scope}
end
end L2
set_option Elab.async false
set_option linter.all false
set_option maxRecDepth 100000
namespace L2
open PySem PySem.Spec PyProof.Rows
section
variable {κ : Type} [DecidableEq κ]
def valV (kvs : List (κ × V)) (k : κ) : Option V := (kvs.find? fun kv => decide (kv.1 = k)).map (·.2)
def putK (kvs : List (κ × V)) (k : κ) (v : V) : List (κ × V) :=
  if (kvs.any fun kv => decide (kv.1 = k)) = true then kvs.map (fun kv => if kv.1 = k then (kv.1, v) else kv) else kvs ++ [(k, v)]
def dropK (kvs : List (κ × V)) (k : κ) : List (κ × V) := kvs.filter fun kv => decide (kv.1 ≠ k)
theorem valV_nil {k : κ} : valV ([] : List (κ × V)) k = none := rfl
end
abbrev KT (H : Hp) : List (List Key × V) → List (List Key × Addr × Value) → Prop := Paired fun p q => p.1 = q.1 ∧ H q.2.1 = some (.tup (p.1.map kV)) ∧ RelV p.2 q.2.2
section
variable {P : Program} {w : World} {H : Hp} {h : Heap} {a : Addr}
end
def DGet (H : Hp) (a : Addr) (y : V) (r : Option V) : Prop :=
  (∃ kvs k, Rd H a (.dK kvs) ∧ y = kV k ∧ r = valV kvs k) ∨ ∃ kvs k b, Rd H a (.dT kvs) ∧ y = .ref b ∧ H b = some (.tup (k.map kV)) ∧ r = valV kvs k
def DPut (H : Hp) (a : Addr) (y v : V) (H' : Hp) : Prop :=
  (∃ kvs k, H a = some (.dK kvs) ∧ y = kV k ∧ kvs.length < sizeLine ∧ H' = upd H a (.dK (putK kvs k v))) ∨
  ∃ kvs k b, H a = some (.dT kvs) ∧ y = .ref b ∧ H b = some (.tup (k.map kV)) ∧ kvs.length < sizeLine ∧ H' = upd H a (.dT (putK kvs k v))
section
variable {X : Cx} {pins : List (Addr × Obj)} {σ : St} {H : Hp} {s : Shared} {a : Addr} {y v : V} {u r : Value} {o : Option V} {A : Around} {E : Value → Shared → Prop}
end
section
variable {X : Cx} {pins : List (Addr × Obj)} {σ : St} {H : Hp} {s : Shared} {a : Addr} {kvs : List (Key × V)} {k : Key} {u : Value} {A : Around} {E : Value → Shared → Prop}
end
def NoSl (i : Expr) : Prop := ∀ ov iv, subscripted i false ov iv = operate [ov, iv] (getItem ov iv)
def tDGet (td ty : TE) : TE := fun σ H Q => td σ H fun x H1 => ty σ H1 fun y H2 => ∃ a v, x = .ref a ∧ DGet H2 a y (some v) ∧ Q v H2
def tDIn (ty td : TE) : TE := fun σ H Q => ty σ H fun y H1 => td σ H1 fun x H2 => ∃ a o, x = .ref a ∧ DGet H2 a y o ∧ Q (.bl o.isSome) H2
def tDNotIn (ty td : TE) : TE := fun σ H Q => ty σ H fun y H1 => td σ H1 fun x H2 => ∃ a o, x = .ref a ∧ DGet H2 a y o ∧ Q (.bl (!o.isSome)) H2
def sDPut (td ty tv : TE) : TS := fun D σ H => tv σ H fun v H1 => td σ H1 fun x H2 => ty σ H2 fun y H3 => ∃ a H4, x = .ref a ∧ DPut H3 a y v H4 ∧ D.nx σ H4
def sDAug (td ty tv : TE) (rd : V → V → Hp → VK → Prop) : TS := fun D σ H => td σ H fun x H1 => ty σ H1 fun y H2 => ∃ a v, x = .ref a ∧ DGet H2 a y (some v) ∧
  tv σ H2 fun y2 H3 => rd v y2 H3 fun z H4 => ∃ H5, DPut H4 a y z H5 ∧ D.nx σ H5
def sDDel (td ty : TE) : TS := fun D σ H => td σ H fun x H1 => ty σ H1 fun y H2 => ∃ a kvs k, x = .ref a ∧ H2 a = some (.dK kvs) ∧ y = kV k ∧ (valV kvs k).isSome = true ∧ D.nx σ (upd H2 a (.dK (dropK kvs k)))
section
variable {X : Cx} {o i e value : Expr} {pos pos' tpos : Pos} {td ty tv : TE}
end
def tDNewK : TE := fun _ H Q => ∀ p, H p = none → Q (.ref p) (upd H p (.dK []))
def tDNewT : TE := fun _ H Q => ∀ p, H p = none → Q (.ref p) (upd H p (.dT []))
section
variable {X : Cx} {pos : Pos}
end
def tPairs : List (TE × TE) → St → Hp → (List (V × V) → Hp → Prop) → Prop
  | [], _, H, Q => Q [] H
  | (tk, tv) :: r, σ, H, Q => tk σ H fun x H1 => tv σ H1 fun y H2 => tPairs r σ H2 fun ps H3 => Q ((x, y) :: ps) H3
abbrev VV : List (V × V) → List (Value × Value) → Prop := Paired fun p q => RelV p.1 q.1 ∧ RelV p.2 q.2
def PPs (X : Cx) (pos : Pos) (keys : List (Option Expr)) (values : List Expr) (trs : List (TE × TE)) : Prop :=
  ∀ (pins : List (Addr × Obj)) (s : Shared) (σ : St) (H : Hp) (Q : List (V × V) → Hp → Prop), Inv X pins σ H s → tPairs trs σ H Q →
    wpAny (model X.prog X.w) X.A (evalPairs (pairTrees keys values X.env pos)) (fun vs s' => ∃ ps H', Inv X pins σ H' s' ∧ VV ps vs ∧ Q ps H') X.xe s
def mergeK (kvs more : List (Key × V)) : List (Key × V) := more.foldl (fun acc kv => putK acc kv.1 kv.2) kvs
def tDisp (trs : List (TE × TE)) : TE := fun σ H Q => ∀ p, H p = none → tPairs trs σ (upd H p (.dK [])) fun ps H2 => H2 p = some (.dK []) ∧ ∃ kvs : List (Key × V), ps = kvs.map (fun kv => (kV kv.1, kv.2)) ∧ kvs.length ≤ 15 ∧ Q (.ref p) (upd H2 p (.dK (mergeK [] kvs)))
structure M1 (X : Cx) (o : Expr) (m : Str) (apos : Pos) (e : Expr) (cpos : Pos) : Prop where
  base : attributeBase o m X.env (eval o X.env) = eval o X.env
  few : ((backTo cpos (starEach [e] X.env)).all (fun x => !x.1) && (backToKw cpos (keywordEach [] X.env)).all (fun x => x.1.isSome)
    && decide (([e] : List Expr).length + ([] : List Keyword).length + (if ([] : List Keyword).isEmpty then 0 else 1) < 30)) = true
  line : (apos.endLine == cpos.line) = true
  trees : backTo cpos (starEach [e] X.env) = [(false, eval e X.env)]
structure M2 (X : Cx) (o : Expr) (m : Str) (apos : Pos) (e f : Expr) (cpos : Pos) : Prop where
  base : attributeBase o m X.env (eval o X.env) = eval o X.env
  few : ((backTo cpos (starEach [e, f] X.env)).all (fun x => !x.1) && (backToKw cpos (keywordEach [] X.env)).all (fun x => x.1.isSome)
    && decide (([e, f] : List Expr).length + ([] : List Keyword).length + (if ([] : List Keyword).isEmpty then 0 else 1) < 30)) = true
  line : (apos.endLine == cpos.line) = true
  trees : backTo cpos (starEach [e, f] X.env) = [(false, eval e X.env), (false, eval f X.env)]
def IsD (H : Hp) (a : Addr) : Prop := (∃ kvs, Rd H a (.dK kvs)) ∨ ∃ kvs, Rd H a (.dT kvs)
section
variable {X : Cx} {pins : List (Addr × Obj)} {σ : St} {H : Hp} {s : Shared} {a : Addr} {y d : V} {u r : Value} {o : Option V} {A : Around} {E : Value → Shared → Prop}
end
def tDGet1 (td ty : TE) : TE := fun σ H Q => td σ H fun x H1 => ∃ a, x = .ref a ∧ IsD H1 a ∧ ty σ H1 fun y H2 => ∃ o, DGet H2 a y o ∧ Q (o.getD .non) H2
def tDGet2 (td ty tx : TE) : TE := fun σ H Q => td σ H fun x H1 => ∃ a, x = .ref a ∧ IsD H1 a ∧ ty σ H1 fun y H2 => tx σ H2 fun z H3 => ∃ o, DGet H3 a y o ∧ Q (o.getD z) H3
def tDPop1 (td ty : TE) : TE := fun σ H Q => td σ H fun x H1 => ∃ a, x = .ref a ∧ IsD H1 a ∧ ty σ H1 fun y H2 => ∃ kvs k v, H2 a = some (.dK kvs) ∧ y = kV k ∧ valV kvs k = some v ∧ Q v (upd H2 a (.dK (dropK kvs k)))
def tDPop2 (td ty tx : TE) : TE := fun σ H Q => td σ H fun x H1 => ∃ a, x = .ref a ∧ IsD H1 a ∧ ty σ H1 fun y H2 => tx σ H2 fun z H3 => ∃ kvs k, H3 a = some (.dK kvs) ∧ y = kV k ∧
  (∀ v, valV kvs k = some v → Q v (upd H3 a (.dK (dropK kvs k)))) ∧ (valV kvs k = none → Q z H3)
section
variable {X : Cx} {o e f : Expr} {apos cpos : Pos} {td ty tx : TE}
end
section
variable {X : Cx} {pins : List (Addr × Obj)} {σ : St} {H : Hp} {s : Shared} {a : Addr} {kvs : List (Key × V)} {A : Around} {E : Value → Shared → Prop}
end
section
variable {X : Cx} {pins : List (Addr × Obj)} {σ : St} {H : Hp} {s : Shared} {a : Addr} {y : V} {u : Value} {A : Around} {E : Value → Shared → Prop}
end
end L2
namespace L2
open PySem PySem.Spec PyProof.Rows
section
variable {X : Cx}
end
section
variable {κ : Type} [DecidableEq κ]
end
end L2
set_option Elab.async false
set_option linter.all false
set_option maxRecDepth 100000
namespace L2
open PySem PySem.Spec PyProof.Rows
structure Mf (P : Program) (w : World) (K : PySem.W.Frag) (mg : Str → Option Value) (base : Heap) (k : Nat) (C : Addr) (m : Str) (ps : List Str) (sp : Sp) : Prop where
  ex : ∃ f fd, FnOk P w K mg base CX0 k f fd ps sp ∧ Meth K C m f ∧ Binds K fd ps []
structure Cf (P : Program) (w : World) (K : PySem.W.Frag) (mg : Str → Option Value) (base : Heap) (k : Nat) (C : Addr) (x : Str) (ps : List Str) (sp : Sp) : Prop where
  ex : ∃ f fd, FnOk P w K mg base CX0 k f fd ps sp ∧ Mk K C f ∧ Binds K fd ps [] ∧ mg x = some (.ref C)
structure TopM (K : PySem.W.Frag) (C : Addr) (m qual : Str) (st : Stmt) (ps : List Str) : Prop where
  ex : ∃ f fd, Fun K m qual st f fd ∧ Meth K C m f ∧ Binds K fd ps []
structure TopI (K : PySem.W.Frag) (mg : Str → Option Value) (C : Addr) (x qual : Str) (st : Stmt) (ps : List Str) : Prop where
  ex : ∃ f fd, Fun K "__init__" qual st f fd ∧ Mk K C f ∧ Binds K fd ps [] ∧ mg x = some (.ref C)
section
variable {P : Program} {w : World} {K : PySem.W.Frag} {mg : Str → Option Value} {base : Heap}
end
section
variable {X : Cx} {k j : Nat} {C : Addr} {m x : Str} {ps : List Str} {sp : Sp} {o e : Expr} {es : List Expr} {ta : TE} {t : TA} {p apos pos : Pos} {pl : Sem Bool}
end
end L2
set_option Elab.async false
set_option linter.all false
set_option maxRecDepth 100000
namespace L2
open PySem PySem.Spec PyProof.Rows
section
variable {X : Cx} {pins : List (Addr × Obj)} {σ : St} {H : Hp} {s : Shared} {d : Addr} {o : Obj} {u : HO}
end
def tThaw (t : TE) : TE := fun σ H Q => ∃ d u, H d = some u ∧ Mut (some u) ∧ t σ H fun v H' => ∃ o, H' d = some (.frz o u) ∧ Q v (upd H' d u)
def rListD : List V → Hp → VK → Prop := fun xs H Q => ∃ d kvs, xs = [.ref d] ∧ H d = some (.dK kvs) ∧ ∀ l, H l = none → Q (.ref l) (upd H l (.lst (kvs.map fun kv => kV kv.1)))
end L2
set_option Elab.async false
set_option linter.all false
set_option maxRecDepth 100000
namespace L2
open PySem PySem.Spec PyProof.Rows
def Itv (d : Addr) (o : Obj) (kvs : List (Key × V)) : It :=
  ⟨fun i H => H d = some (.frz o (.dK kvs)) ∧ i < kvs.length, fun i H v H' => H' = H ∧ ∃ k, kvs[i]? = some (k, v), fun i H => H d = some (.frz o (.dK kvs)) ∧ kvs.length ≤ i⟩
def Itk (d : Addr) (o : Obj) (kvs : List (Key × V)) : It :=
  ⟨fun i H => H d = some (.frz o (.dK kvs)) ∧ i < kvs.length, fun i H v H' => H' = H ∧ ∃ k x, kvs[i]? = some (k, x) ∧ v = kV k, fun i H => H d = some (.frz o (.dK kvs)) ∧ kvs.length ≤ i⟩
def iKeys (tl : TE) : TI := fun σ H R => tl σ H fun x H1 => ∃ d kvs, x = .ref d ∧ H1 d = some (.dK kvs) ∧ ∀ o, R (Itk d o kvs) (upd H1 d (.frz o (.dK kvs)))
end L2
set_option Elab.async false
set_option linter.all false
set_option maxRecDepth 100000
namespace L2
open PySem PySem.Spec PyProof.Rows
def rSortedD : List V → Hp → VK → Prop := fun xs H Q => ∃ d kvs ns, xs = [.ref d] ∧ H d = some (.dK kvs) ∧ kvs.map (·.1) = ns.map Sum.inl ∧ ns.length < 64 ∧
  ∀ (l : Addr) (ns' : List Int), H l = none → ns'.Perm ns → ns'.Pairwise (· ≤ ·) → Q (.ref l) (upd H l (.lst (ns'.map V.int)))
def rSumL (K : PySem.W.Frag) : List V → Hp → VK → Prop := fun vs H Q => ∃ (p : Addr) (ns : List Int), vs = [.ref p] ∧ SqL K H p (ns.map V.int) ∧ ns.length ≤ 1000 ∧ (∀ n ∈ ns, 0 ≤ n ∧ n ≤ 1000000) ∧ Q (.int ns.sum) H
def iVals (tl : TE) : TI := fun σ H R => tl σ H fun x H1 => ∃ d kvs, x = .ref d ∧ H1 d = some (.dK kvs) ∧ ∀ o, R (Itv d o kvs) (upd H1 d (.frz o (.dK kvs)))
end L2
set_option Elab.async false
set_option linter.all false
set_option maxRecDepth 100000
namespace L2
open PySem PySem.Spec PyProof.Rows
def Iti (d : Addr) (o : Obj) (kvs : List (Key × V)) : It :=
  ⟨fun i H => H d = some (.frz o (.dK kvs)) ∧ i < kvs.length,
   fun i H v H' => ∃ p k x, H p = none ∧ v = .ref p ∧ kvs[i]? = some (k, x) ∧ H' = upd H p (.tup [kV k, x]),
   fun i H => H d = some (.frz o (.dK kvs)) ∧ kvs.length ≤ i⟩
def iItems (tl : TE) : TI := fun σ H R => tl σ H fun x H1 => ∃ d kvs, x = .ref d ∧ H1 d = some (.dK kvs) ∧ ∀ o, R (Iti d o kvs) (upd H1 d (.frz o (.dK kvs)))
end L2
set_option Elab.async false
set_option linter.all false
set_option maxRecDepth 100000
namespace L2
open PySem PySem.Spec PyProof.Rows
def DictGoK (J : It) (D : Addr) (k : Nat) (σ : St) (H1 : Hp) (g : TG) (tc : TT) (tk te : TE) (Q : VK) : Prop :=
  ∃ W : Nat → Nat → List (Key × V) → St → Hp → Prop, (∃ m, W 0 m [] (σ ++ List.replicate k none) (upd H1 D (.dK []))) ∧
    ∀ i m ys σ2 H2, W i m ys σ2 H2 → (J.stop i H2 ∧ Q (.ref D) H2) ∨
      (J.go i H2 ∧ ∃ N : List (Key × V) → St → Hp → Prop, (∀ ys' σ' H', N ys' σ' H' → ∃ m', m' < m ∧ W (i + 1) m' ys' σ' H') ∧ ∀ x H3, J.yld i H2 x H3 → g x σ2 H3 fun σ4 H4 => tc σ4 H4 fun b H5 =>
        if b = true then tk σ4 H5 fun kv H6 => te σ4 H6 fun y H7 => ∃ k : Key, kv = kV k ∧ H7 D = some (.dK ys) ∧ ys.length < sizeLine ∧ N (putK ys k y) σ4 (upd H7 D (.dK (putK ys k y))) else N ys σ4 H5)
def tKComp (n : Nat) (wi : TI) (g : TG) (tc : TT) (tk te : TE) : TE := fun σ H Q => wi σ H fun J H1 => ∀ D, H1 D = none → DictGoK J D n σ H1 g tc tk te Q
section
variable {X : Cx} {N N' : List Str} {o c : Scope}
end
section
variable {X : Cx}
def rIxK : R2 := fun x y H Q => ∃ d kvs k v, x = .ref d ∧ y = kV k ∧ H d = some (.dK kvs) ∧ valV kvs k = some v ∧ Q v H
end
end L2
set_option Elab.async false
set_option linter.all false
set_option maxRecDepth 100000
namespace L2
open PySem PySem.Spec PyProof.Rows
set_option maxHeartbeats 4000000 in
section
variable {prog : Program} {w : World} {A : Around} {R : Result → Shared → Prop} {I : Addr} {fp wr : List Addr} {G : Array GenState → Array GenState → Prop} {n : Nat} {P : Nat → Value → Prop} {St : Nat → Shared → Prop} {K : Type} [DecidableEq K] {knd : KeyKind prog w K}
end
section
variable {prog : Program} {w : World} {A : Around} {E : Value → Shared → Prop} {s : Shared} {K : Type} [DecidableEq K] {knd : KeyKind prog w K}
end
def rDictP (K : PySem.W.Frag) : List V → Hp → VK → Prop := fun xs H Q => ∃ (a : Addr) (ts : List (Addr × Key × V)), xs = [.ref a] ∧ SqL K H a (ts.map fun t => V.ref t.1) ∧ (∀ t ∈ ts, H t.1 = some (.tup [kV t.2.1, t.2.2])) ∧ ts.length ≤ 1000 ∧
  ∀ D, H D = none → Q (.ref D) (upd H D (.dK (mergeK [] (ts.map (·.2)))))
def rInG : R2 := fun y x H Q => ∃ a o, x = .ref a ∧ DGet H a y o ∧ Q (.bl o.isSome) H
def rNotInG : R2 := fun y x H Q => ∃ a o, x = .ref a ∧ DGet H a y o ∧ Q (.bl (!o.isSome)) H
def rIxG : R2 := fun x y H Q => ∃ a v, x = .ref a ∧ DGet H a y (some v) ∧ Q v H
section
variable {X : Cx} {k : Nat}
def rSetG : TSet := fun o i v H Q => ∃ a H', o = .ref a ∧ DPut H a i v H' ∧ Q H'
def rEqE (neg : Bool) : R2 := fun x y H Q => ∃ a b kvs, x = .ref a ∧ y = .ref b ∧ H a = some (.dK kvs) ∧ H b = some (.dK []) ∧ Q (.bl (if neg then !kvs.isEmpty else kvs.isEmpty)) H
end
end L2
set_option Elab.async false
set_option linter.all false
set_option maxRecDepth 100000
namespace L2
open PySem PySem.Spec PyProof.Rows
mutual
inductive DH (H : Hp) : V → PyData → Prop where
  | non : DH H .non .none
  | bl (b : Bool) : DH H (.bl b) (.bool b)
  | int (i : Int) : DH H (.int i) (.int i)
  | str (s : Str) : DH H (.str s) (.str s)
  | lst {a : Addr} {xs : List V} {ds : List PyData} : H a = some (.lst xs) → DHs H xs ds → DH H (.ref a) (.list ds)
  | tup {a : Addr} {xs : List V} {ds : List PyData} : H a = some (.tup xs) → DHs H xs ds → DH H (.ref a) (.tuple ds)
inductive DHs (H : Hp) : List V → List PyData → Prop where
  | nil : DHs H [] []
  | cons {x : V} {d : PyData} {xs : List V} {ds : List PyData} : DH H x d → DHs H xs ds → DHs H (x :: xs) (d :: ds)
end
mutual
theorem DH.mono {H H' : Hp} (s : Same H H') : ∀ {x : V} {d : PyData}, DH H x d → DH H' x d
  | _, _, .non => .non
  | _, _, .bl b => .bl b
  | _, _, .int i => .int i
  | _, _, .str z => .str z
  | _, _, .lst h hs => .lst (s _ _ h) (DHs.mono s hs)
  | _, _, .tup h hs => .tup (s _ _ h) (DHs.mono s hs)
theorem DHs.mono {H H' : Hp} (s : Same H H') : ∀ {xs : List V} {ds : List PyData}, DHs H xs ds → DHs H' xs ds
  | _, _, .nil => .nil
  | _, _, .cons h hs => .cons (DH.mono s h) (DHs.mono s hs)
end
mutual
theorem DH.dv {K : PySem.W.Frag} {H : Hp} : ∀ {x : V} {d : PyData}, DH H x d → DV K H x d
  | _, _, .non => .non
  | _, _, .bl b => .bl b
  | _, _, .int i => .int i
  | _, _, .str z => .str z
  | _, _, .lst h hs => .lst (SqL.of h) (DHs.dv hs)
  | _, _, .tup h hs => .tup (SqT.of h) (DHs.dv hs)
theorem DHs.dv {K : PySem.W.Frag} {H : Hp} : ∀ {xs : List V} {ds : List PyData}, DHs H xs ds → DVs K H xs ds
  | _, _, .nil => .nil
  | _, _, .cons h hs => .cons (DH.dv h) (DHs.dv hs)
end
def tyD : PyData → String
  | .none => "NoneType"
  | .bool _ => "bool"
  | .int _ => "int"
  | .str _ => "str"
  | .tuple _ => "tuple"
  | _ => "list"
def isIntD : PyData → Bool
  | .int _ => true
  | _ => false
def isBoolD : PyData → Bool
  | .bool _ => true
  | _ => false
def isLstD : PyData → Bool
  | .list _ => true
  | _ => false
def isTupD : PyData → Bool
  | .tuple _ => true
  | _ => false
def isStrD : PyData → Bool
  | .str _ => true
  | _ => false
section
open PySem.W
end
end L2
set_option Elab.async false
set_option linter.all false
set_option maxRecDepth 100000
namespace L2
open PySem PySem.Spec PyProof.Rows
def tOrK (K : PySem.W.Frag) (ta tb : TE) : TE := fun σ H Q => ta σ H fun x H1 => ∃ k, TruV K x H1 k ∧ if k = true then Q x H1 else tb σ H1 Q
end L2
set_option Elab.async false
set_option linter.all false
set_option maxRecDepth 100000
namespace L2
open PySem PySem.Spec PyProof.Rows
end L2
set_option Elab.async false
set_option linter.all false
set_option maxRecDepth 100000
namespace L2
open PySem PySem.Spec PyProof.Rows
def off (p : Addr) (H : Hp) : Hp := fun b => if b = p then none else H b
end L2
set_option Elab.async false
set_option linter.all false
set_option maxRecDepth 100000
namespace L2
open PySem PySem.Spec PyProof.Rows
section
variable {prog : Program} {w : World} {A : Around} {R : Result → Shared → Prop} {I : Addr} {fp wr : List Addr} {G : Array GenState → Array GenState → Prop} {n : Nat} {P : Nat → Value → Prop} {St : Nat → Shared → Prop} {K : Type} [DecidableEq K] {knd : KeyKind prog w K}
end
def rDPop : V → List V → Hp → VK → Prop := fun x vs H Q => ∃ a kvs k v, x = .ref a ∧ vs = [kV k] ∧ H a = some (.dK kvs) ∧ valV kvs k = some v ∧ Q v (upd H a (.dK (dropK kvs k)))
def rDUpd (K : PySem.W.Frag) : V → List V → Hp → VK → Prop := fun x vs H Q => ∃ (D a : Addr) (kvs : List (Key × V)) (ts : List (Addr × Key × V)), x = .ref D ∧ vs = [.ref a] ∧ H D = some (.dK kvs) ∧ H a = some (.lst (ts.map fun t => V.ref t.1)) ∧ (∀ t ∈ ts, H t.1 = some (.tup [kV t.2.1, t.2.2])) ∧ ts.length ≤ 1000 ∧ kvs.length ≤ 100000 ∧
  Q .non (upd H D (.dK (mergeK kvs (ts.map (·.2)))))
end L2
set_option Elab.async false
set_option linter.all false
set_option maxRecDepth 100000
namespace L2
open PySem PySem.Spec PyProof.Rows
def pairsAt (ts : List (Addr × Key × V)) (l : Addr) (H : Hp) : Hp := fun b => if b = l then some (.lst (ts.map fun t => V.ref t.1)) else
  match ts.find? fun t => decide (t.1 = b) with
  | some t => some (.tup [kV t.2.1, t.2.2])
  | none => H b
def tLstItems (to : TE) : TE := fun σ H Q => to σ H fun x H1 => ∃ d kvs, x = .ref d ∧ H1 d = some (.dK kvs) ∧
  ∀ (l : Addr) (ts : List (Addr × Key × V)) (H2 : Hp), H1 l = none → ts.map (·.2) = kvs → (∀ t ∈ ts, H1 t.1 = none ∧ H2 t.1 = some (.tup [kV t.2.1, t.2.2])) → (∀ b o, H1 b = some o → H2 b = some o) → H2 l = some (.lst (ts.map fun t => V.ref t.1)) → Q (.ref l) H2
end L2
set_option Elab.async false
set_option linter.all false
set_option maxRecDepth 100000
namespace L2
open PySem PySem.Spec PyProof.Rows
end L2
set_option Elab.async false
set_option linter.all false
set_option maxRecDepth 100000
namespace L2
open PySem PySem.Spec PyProof.Rows
section
variable {prog : Program} {w : World} {A : Around} {E : Value → Shared → Prop} {s : Shared} {l : Addr} {xs : Array (Int × Tok)}
end
def rMinQ (K : PySem.W.Frag) : List V → Hp → VK → Prop := fun vs H Q => ∃ (p : Addr) (ns : List Int), vs = [.ref p] ∧ SqT K H p (ns.map V.int) ∧ 0 < ns.length ∧ ∀ M, M ∈ ns → (∀ a ∈ ns, M ≤ a) → Q (.int M) H
end L2
set_option Elab.async false
set_option linter.all false
set_option maxRecDepth 100000
namespace L2
open PySem PySem.Spec PyProof.Rows
section
variable {X : Cx}
end
end L2
set_option Elab.async false
set_option linter.all false
set_option maxRecDepth 100000
namespace L2
open PySem PySem.Spec PyProof.Rows
section
variable {X : Cx}
end
end L2
set_option Elab.async false
set_option linter.all false
set_option maxRecDepth 100000
namespace L2
open PySem PySem.Spec PyProof.Rows
def tThawS (t : TS) : TS := fun D σ H => ∃ d u, H d = some u ∧ Mut (some u) ∧ t ⟨fun σ' H' => ∃ o, H' d = some (.frz o u) ∧ D.nx σ' (upd H' d u), fun _ _ => False, fun _ _ => False, fun _ _ => False⟩ σ H
def tCut (t u : TS) : TS := fun D σ H => ∃ M : St → Hp → Prop, t { D with nx := M } σ H ∧ ∀ σ' H', M σ' H' → u D σ' H'
end L2
set_option Elab.async false
set_option linter.all false
set_option maxRecDepth 100000
namespace L2
open PySem PySem.Spec PyProof.Rows
section
variable {prog : Program} {w : World} {A : Around} {E : Value → Shared → Prop} {s : Shared} {K : Type} [DecidableEq K] {knd : KeyKind prog w K}
end
def rDictC : List V → Hp → VK → Prop := fun xs H Q => ∃ (a : Addr) (kvs : List (Key × V)), xs = [.ref a] ∧ H a = some (.dK kvs) ∧ ∀ D, H D = none → Q (.ref D) (upd H D (.dK kvs))
section
variable {prog : Program} {w : World} {A : Around} {E : Value → Shared → Prop} {s : Shared} {K : Type} [DecidableEq K] {knd : HeapKind prog w K}
end
def rDictT : List V → Hp → VK → Prop := fun xs H Q => ∃ (a : Addr) (kvs : List (List Key × V)), xs = [.ref a] ∧ H a = some (.dT kvs) ∧ (∀ (P : Program) (w : World), ∀ x ∈ kvs.map (·.1), ∀ y ∈ kvs.map (·.1), (tupleKind (mixKind P w)).hash x = (tupleKind (mixKind P w)).hash y → x = y) ∧ ∀ D, H D = none → Q (.ref D) (upd H D (.dT kvs))
def pairH (a b : Nat) : Int := reduceHash (Builtin.Tuple.tupleHashOf [hashInt (a : Int), hashInt (b : Int)])
def pairs36 : List (Nat × Nat) := (List.range 36).flatMap fun b => (List.range b).map fun a => (a, b)
def apart : List Int → Bool
  | [] => true
  | x :: r => r.all (fun y => x != y) && apart r
end L2
set_option Elab.async false
set_option linter.all false
set_option maxRecDepth 100000
namespace L2
open PySem PySem.Spec PyProof.Rows
structure CompScC (N N' : List Str) (o c : Scope) : Prop where
  kind : c.kind = .function
  okind : o.kind = .function
  cel : ∀ y ∈ c.names, y.2 = .cell → c.names.lookup y.1 = some .cell
  loc : ∀ y ∈ c.names, y.2 = .local → c.names.lookup y.1 = some .local
  free : ∀ y ∈ c.names, y.2 = .free → c.names.lookup y.1 = some .free ∧ (o.names.lookup y.1 = some .cell ∨ o.names.lookup y.1 = some .free)
  len : N.length ≤ N'.length
  same : ∀ i ∈ List.range N.length, ∀ x ∈ N'[i]?, c.names.lookup x = some .local ∨ c.names.lookup x = some .free ∨ c.names.lookup x = some .cell → c.names.lookup x = some .free ∧ N[i]? = some x
  nd : N'.Nodup
def clsC (X : Cx) (c : Scope) (C : Addr) : List (Str × Addr) := cellsFrom (C + 1) c.names (clOf X.env.cells c.names [])
def compCxC (X : Cx) (c : Scope) (N' : List Str) (C : Addr) (s : Shared) (H : Hp) (fp : List Addr) : Cx :=
  { X with N := N', s₀ := s, H₀ := H, env := compEnvC c (clsC X c C) C X.env, outer := X.stack, stack := X.stack, ex := fp, fn := fun x => c.names.lookup x == some .cell, pn := [], xe := fun _ _ => False }
section
variable {X : Cx} {N N' : List Str} {o c : Scope}
variable {x : Str} {pos : Pos} {C : Addr} {s : Shared} {H : Hp} {fp : List Addr}
end
end L2
set_option Elab.async false
set_option linter.all false
set_option maxRecDepth 100000
namespace L2
open PySem PySem.Spec PyProof.Rows
section
variable {prog : Program} {w : World} {A : Around} {E : Value → Shared → Prop} {s : Shared}
theorem collect_code {R : Result → Shared → Prop} {r : Addr} {a b c : Int} {t u v : Tok} {n : Nat} (hh : A.handled = none) (hr : IsRange s.heap r a b c t u v) (hsmall : Builtin.Range.small a b c = true)
    (hn : Builtin.Range.rangeSize a b c = n) (hlen : n ≤ 2 ^ 24)
    (hR : ∀ h' tk acc' c', (∀ b o, s.heap.get? b = some o → h'.get? b = some o) → h'.get? s.heap.objs.size = some { cls := .type "list", dict := none, data := .seq acc' c', slots := #[] } →
      ItemsOf (fun i v => ∃ t, v = .int (a + i * c) t) acc' n → R (.ok (.ret (.ref s.heap.objs.size))) { s with heap := h', toks := tk }) :
    codeAny (model prog w) A (.builtin "proto.collect" ⟨[.ref r], []⟩) R s := by
  refine codeAny_builtin F.entry_proto_collect ?_
  rw [Around.under_plainId F.plain_proto_collect _]
  show wpAny _ A.in1 (newList [] >>= fun l => again (.builtin "list.__iadd__" ⟨[l, .ref r], []⟩)) _ _ s
  refine wpAny_bind (wpAny_newObj_type ?_)
  refine wpAny_pure ⟨plainId_quiet F.plain_list_iadd _, codeAny_builtin F.entry_list_iadd ?_⟩
  rw [Around.under_plainId F.plain_list_iadd _]
  show wpAny _ A.in1 (Builtin.List.listExtendWith (.ref s.heap.objs.size) (.ref r) (.ref s.heap.objs.size)) _ _ _
  have hS : (s.heap.push { cls := .type "list", data := .seq ([] : List Value).toArray }).get? s.heap.objs.size = some { cls := .type "list", data := .seq #[] } := Heap.get?_push_size _ rfl
  exact wpAny_extend_range (R := R) (s := { s with heap := s.heap.push { cls := .type "list", data := .seq ([] : List Value).toArray } }) (A := A) hh (Heap.get?_push_of_some _ hr) hsmall hn hlen _ _ _ hS fun h' tk acc' c' hk hS' hacc =>
    hR h' tk acc' c' (fun b o e => hk b o (Nat.ne_of_lt (Heap.lt_size e)) (Heap.get?_push_of_some _ e)) hS' hacc
theorem collect_range {Q : List Value → Shared → Prop} {r : Addr} {a b c : Int} {t u v : Tok} {n : Nat} (hh : A.handled = none) (hr : IsRange s.heap r a b c t u v) (hsmall : Builtin.Range.small a b c = true)
    (hn : Builtin.Range.rangeSize a b c = n) (hlen : n ≤ 2 ^ 24)
    (hQ : ∀ h' tk acc, (∀ b o, s.heap.get? b = some o → h'.get? b = some o) → ItemsOf (fun i v => ∃ t, v = .int (a + i * c) t) acc n → Q acc.toList { s with heap := h', toks := tk }) :
    wpAny (model prog w) A (collect (.ref r)) Q E s := by
  unfold collect
  refine wpAny_bind (wpAny_runValue (collect_code hh hr hsmall hn hlen fun h' tk acc' c' hk hS' hacc => ?_))
  show wpAny _ A (load s.heap.objs.size >>= _) _ _ _
  refine wpAny_bind (wpAny_load hS' ?_)
  exact wpAny_pure (hQ h' tk acc' hk hacc)
theorem meets_tuple_new_range (r : Addr) (a b c : Int) (t u v : Tok) (n : Nat) (hsmall : Builtin.Range.small a b c = true) (hn : Builtin.Range.rangeSize a b c = n) (hlen : n ≤ 2 ^ 24) (hsz : n ≤ sizeLine) :
    Meets (Builtin.«tuple.__new__» ⟨[.type "tuple", .ref r], []⟩)
      (fun A R s => A.handled = none ∧ IsRange s.heap r a b c t u v ∧ ∀ (h' : Heap) (tk : Nat) (acc : Array Value), (∀ b o, s.heap.get? b = some o → h'.get? b = some o) → ItemsOf (fun i v => ∃ t, v = .int (a + i * c) t) acc n →
        R (.ok (.ret (.ref h'.objs.size))) { s with heap := h'.push { cls := .type "tuple", data := .seq acc }, toks := tk }) :=
  .of_wp fun prog w A R s h => by
    obtain ⟨hh, hr, h⟩ := h
    have hsub := sub_tuple_self
    have hinit := init_tuple_lookup
    have hmh := madeHere_tuple
    have hT : s.TypeIs (.ref r) "range" := ⟨_, hr, rfl⟩
    have hh1 : A.in1.handled = none := hh
    wp_walk using wpAny_typeOf hT, collect_range hh1 hr hsmall hn hlen
    intro h' tk acc hk hacc
    show wpAny _ _ (Builtin.Tuple.tupleExact acc.toList.toArray >>= fun v => ret v) _ _ _
    unfold Builtin.Tuple.tupleExact
    refine wpAny_bind (wpAny_newObj_type ?_ (show acc.toList.toArray.size ≤ sizeLine by simp only [Array.toArray_toList]; rw [hacc.1]; exact hsz))
    refine wpAny_pure ⟨_, rfl, ?_⟩
    have e : acc.toList.toArray = acc := by simp
    rw [e]
    exact h h' tk acc hk hacc
theorem call_tuple_range {Q : Value → Shared → Prop} {r : Addr} {a b c : Int} {t u v : Tok} {n : Nat} (hh : A.handled = none) (hr : IsRange s.heap r a b c t u v) (hsmall : Builtin.Range.small a b c = true) (hn : Builtin.Range.rangeSize a b c = n) (hlen : n ≤ 2 ^ 24) (hsz : n ≤ sizeLine)
    (h : ∀ (h' : Heap) (tk : Nat) (acc : Array Value), (∀ b o, s.heap.get? b = some o → h'.get? b = some o) → ItemsOf (fun i v => ∃ t, v = .int (a + i * c) t) acc n → Q (.ref h'.objs.size) { s with heap := h'.push { cls := .type "tuple", data := .seq acc }, toks := tk }) :
    wpAny (model prog w) A (call (.type "tuple") [.ref r]) Q E s :=
  callType_new F.called_tuple (by decide) (F.typeCall_tuple_1 _) (F.newCall_tuple_1 _) (fun obj => F.args_object_init_2 obj _) F.entry_tuple_new
    (meets_tuple_new_range r a b c t u v n hsmall hn hlen hsz) ⟨hh, hr, fun h' tk acc hk hacc => ⟨⟨_, Heap.get?_push_size _ rfl, rfl⟩, h h' tk acc hk hacc⟩⟩
end
def rTupR : List V → Hp → VK → Prop := fun xs H Q => ∃ (p : Addr) (lo hi : Int), xs = [.ref p] ∧ H p = some (.rng lo hi) ∧ -(2 ^ 62) ≤ lo ∧ lo < 2 ^ 62 ∧ -(2 ^ 62) ≤ hi ∧ hi < 2 ^ 62 ∧ (hi - lo).toNat ≤ 1000 ∧
  ∀ l, H l = none → Q (.ref l) (upd H l (.tup ((upsI lo (hi - lo).toNat).map V.int)))
theorem tupR {X : Cx} (hc : X.calm = true := by rfl) : CallR X (.type "tuple") rTupR := by
  intro pins s σ H xs us Q I r h
  obtain ⟨p, lo, hi, rfl, hp, h1, h2, h3, h4, h5, q⟩ := h
  obtain ⟨u, rfl, rx⟩ := vals1 r
  cases rx
  obtain ⟨t, u, v, e⟩ := I.hok _ _ hp
  have sz : Builtin.Range.rangeSize lo hi 1 = (((hi - lo).toNat : Nat) : Int) := by rw [rangeSize_one]; split <;> omega
  refine call_tuple_range (I.ok.hd hc) e (small_one h1 h2 h3 h4) sz (by omega) (Nat.le_of_lt (small1000 h5)) fun h' tk acc' kp it => ?_
  have I1 : Inv X pins σ H { s with heap := h', toks := tk } := I.kept kp
  have I2 := I1.laid (t' := tk) (a := h'.objs.size) (h' := h'.push { cls := .type "tuple", data := .seq acc' }) (fun b o e => Heap.get?_push_of_some _ e) (Nat.le_refl _) (show ObjOk X.prog X.w _ _ _ (.tup ((upsI lo (hi - lo).toNat).map V.int)) from ⟨?_, acc'.toList, vals_items _ _ (by simpa using it.1) (fun j v hv => it.2 j v (by simpa using hv)), by simpa using IsTup.new _ _⟩)
  · exact ⟨.ref h'.objs.size, _, I2, rfl, q _ (I1.hok.fresh (Nat.le_refl _))⟩
  · rw [List.length_map, upsI_len]
    exact Nat.le_of_lt (small1000 h5)
end L2
set_option Elab.async false
set_option linter.all false
set_option maxRecDepth 100000
namespace L2
open PySem PySem.Spec PyProof.Rows
section
variable {prog : Program} {w : World} {A : Around} {R : Result → Shared → Prop} {I : Addr} {fp wr : List Addr} {G : Array GenState → Array GenState → Prop} {n : Nat} {P : Nat → Value → Prop} {St : Nat → Shared → Prop}
variable {K : Type} [DecidableEq K] {knd : KeyKind prog w K}
end
section
variable {prog : Program} {w : World} {A : Around} {E : Value → Shared → Prop} {s : Shared} {K : Type} [DecidableEq K] {knd : KeyKind prog w K}
end
end L2
namespace L2
open PySem PySem.Spec PyProof.Rows
def rDictU (K : PySem.W.Frag) : List V → Hp → VK → Prop := fun xs H Q => ∃ (a : Addr) (ts : List (Addr × Addr × List Key × V)), xs = [.ref a] ∧ SqL K H a (ts.map fun t => V.ref t.1) ∧ (∀ t ∈ ts, H t.1 = some (.tup [.ref t.2.1, t.2.2.2]) ∧ H t.2.1 = some (.tup (t.2.2.1.map kV))) ∧ ts.length ≤ 1000 ∧ (ts.map (·.2.2.1)).Nodup ∧
  ∀ D, H D = none → Q (.ref D) (upd H D (.dT (ts.map (·.2.2))))
end L2
set_option Elab.async false
set_option linter.all false
set_option maxRecDepth 100000
namespace L2
open PySem PySem.Spec PyProof.Rows
def gallop' : Bool → Keyed → Array Keyed → Nat → Nat → Nat → StateT SortSt Sem (Option Nat) := sortPriv% PySem.Builtin.gallop
def Has (κ : PyProof.Rows.KeyKind) (p : Keyed) : Prop := ∃ a, κ.keyOf p.1 = some a
def kyd (κ : PyProof.Rows.KeyKind) (p : Keyed) : κ.α := (κ.keyOf p.1).getD κ.dflt
def gAsk (left : Bool) (key : Keyed) (arr : Array Keyed) (base i : Nat) : StateT SortSt Sem (Option Bool) :=
  elem' arr (base + i) >>= fun x => if left = true then lt' x key else lt' key x >>= fun r => pure (r.map (!·))
def gB (κ : PyProof.Rows.KeyKind) (left : Bool) (key p : Keyed) : Bool := if left then κ.blt (kyd κ p) (kyd κ key) else !κ.blt (kyd κ key) (kyd κ p)
section
variable {prog : Program} {w : World} {A : Around} {E : Value → Shared → Prop} {s : Shared} {κ : PyProof.Rows.KeyKind} {k0 : SortKind} {a₀ : Array Keyed} {st : SortSt}
end
end L2
set_option Elab.async false
set_option linter.all false
set_option maxRecDepth 100000
namespace L2
open PySem PySem.Spec PyProof.Rows
section
variable {κ : PyProof.Rows.KeyKind}
def kS (κ : PyProof.Rows.KeyKind) (l : List Keyed) : Prop := l.Pairwise fun p q => κ.kle (kyd κ p) (kyd κ q)
def kLe (κ : PyProof.Rows.KeyKind) (l m : List Keyed) : Prop := ∀ x ∈ l, ∀ y ∈ m, κ.kle (kyd κ x) (kyd κ y)
structure Mg (κ : PyProof.Rows.KeyKind) (all out l m : List Keyed) : Prop where
  perm : (out ++ (l ++ m)).Perm all
  so : kS κ out
  sl : kS κ l
  sm : kS κ m
  ol : kLe κ out l
  om : kLe κ out m
structure Mh (κ : PyProof.Rows.KeyKind) (all l m out : List Keyed) : Prop where
  perm : ((l ++ m) ++ out).Perm all
  so : kS κ out
  sl : kS κ l
  sm : kS κ m
  lo : kLe κ l out
  mo : kLe κ m out
structure LoPre (κ : PyProof.Rows.KeyKind) (a b : Array Keyed) : Prop where
  ha : ∀ p ∈ a.toList, Has κ p
  hb : ∀ p ∈ b.toList, Has κ p
  sa : kS κ a.toList
  sb : kS κ b.toList
  a0 : 0 < a.size
  b0 : 0 < b.size
  fst : ∀ i, i < a.size → κ.kle (KK κ b 0) (KK κ a i)
  lst : ∀ i, i < b.size → κ.kle (KK κ b i) (KK κ a (a.size - 1))
def MEnd (κ : PyProof.Rows.KeyKind) (a b r : Array Keyed) : Prop := r.toList.Perm (a.toList ++ b.toList) ∧ kS κ r.toList
def Lo (κ : PyProof.Rows.KeyKind) (a b out : Array Keyed) (ia ib : Nat) : Prop := Mg κ (a.toList ++ b.toList) out.toList (a.toList.drop ia) (b.toList.drop ib)
variable {a b out : Array Keyed} {ia ib : Nat}
def Hi (κ : PyProof.Rows.KeyKind) (a b out : Array Keyed) (na nb : Nat) : Prop := Mh κ (a.toList ++ b.toList) (a.toList.take na) (b.toList.take nb) out.toList.reverse
variable {na nb : Nat}
end
end L2
set_option Elab.async false
set_option linter.all false
set_option maxRecDepth 100000
namespace L2
open PySem PySem.Spec PyProof.Rows
def mergeLo' : Array Keyed → Array Keyed → StateT SortSt Sem (Array Keyed) := sortPriv% PySem.Builtin.mergeLo
def mergeHi' : Array Keyed → Array Keyed → StateT SortSt Sem (Array Keyed) := sortPriv% PySem.Builtin.mergeHi
def Sm (st st' : SortSt) : Prop := kindOf st' = kindOf st ∧ arrOf st' = arrOf st ∧ pendingOf st' = pendingOf st ∧ failedOf st' = failedOf st
section
variable {prog : Program} {w : World} {A : Around} {E : Value → Shared → Prop} {s : Shared} {κ : PyProof.Rows.KeyKind} {k0 : SortKind} {st : SortSt} {α β γ : Type}
def LoIn (κ : PyProof.Rows.KeyKind) (a b : Array Keyed) (t : Nat) (out : Array Keyed) (ia ib : Nat) : Prop := Lo κ a b out ia ib ∧ ia + 1 < a.size ∧ ib < b.size ∧ t ≤ ia + ib
end
end L2
set_option Elab.async false
set_option linter.all false
set_option maxRecDepth 100000
namespace L2
open PySem PySem.Spec PyProof.Rows
section
variable {prog : Program} {w : World} {A : Around} {E : Value → Shared → Prop} {s : Shared} {κ : PyProof.Rows.KeyKind} {k0 : SortKind} {st : SortSt} {α β γ : Type} {a b out : Array Keyed} {na nb : Nat}
def HiIn (κ : PyProof.Rows.KeyKind) (a b : Array Keyed) (t : Nat) (out : Array Keyed) (na nb : Nat) : Prop := Hi κ a b out na nb ∧ 0 < na ∧ 1 < nb ∧ na ≤ a.size ∧ nb ≤ b.size ∧ na + nb + t ≤ a.size + b.size
end
end L2
set_option Elab.async false
set_option linter.all false
set_option maxRecDepth 100000
namespace L2
open PySem PySem.Spec PyProof.Rows
def offs : Nat → List (List Keyed) → List (Nat × Nat)
  | _, [] => []
  | o, r :: rs => (o, r.length) :: offs (o + r.length) rs
def fst2 (p : Nat × Nat × Nat) : Nat × Nat := (p.1, p.2.1)
section
variable {prog : Program} {w : World} {A : Around} {E : Value → Shared → Prop} {s : Shared} {κ : PyProof.Rows.KeyKind} {k0 : SortKind} {st : SortSt} {a₀ : Array Keyed}
structure Rn (κ : PyProof.Rows.KeyKind) (k0 : SortKind) (a₀ : Array Keyed) (st : SortSt) (rs : List (List Keyed)) (rest : List Keyed) : Prop where
  kind : kindOf st = k0
  failed : failedOf st = none
  arr : (arrOf st).toList = rs.flatten ++ rest
  perm : (arrOf st).Perm a₀
  srt : ∀ r ∈ rs, kS κ r
  ne : ∀ r ∈ rs, r ≠ []
  pend : (pendingOf st).toList.map fst2 = offs 0 rs
end
end L2
set_option Elab.async false
set_option linter.all false
set_option maxRecDepth 100000
namespace L2
open PySem PySem.Spec PyProof.Rows
section
variable {prog : Program} {w : World} {A : Around} {E : Value → Shared → Prop} {s : Shared} {κ : PyProof.Rows.KeyKind} {k0 : SortKind} {st st0 : SortSt} {a₀ : Array Keyed} {α : Type} {lo : Nat}
structure Ph (k0 : SortKind) (a₀ : Array Keyed) (lo : Nat) (st0 st : SortSt) : Prop where
  kind : kindOf st = k0
  failed : failedOf st = none
  pend : pendingOf st = pendingOf st0
  perm : (arrOf st).Perm a₀
  pre : ∀ k, k < lo → (arrOf st)[k]? = (arrOf st0)[k]?
def SgK (κ : PyProof.Rows.KeyKind) (xs : Array Keyed) (lo n : Nat) : Prop := ∀ i j, lo ≤ i → i ≤ j → j < lo + n → κ.kle (KK κ xs i) (KK κ xs j)
def NiK (κ : PyProof.Rows.KeyKind) (xs : Array Keyed) (lo n : Nat) : Prop := ∀ i j, lo ≤ i → i ≤ j → j < lo + n → κ.kle (KK κ xs j) (KK κ xs i)
end
end L2
set_option Elab.async false
set_option linter.all false
set_option maxRecDepth 100000
namespace L2
open PySem PySem.Spec PyProof.Rows
section
variable {prog : Program} {w : World} {A : Around} {E : Value → Shared → Prop} {s : Shared} {κ : PyProof.Rows.KeyKind} {k0 : SortKind} {st st0 : SortSt} {a₀ : Array Keyed} {lo : Nat} {rs : List (List Keyed)} {rest : List Keyed}
end
end L2
set_option Elab.async false
set_option linter.all false
set_option maxRecDepth 100000
namespace L2
open PySem PySem.Spec PyProof.Rows
section
variable {prog : Program} {w : World} {A : Around} {E : Value → Shared → Prop} {s : Shared} {κ : PyProof.Rows.KeyKind}
end
def rSrtTA (K : PySem.W.Frag) : List V → Hp → VK → Prop := fun xs H Q => ∃ (p : Addr) (ts : TupL) (sh : List Bool), xs = [.ref p] ∧ SqL K H p (refs ts) ∧ AtT H ts ∧ sh ≠ [] ∧ (∀ t ∈ ts, shape t.2 = sh) ∧
  ∀ (l : Addr) (ts' : TupL), H l = none → ts'.Perm ts → ts'.Pairwise (fun a b => lexB b.2 a.2 = false) → Q (.ref l) (upd H l (.lst (refs ts')))
def rSrtSA (K : PySem.W.Frag) : List V → Hp → VK → Prop := fun xs H Q => ∃ (p : Addr) (ss : List Str), xs = [.ref p] ∧ SqL K H p (ss.map V.str) ∧ ∀ (l : Addr) (ss' : List Str), H l = none → ss'.Perm ss → sortedS ss' = true → Q (.ref l) (upd H l (.lst (ss'.map V.str)))
end L2
set_option Elab.async false
set_option linter.all false
set_option maxRecDepth 100000
set_option maxHeartbeats 4000000
namespace L2
open PySem PySem.Spec PyProof.Rows
section
variable {X : Cx}
def rCatA (K : PySem.W.Frag) : R2 := fun x y H Q => ∃ a b xs ys, x = .ref a ∧ y = .ref b ∧ SqT K H a xs ∧ SqT K H b ys ∧ xs.length + ys.length ≤ sizeLine ∧
  (xs = [] → Q (.ref b) H) ∧ (xs ≠ [] → ys = [] → Q (.ref a) H) ∧ (xs ≠ [] → ys ≠ [] → ∀ p, H p = none → Q (.ref p) (upd H p (.tup (xs ++ ys))))
theorem op_catA : OpR X (binaryOp .Add) (rCatA X.K) := by
  intro pins s σ H x y v u Q I rx ry h
  obtain ⟨a, b, xs, ys, rfl, rfl, ha, hb, hz, q0, q1, q2⟩ := h
  by_cases hx : xs = []
  · cases rx
    cases ry
    obtain ⟨its, r1, p1, _⟩ := I.tuple ha
    obtain ⟨its2, r2, p2, _⟩ := I.tuple hb
    obtain ⟨⟨cls, dd, data, sl⟩, ho, hc, n, hd⟩ := id p1
    obtain ⟨⟨cls2, dd2, data2, sl2⟩, ho2, hc2, n2, hd2⟩ := id p2
    simp only at hc hd hc2 hd2
    subst hc hd hc2 hd2
    have e0 : its = [] := r1.nil_iff.mpr hx
    exact concat_meets ⟨_, ho, rfl⟩ ⟨_, ho2, rfl⟩ noFill_tuple_add seq_tuple_add PySem.F.slot_tuple_add PySem.F.entry_tuple_add (PySem.F.args_tuple_add_2 _ _)
      (tuple_addW0 a b its.toArray its2.toArray n n2 dd dd2 sl sl2 (by simp [e0])) ⟨ho, ho2, ⟨.ref b, H, I, rfl, q0 hx⟩⟩
  · exact op_catT pins s σ H _ _ v u Q I rx ry ⟨a, b, xs, ys, rfl, rfl, ha, hb, hx, hz, q1 hx, q2 hx⟩
theorem catA (K : PySem.W.Frag) (h : X.K = K := by rfl) : OpR X (binaryOp .Add) (rCatA K) := by subst h; exact op_catA
theorem catA_go {K : PySem.W.Frag} {H : Hp} {Q : VK} {a b : Addr} {xs ys : List V} (ha : H a = some (.tup xs)) (hb : H b = some (.tup ys)) (hz : xs.length + ys.length ≤ sizeLine)
    (q : ∀ r H', (∀ b o, H b = some o → H' b = some o) → H' r = some (.tup (xs ++ ys)) → Q (.ref r) H') : rCatA K (.ref a) (.ref b) H Q := by
  refine ⟨a, b, xs, ys, rfl, rfl, SqT.of ha, SqT.of hb, hz, fun e => q b H (fun _ _ h => h) (by rw [e]; exact hb), fun _ e => q a H (fun _ _ h => h) (by rw [e, List.append_nil]; exact ha), fun _ _ p hp => q p _ (fun b o h => by rw [upd_ne (fun e => by rw [e, hp] at h; cases h)]; exact h) upd_same⟩
end
section
variable {prog : Program} {w : World} {A : Around} {E : Value → Shared → Prop} {s : Shared} {a kS : Addr} {vs : List Value} {kz : List Int} {keys : Array Value} {e e1 : Nat} {P : PySem.Fin → Shared → Prop}
def Kp2 (a k : Addr) (h h' : Heap) : Prop := ∀ b o, b ≠ a → b ≠ k → h.get? b = some o → h'.get? b = some o
theorem wk_tail {st : SortSt} {h0 : Heap} (kp : Kp2 a kS h0 s.heap) (hkS : s.heap.get? kS = some (seqObj "list" keys e)) (haS : s.heap.get? a = some (seqObj "list" #[] e1)) (hka : kS ≠ a)
    (hk : IntsAre keys.toList kz) (hlen : kz.length = vs.length) (h64 : vs.length < 64) (hp : (arrOf st).Perm (keys.zip vs.toArray)) (hs : SortedTo (arrOf st) (arrOf st).size) (hfl : failedOf st = none)
    (h : ∀ h' tk out c, Kp2 a kS h0 h' → h'.get? a = some (seqObj "list" out c) → KskOut false kz vs out.toList → P (.done (.ret .none)) { s with heap := h', toks := tk }) :
    wpAny (model prog w) A (ksk_tail a false e1 (.ref kS) st) P E s := by
  have hsz : keys.size = vs.length := by
    have h1 := hk.length
    rw [Array.length_toList] at h1
    omega
  have hsz2 : (arrOf st).size = vs.length := by rw [hp.size_eq, Array.size_zip, hsz, List.size_toArray, Nat.min_self]
  have hout : ((arrOf st).map (·.2)).size = vs.length := by rw [Array.size_map]; exact hsz2
  have na1 : (s.heap.update kS (Obj.mapSeq fun _ => (#[] : Array Value))).get? a = some (seqObj "list" #[] e1) := (Heap.get?_update_of_ne _ hka haS)
  obtain ⟨c2, hc2⟩ : ∃ c2, ((s.heap.update kS (Obj.mapSeq fun _ => (#[] : Array Value))).update a (Obj.mapSeq fun _ => (arrOf st).map (·.2))).get? a = some (seqObj "list" ((arrOf st).map (·.2)) c2) :=
    ⟨_, get?_update_seq na1 fun _ => (arrOf st).map (·.2)⟩
  unfold ksk_tail
  try dsimp only
  refine wpAny_bind (listUpdate_at hkS rfl ?_ (by rw [hsz, sizeLine_eq]; omega) (Nat.zero_le _))
  refine wpAny_bind (wpAny_letGo ?_)
  refine wpAny_bind (seqEpoch_at na1 rfl ?_)
  refine wpAny_bind (listUpdate_at na1 rfl ?_ (Nat.zero_le _) (Nat.le_trans (Nat.le_of_eq hout) (by rw [sizeLine_eq]; omega)))
  rw [hfl]
  simp only [bne_self_eq_false, Bool.false_eq_true, if_false]
  refine wpAny_pure (h _ _ _ c2 (fun b o nb nk hb => ?_) hc2 (ksk_out (b := false) hk hp hs))
  exact Heap.get?_update_of_ne _ (Ne.symm nb) (Heap.get?_update_of_ne _ (Ne.symm nk) (kp b o nb nk hb))
theorem wk_end {h0 : Heap} (kp : Kp2 a kS h0 s.heap) (hkS : s.heap.get? kS = some (seqObj "list" keys e)) (haS : s.heap.get? a = some (seqObj "list" #[] e1)) (hka : kS ≠ a)
    (hk : IntsAre keys.toList kz) (hlen : kz.length = vs.length) (h64 : vs.length < 64)
    (h : ∀ h' tk out c, Kp2 a kS h0 h' → h'.get? a = some (seqObj "list" out c) → KskOut false kz vs out.toList → P (.done (.ret .none)) { s with heap := h', toks := tk }) :
    wpAny (model prog w) A (ksk_end a false vs.toArray e1 (.ref kS) keys) P E s := by
  have hsz : keys.size = vs.length := by
    have h1 := hk.length
    rw [Array.length_toList] at h1
    omega
  have hzs : (keys.zip vs.toArray).size = vs.length := by rw [Array.size_zip, hsz, List.size_toArray, Nat.min_self]
  unfold ksk_end
  try dsimp only
  have step : ∀ t : Sem PySem.Fin, wpAny (model prog w) A t P E s → wpAny (model prog w) A (if false = true then (do let _ ← rule "list.sort.reverse"; t) else t) P E s := by
    intro t ht
    split
    · exact wpAny_bind (wpAny_rule ht)
    · exact ht
  refine step _ ?_
  simp only [Bool.false_eq_true, if_false]
  by_cases h2 : vs.toArray.size < 2
  · rw [if_pos h2, if_pos h2]
    refine wpAny_bind (wpAny_pure ?_)
    rw [StateT.run_pure]
    refine wpAny_bind (wpAny_pure ?_)
    try dsimp only
    refine wk_tail (st := SortSt.mk' general' (keys.zip vs.toArray) #[] 7 none) kp hkS haS hka hk hlen h64 (Array.Perm.refl _) ?_ rfl h
    intro i j hij hj
    have hj2 : j < (keys.zip vs.toArray).size := hj
    rw [hzs] at hj2
    rw [List.size_toArray] at h2
    have : i = j := by omega
    subst this
    exact Int.le_refl _
  · rw [if_neg h2, if_neg h2]
    rw [List.size_toArray] at h2
    rw [ksk_kind hk (by rw [hsz]; omega)]
    refine wpAny_bind (wpAny_pure ?_)
    refine wpAny_bind (wpAny_mono (wpS_sortRuns (a₀ := keys.zip vs.toArray) (st := SortSt.mk' oneType' (keys.zip vs.toArray) #[] 7 none)
      (Q := fun _ st' => (arrOf st').Perm (keys.zip vs.toArray) ∧ failedOf st' = none ∧ SortedTo (arrOf st') (keys.zip vs.toArray).size)
      (ksk_intKeys hk) ⟨Array.Perm.refl _, rfl, rfl, rfl⟩ (by rw [hzs]; omega) (by rw [hzs]; exact h64) fun st' a1 a2 a3 => ⟨a1, a2, a3⟩) ?_ fun _ _ e => e)
    rintro ⟨⟨⟩, st'⟩ s' ⟨rfl, hp, hf, hs⟩
    try dsimp only
    exact wk_tail kp hkS haS hka hk hlen h64 hp (by rw [hp.size_eq]; exact hs) hf h
theorem wk_rest {f : Value} {h0 : Heap} (kp : Kp2 a kS h0 s.heap) (hkS : s.heap.get? kS = some (seqObj "list" #[] 0)) (haS : s.heap.get? a = some (seqObj "list" #[] e1)) (hka : kS ≠ a)
    (hlen : kz.length = vs.length) (h64 : vs.length < 64)
    (turn : ∀ (i : Nat) (v : Value) (k : Int), vs[i]? = some v → kz[i]? = some k → ∀ (s' : Shared), Kp2 a kS h0 s'.heap → ∀ (Q : Value → Shared → Prop) (E : Value → Shared → Prop), (∀ t tk, Q (.int k t) { s' with toks := tk }) → wpAny (model prog w) A (call f [v]) Q E s')
    (h : ∀ h' tk out c, Kp2 a kS h0 h' → h'.get? a = some (seqObj "list" out c) → KskOut false kz vs out.toList → P (.done (.ret .none)) { s with heap := h', toks := tk }) :
    wpAny (model prog w) A (ksk_rest a f false vs.toArray e1 (.ref kS)) P E s := by
  unfold ksk_rest
  refine wpAny_bind (wpAny_rule ?_)
  first
    | rw [List.forIn_toArray]
    | (rw [← Array.forIn_toList]; simp only [List.toList_toArray])
    | rw [← Array.forIn_toList]
  refine wpAny_bind (ksk_fold (fun i s' => ∃ h' tk kA e, s' = { s with heap := h', toks := tk } ∧ Kp2 a kS h0 h' ∧ h'.get? kS = some (seqObj "list" kA e) ∧ h'.get? a = some (seqObj "list" #[] e1) ∧ IntsAre kA.toList (kz.take i)) vs 0 s
    ⟨s.heap, s.toks, #[], 0, rfl, kp, hkS, haS, by simpa using IntsAre.nil⟩ ?step ?done)
  case step =>
    rintro j x s' hx ⟨h', tk, kA, e, rfl, kp', hk1, ha1, hk⟩
    simp only [Nat.zero_add] at hk ⊢
    have hj : j < vs.length := (List.getElem?_eq_some_iff.mp hx).1
    obtain ⟨k, hkj⟩ : ∃ k, kz[j]? = some k := ⟨_, List.getElem?_eq_getElem (by omega)⟩
    have hz : kA.size ≤ vs.length := by
      have h1 := hk.length
      rw [Array.length_toList, List.length_take] at h1
      omega
    refine wpAny_bind (wpAny_attempt (turn j x k hx hkj _ kp' _ _ fun t2 tk2 => ?_))
    try dsimp only
    obtain ⟨c2, hc2⟩ : ∃ c2, (h'.update kS (Obj.mapSeq (·.push (.int k t2)))).get? kS = some (seqObj "list" (kA.push (.int k t2)) c2) := ⟨_, get?_update_seq hk1 (·.push (.int k t2))⟩
    have ek : kz.take (j + 1) = kz.take j ++ [k] := by rw [List.take_add_one, hkj]; simp
    have ea : (kA.push (Value.int k t2)).toList = kA.toList ++ [Value.int k t2] := by simp
    refine wpAny_bind (listUpdate_at hk1 rfl ?_ (by rw [sizeLine_eq]; omega) (Nat.le_trans (Nat.le_of_eq (Array.size_push ..)) (by rw [sizeLine_eq]; omega)))
    refine wpAny_pure ⟨rfl, _, _, kA.push (.int k t2), c2, rfl, fun b o nb nk hb => Heap.get?_update_of_ne _ (Ne.symm nk) (kp' b o nb nk hb), hc2, Heap.get?_update_of_ne _ hka ha1, by rw [ea, ek]; exact ksk_snoc hk⟩
  case done =>
    rintro s' ⟨h', tk, kA, e, rfl, kp', hk1, ha1, hk⟩
    have hk' : IntsAre kA.toList kz := by
      have e3 : kz.take (0 + vs.length) = kz := List.take_of_length_le (by omega)
      rw [e3] at hk
      exact hk
    try dsimp only
    refine wpAny_bind (listItems_at hk1 rfl ?_)
    exact wk_end kp' hk1 ha1 hka hk' hlen h64 fun h3 tk3 out c k3 n3 o3 => h h3 tk3 out c k3 n3 o3
theorem wk_sort {f : Value} {n : Nat} (ho : s.heap.get? a = some (seqObj "list" vs.toArray n)) (hlen : kz.length = vs.length) (h64 : vs.length < 64)
    (turn : ∀ (i : Nat) (v : Value) (k : Int), vs[i]? = some v → kz[i]? = some k → ∀ (s' : Shared), (∀ b o, b ≠ a → s.heap.get? b = some o → s'.heap.get? b = some o) → ∀ (Q : Value → Shared → Prop) (E : Value → Shared → Prop), (∀ t tk, Q (.int k t) { s' with toks := tk }) → wpAny (model prog w) A (call f [v]) Q E s')
    (h : ∀ h' tk out c, (∀ b o, b ≠ a → s.heap.get? b = some o → h'.get? b = some o) → h'.get? a = some (seqObj "list" out c) → KskOut false kz vs out.toList → P (.done (.ret .none)) { s with heap := h', toks := tk }) :
    wpAny (model prog w) A (ksk_tree a f false) P E s := by
  have ha : a < s.heap.objs.size := Heap.lt_size ho
  obtain ⟨e1, ho1⟩ : ∃ e1, (s.heap.update a (Obj.mapSeq fun _ => (#[] : Array Value))).get? a = some (seqObj "list" #[] e1) := ⟨_, get?_update_seq ho fun _ => #[]⟩
  have hkS : ((s.heap.update a (Obj.mapSeq fun _ => (#[] : Array Value))).push (seqObj "tuple" vs.toArray 0)).objs.size = s.heap.objs.size + 1 := by rw [size_push', Heap.size_update]
  unfold ksk_tree
  refine wpAny_bind (listItems_at ho rfl ?_)
  refine wpAny_bind (listUpdate_at ho rfl ?_ (by rw [List.size_toArray, sizeLine_eq]; omega) (Nat.zero_le _))
  refine wpAny_bind (seqEpoch_at ho1 rfl ?_)
  refine wpAny_bind (wpAny_newTuple ?_ (by show vs.length ≤ _; rw [sizeLine_eq]; omega))
  refine wpAny_bind (wpAny_newList ?_ (Nat.zero_le _))
  refine wpAny_holding ?_
  have lt' : ∀ b o, s.heap.get? b = some o → b ≠ s.heap.objs.size + 1 := fun b o hb => Nat.ne_of_lt (Nat.lt_succ_of_lt (Heap.lt_size hb))
  refine wk_rest (s := { s with heap := ((s.heap.update a (Obj.mapSeq fun _ => (#[] : Array Value))).push (seqObj "tuple" vs.toArray 0)).push (seqObj "list" #[] 0) }) (kS := ((s.heap.update a (Obj.mapSeq fun _ => (#[] : Array Value))).push (seqObj "tuple" vs.toArray 0)).objs.size) (h0 := s.heap)
    (fun b o nb nk hb => Heap.get?_push_of_some _ (Heap.get?_push_of_some _ (Heap.get?_update_of_ne _ (Ne.symm nb) hb))) (Heap.get?_push_size _ rfl) (Heap.get?_push_of_some _ (Heap.get?_push_of_some _ ho1)) (by rw [hkS]; exact Nat.ne_of_gt (Nat.lt_succ_of_lt ha)) hlen h64
    (fun i v k hv hk s' kp' => turn i v k hv hk s' fun b o nb hb => kp' b o nb (by rw [hkS]; exact lt' b o hb) hb)
    (fun h' tk out c kp' n3 o3 => h h' tk out c (fun b o nb hb => kp' b o nb (by rw [hkS]; exact lt' b o hb) hb) n3 o3)
theorem wk_sorted {l : Addr} {f : Value} {Q : Value → Shared → Prop} {kw : List (Str × Value)} (hl : s.heap.IsList l vs.toArray) (hlen : kz.length = vs.length) (h64 : vs.length < 64)
    (ha1 : argsOk "sorted" ⟨[.ref l], kw⟩) (ha2 : ∀ x, argsOk "list.sort" ⟨[.ref x], kw⟩) (ht : ∀ x, Builtin.«list.sort» ⟨[.ref x], kw⟩ = ksk_tree x f false)
    (turn : ∀ (i : Nat) (v : Value) (k : Int), vs[i]? = some v → kz[i]? = some k → ∀ (s' : Shared), (∀ b o, s.heap.get? b = some o → s'.heap.get? b = some o) → ∀ (Q : Value → Shared → Prop) (E : Value → Shared → Prop), (∀ t tk, Q (.int k t) { s' with toks := tk }) → wpAny (model prog w) A.in1.in1 (call f [v]) Q E s')
    (h : ∀ h' tk out c, (∀ b o, s.heap.get? b = some o → h'.get? b = some o) → h'.get? (s.heap.objs.size + 1) = some (seqObj "list" out c) → KskOut false kz vs out.toList → Q (.ref (s.heap.objs.size + 1)) { s with heap := h', toks := tk }) :
    wpAny (model prog w) A (call (.builtin "sorted") [.ref l] kw) Q E s := by
  refine call_function_entry_kw kind_sorted plain_sorted entry_sorted ha1 ?_
  unfold Builtin.«sorted»
  refine wpAny_bind (m := checkCount "sorted" 1 1 _) (wpAny_pure ?_)
  refine wpAny_bind (collect_list hl ?_ (by rw [sizeLine_eq]; omega))
  refine wpAny_bind (wpAny_newList ?_ (by rw [sizeLine_eq]; omega))
  have hsz : ((s.heap.push (seqObj "list" #[] 0)).update s.heap.objs.size (Obj.mapSeq (· ++ vs.toArray))).objs.size = s.heap.objs.size + 1 := by
    rw [Heap.size_update, size_push']
  have hoL : (((s.heap.push (seqObj "list" #[] 0)).update s.heap.objs.size (Obj.mapSeq (· ++ vs.toArray))).push (seqObj "list" vs.toArray 0)).get? (s.heap.objs.size + 1) = some (seqObj "list" vs.toArray 0) := by
    rw [← hsz]; exact Heap.get?_push_size _ rfl
  have keep : ∀ b o, s.heap.get? b = some o → (((s.heap.push (seqObj "list" #[] 0)).update s.heap.objs.size (Obj.mapSeq (· ++ vs.toArray))).push (seqObj "list" vs.toArray 0)).get? b = some o := fun b o q => by
    have hlt : b < s.heap.objs.size := Heap.lt_size q
    rw [Heap.get?_push_ne _ _ _ (by rw [hsz]; exact Nat.ne_of_lt (Nat.lt_succ_of_lt hlt)), Heap.get?_update_ne _ _ _ _ (Nat.ne_of_lt hlt), Heap.get?_push_ne _ _ _ (Nat.ne_of_lt hlt)]
    exact q
  have nl : ∀ b o, s.heap.get? b = some o → b ≠ s.heap.objs.size + 1 := fun b o hb => Nat.ne_of_lt (Nat.lt_succ_of_lt (Heap.lt_size hb))
  show wpAny _ _ _ _ _ { s with heap := ((s.heap.push (seqObj "list" #[] 0)).update s.heap.objs.size (Obj.mapSeq (· ++ vs.toArray))).push (seqObj "list" vs.toArray 0) }
  rw [hsz]
  refine wpAny_bind (wpAny_holding (wpAny_call_entry_kw slot_list_sort ⟨_, hoL, rfl⟩ entry_list_sort ?body (ha2 _)))
  case body =>
    have ht' := ht (s.heap.objs.size + 1)
    show wpAny (model prog w) A.in1.in1 (Builtin.«list.sort» ⟨[.ref (s.heap.objs.size + 1)], kw⟩) _ _ _
    rw [ht']
    refine wk_sort (s := { s with heap := ((s.heap.push (seqObj "list" #[] 0)).update s.heap.objs.size (Obj.mapSeq (· ++ vs.toArray))).push (seqObj "list" vs.toArray 0) }) hoL hlen h64
      (fun i v k hv hk s' kp' => turn i v k hv hk s' fun b o hb => kp' b o (nl b o hb) (keep b o hb)) fun h' tk out c kp' n3 o3 => ⟨_, rfl, ?_⟩
    exact wpAny_pure ⟨_, rfl, h h' tk out c (fun b o hb => kp' b o (nl b o hb) (keep b o hb)) n3 o3⟩
end
abbrev TL := List (Addr × List V)
def tRefs (ts : TL) : List V := ts.map fun t => V.ref t.1
def tSrtLen (K : PySem.W.Frag) (t : TA) : TE := fun σ H Q => t σ H fun xs H1 => ∃ (p : Addr) (ts : TL), xs = [.ref p] ∧ SqL K H1 p (tRefs ts) ∧ (∀ t ∈ ts, SqT K H1 t.1 t.2) ∧ ts.length < 64 ∧
  ∀ (l : Addr) (ts' : TL), H1 l = none → ts'.Perm ts → ts'.Pairwise (fun a b => a.2.length ≤ b.2.length) → Q (.ref l) (upd H1 l (.lst (tRefs ts')))
theorem vals_tRefs : ∀ {ts : TL} {us : List Value}, Vals (tRefs ts) us → us = ts.map fun t => Value.ref t.1
  | [], us, h => by cases h; rfl
  | t :: ts, us, h => by
    cases h with
    | cons r rr => cases r; rw [vals_tRefs rr]; rfl
theorem tRefs_vals : ∀ ts : TL, Vals (tRefs ts) (ts.map fun t => Value.ref t.1)
  | [] => .nil
  | t :: ts => .cons rfl (tRefs_vals ts)
theorem perm_map2 {α β : Type} (f : α → β) {l : List β} {ts : List α} (h : l.Perm (ts.map f)) : ∃ ts' : List α, ts'.Perm ts ∧ l = ts'.map f := by
  obtain ⟨ts', p, e⟩ := perm_map f h ts rfl
  exact ⟨ts', p, e⟩
variable {X : Cx}
theorem pe_srtLen {k : Nat} {e : Expr} {t : TA} {p pos kpos p2 : Pos} (K : PySem.W.Frag) (hr : Room k X.A) (hg : Gl X "sorted") (hm : X.mg "sorted" = none) (hg2 : Gl X "len") (hm2 : X.mg "len" = none) (ha : PA X [e] t) (hK : X.K = K := by rfl)
    (hs : starEach [e] X.env = [(false, eval e X.env)] := by rfl) (hkw : keywordEach [⟨some "key", .Name "len" p2, kpos⟩] X.env = [(some (Str.ofString "key"), eval (.Name "len" p2) X.env)] := by rfl) : PE X (.Call (.Name "sorted" p) [e] [⟨some "key", .Name "len" p2, kpos⟩] pos) (tSrtLen K t) := by
  subst hK
  intro pins s σ H Q I h
  refine wpAny_Call_Name_kw (ld_blt I hg hm boot_sorted ?_)
  have ha' := ha pos pins s σ H _ I h
  rw [hs] at ha' ⊢
  rw [hkw]
  refine W.callWith_of (P := fun _ => True) rfl (fun _ _ => ⟨.machine, .inr (.inl rfl), fun A Q E s _ q => wpAny_pure q⟩) ?_
  show wpAny _ _ (spliced (backTo pos [(false, eval e X.env)]) >>= _) _ _ _
  refine wpAny_bind (thn ha' fun us s1 ⟨vs, H1, I1, r1, q1⟩ => ?_)
  refine wpAny_bind (wpAny_pure ?_)
  refine wpAny_holding ?_
  show wpAny _ _ (evalAll [do let v ← eval (.Name "len" p2) X.env; standAt pos; pure v] >>= _) _ _ _
  refine wpAny_bind ?_
  unfold evalAll
  refine wpAny_bind (wpAny_bind (ld_blt I1 hg2 hm2 PySem.boot_len (wpAny_bind (wpAny_standAt (wpAny_pure ?_)))))
  refine wpAny_bind (wpAny_holding (show wpAny _ _ (pure []) _ _ _ from wpAny_pure (wpAny_pure ?_)))
  show wpAny _ _ (pure us >>= _) _ _ _
  refine wpAny_bind (wpAny_pure (wpAny_pure ⟨trivial, ?_⟩))
  obtain ⟨p, ts, rfl, hq, hat, h64, q⟩ := q1
  obtain ⟨u, rfl, rx⟩ := vals1 r1
  cases rx
  obtain ⟨its, rv, pl, hz⟩ := I1.list hq
  have ei := vals_tRefs rv
  subst ei
  have hn := line63
  refine wk_sorted (f := .builtin "len") (kz := ts.map fun t => (t.2.length : Int)) (vs := ts.map fun t => Value.ref t.1) pl.isList (by rw [List.length_map, List.length_map]) (by rw [List.length_map]; exact h64) (ksk_s1 _ _) (fun _ => ksk_l1 _ _) (fun x => ksk_t4 "len" x) (fun i v k hv hk s' kp Q2 E2 h2 => ?_) fun h' tk out c kp hout ko => ?_
  · rw [List.getElem?_map] at hv hk
    cases ht : ts[i]? with
    | none => rw [ht] at hv; cases hv
    | some tt =>
      rw [ht] at hv hk
      cases hv
      cases hk
      obtain ⟨i1, v1, t1, z1⟩ := I1.tuple (hat tt (List.mem_of_getElem? ht))
      have t2 : IsTup s'.heap tt.1 i1.toArray := by obtain ⟨o, ho, hc⟩ := t1; exact ⟨o, kp _ _ ho, hc⟩
      have hl := v1.length
      refine len_tuple t2 (by rw [List.size_toArray]; omega) ?_
      rw [List.size_toArray, ← hl]
      exact h2 _ _
  · obtain ⟨ps, hp, ho, hs2⟩ := ko
    have ez : (ts.map fun t => (t.2.length : Int)).zip (ts.map fun t => Value.ref t.1) = ts.map fun t => ((t.2.length : Int), Value.ref t.1) := by
      rw [List.zip_map']
    rw [ez] at hp
    obtain ⟨ts', pm, e'⟩ := perm_map2 _ hp
    have eo : out.toList = ts'.map fun t => Value.ref t.1 := by rw [ho, e', List.map_map]; rfl
    refine ⟨.ref (s1.heap.objs.size + 1), _, I1.laid (t' := tk) (o := .lst (tRefs ts')) kp (Nat.le_succ _) ⟨?_, out.toList, c, by rw [eo]; exact tRefs_vals ts', by simpa using hout⟩, rfl, q _ ts' (I1.hok.fresh (Nat.le_succ _)) pm ?_⟩
    · unfold tRefs
      rw [List.length_map, pm.length_eq]; rw [sizeLine_eq]; omega
    · rw [e', List.pairwise_map] at hs2
      exact hs2.imp fun {a b} h => by have h' : ((a.2.length : Int)) ≤ (b.2.length : Int) := h; omega
end L2
set_option Elab.async false
set_option linter.all false
set_option maxRecDepth 100000
set_option maxHeartbeats 4000000
namespace My
open PySem L2 PyProof.Rows
def hdS : List Stmt → Stmt
  | a :: _ => a
  | [] => .Pass ⟨0, 0, 0, 0⟩
abbrev body0 : List Stmt := PySem.Challenge.pw_mergetree_k69_whole_free_beside_all_tree.main.body
abbrev st_is_number : Stmt := hdS (List.tail body0)
abbrev st_is_plan : Stmt := hdS (List.tail (List.tail (List.tail body0)))
abbrev st_finds_rows : Stmt := hdS (List.tail (List.tail (List.tail (List.tail body0))))
abbrev st_cost_of : Stmt := hdS (List.tail (List.tail (List.tail (List.tail (List.tail body0)))))
abbrev st_size_and_cost : Stmt := hdS (List.tail (List.tail (List.tail (List.tail (List.tail (List.tail body0))))))
abbrev st_free_plan : Stmt := hdS (List.tail (List.tail (List.tail (List.tail (List.tail (List.tail (List.tail body0)))))))
abbrev st_l_mix : Stmt := hdS (List.tail (List.tail (List.tail (List.tail (List.tail (List.tail (List.tail (List.tail (List.tail body0)))))))))
abbrev st_l_left : Stmt := hdS (List.tail (List.tail (List.tail (List.tail (List.tail (List.tail (List.tail (List.tail (List.tail (List.tail body0))))))))))
abbrev st_l_pick : Stmt := hdS (List.tail (List.tail (List.tail (List.tail (List.tail (List.tail (List.tail (List.tail (List.tail (List.tail (List.tail body0)))))))))))
abbrev st_l_many : Stmt := hdS (List.tail (List.tail (List.tail (List.tail (List.tail (List.tail (List.tail (List.tail (List.tail (List.tail (List.tail (List.tail body0))))))))))))
abbrev st_l_sizes : Stmt := hdS (List.tail (List.tail (List.tail (List.tail (List.tail (List.tail (List.tail (List.tail (List.tail (List.tail (List.tail (List.tail (List.tail body0)))))))))))))
abbrev st_l_ways : Stmt := hdS (List.tail (List.tail (List.tail (List.tail (List.tail (List.tail (List.tail (List.tail (List.tail (List.tail (List.tail (List.tail (List.tail (List.tail body0))))))))))))))
abbrev st_l_same : Stmt := hdS (List.tail (List.tail (List.tail (List.tail (List.tail (List.tail (List.tail (List.tail (List.tail (List.tail (List.tail (List.tail (List.tail (List.tail (List.tail body0)))))))))))))))
abbrev st_l_partings : Stmt := hdS (List.tail (List.tail (List.tail (List.tail (List.tail (List.tail (List.tail (List.tail (List.tail (List.tail (List.tail (List.tail (List.tail (List.tail (List.tail (List.tail body0))))))))))))))))
abbrev st_l_sets : Stmt := hdS (List.tail (List.tail (List.tail (List.tail (List.tail (List.tail (List.tail (List.tail (List.tail (List.tail (List.tail (List.tail (List.tail (List.tail (List.tail (List.tail (List.tail body0)))))))))))))))))
abbrev st_l_least : Stmt := hdS (List.tail (List.tail (List.tail (List.tail (List.tail (List.tail (List.tail (List.tail (List.tail (List.tail (List.tail (List.tail (List.tail (List.tail (List.tail (List.tail (List.tail (List.tail body0))))))))))))))))))
abbrev st_law : Stmt := hdS (List.tail (List.tail (List.tail (List.tail (List.tail (List.tail (List.tail (List.tail (List.tail (List.tail (List.tail (List.tail (List.tail (List.tail (List.tail (List.tail (List.tail (List.tail (List.tail body0)))))))))))))))))))
theorem sc_l_mix : FnScope ["_law_cell", "_law_k", "_law_m"] ["_law_cell", "_law_k"] (defScope st_l_mix) := ⟨rfl, rfl, rfl, by decide +kernel, rfl, by decide +kernel, by decide +kernel⟩
theorem sc_l_left : FnScope ["_law_script", "_law_k", "_law_cell"] ["_law_script", "_law_k"] (defScope st_l_left) := ⟨rfl, rfl, rfl, by decide +kernel, rfl, by decide +kernel, by decide +kernel⟩
theorem sc_l_pick : FnScope ["_law_left_here", "_law_many_here", "_law_digit"] ["_law_left_here", "_law_many_here"] (defScope st_l_pick) := ⟨rfl, rfl, rfl, by decide +kernel, rfl, by decide +kernel, by decide +kernel⟩
theorem sc_l_same : FnScope ["_law_found", "_law_due"] ["_law_found", "_law_due"] (defScope st_l_same) := ⟨rfl, rfl, rfl, by decide +kernel, rfl, by decide +kernel, by decide +kernel⟩
theorem sc_is_number : FnScope ["thing"] ["thing"] (defScope st_is_number) := ⟨rfl, rfl, rfl, by decide +kernel, rfl, by decide +kernel, by decide +kernel⟩
theorem sc_size_and_cost : FnScope ["sizes", "tree", "size", "cost", "part", "part_size", "part_cost"] ["sizes", "tree"] (defScope st_size_and_cost) := ⟨rfl, rfl, rfl, by decide +kernel, rfl, by decide +kernel, by decide +kernel⟩
theorem sc_cost_of : FnScope ["sizes", "tree"] ["sizes", "tree"] (defScope st_cost_of) := ⟨rfl, rfl, rfl, by decide +kernel, rfl, by decide +kernel, by decide +kernel⟩
theorem sc_l_many : FnScope ["_law_left_here", "_law_way"] ["_law_left_here"] (defScope st_l_many) := ⟨rfl, rfl, rfl, by decide +kernel, rfl, by decide +kernel, by decide +kernel⟩
theorem sc_l_ways : FnScope ["_law_left_here"] ["_law_left_here"] (defScope st_l_ways) := ⟨rfl, rfl, rfl, by decide +kernel, rfl, by decide +kernel, by decide +kernel⟩
theorem sc_l_sizes : FnScope ["_law_left_here", "_law_most", "_law_many_here", "_law_way", "_law_found", "_law_k", "_law_some"] ["_law_left_here", "_law_most"] (defScope st_l_sizes) := ⟨rfl, rfl, rfl, by decide +kernel, rfl, by decide +kernel, by decide +kernel⟩
theorem sc_free_plan : FnScope ["sizes", "ways", "there", "trees", "cost", "many", "together", "size"] ["sizes", "ways"] (defScope st_free_plan) := ⟨rfl, rfl, rfl, by decide +kernel, rfl, by decide +kernel, by decide +kernel⟩
theorem sc_finds_rows : FnScope ["sizes", "ways", "thing", "found", "part"] ["sizes", "ways", "thing", "found"] (defScope st_finds_rows) := ⟨rfl, rfl, rfl, by decide +kernel, rfl, by decide +kernel, by decide +kernel⟩
theorem sc_is_plan : FnScope ["sizes", "ways", "thing", "found"] ["sizes", "ways", "thing"] (defScope st_is_plan) := ⟨rfl, rfl, rfl, by decide +kernel, rfl, by decide +kernel, by decide +kernel⟩
theorem sc_l_partings : FnScope ["_law_some", "_law_ways_here", "_law_found", "_law_n", "_law_longer", "_law_parts"] ["_law_some", "_law_ways_here"] (defScope st_l_partings) := ⟨rfl, rfl, rfl, by decide +kernel, rfl, by decide +kernel, by decide +kernel⟩
theorem sc_l_sets : FnScope ["_law_many_here", "_law_found", "_law_n"] ["_law_many_here"] (defScope st_l_sets) := ⟨rfl, rfl, rfl, by decide +kernel, rfl, by decide +kernel, by decide +kernel⟩
theorem sc_l_least : FnScope ["_law_sizes_here", "_law_ways_here", "_law_least_here", "_law_some", "_law_costs", "_law_parts"] ["_law_sizes_here", "_law_ways_here"] (defScope st_l_least) := ⟨rfl, rfl, rfl, by decide +kernel, rfl, by decide +kernel, by decide +kernel⟩
theorem sc_law : FnScope ["_law_script", "_law_k", "_law_left_here", "_law_sizes_here", "_law_ways_here", "_law_due", "_law_cost", "_law_tree"] ["_law_script"] (defScope st_law) := ⟨rfl, rfl, rfl, by decide +kernel, rfl, by decide +kernel, by decide +kernel⟩
abbrev zsc (l : List (Str × NameKind)) : Scope := { kind := .function, names := l, isGenerator := false, isCoroutine := false, more := [] }
def scope_0 : Scope := zsc [(".0", .«local»), ("_law_one", .«local»), ("_law_other", .«local»), ("_law_same", .globalImplicit)]
theorem cs_0 : CompSc ["_law_found", "_law_due"] ["_law_found", "_law_due", "_law_one", "_law_other"] (defScope st_l_same) scope_0 := ⟨rfl, rfl, by decide +kernel, by decide +kernel, by decide +kernel, by decide, by decide +kernel, by decide +kernel⟩
def scope_1 : Scope := zsc [(".0", .«local»), ("number", .«local»), ("size", .«local»)]
theorem cs_1 : CompSc ["sizes", "ways", "there", "trees", "cost", "many", "together", "size"] ["sizes", "ways", "there", "trees", "cost", "many", "together", "?size", "number", "size"] (defScope st_free_plan) scope_1 := ⟨rfl, rfl, by decide +kernel, by decide +kernel, by decide +kernel, by decide, by decide +kernel, by decide +kernel⟩
def scope_2 : Scope := zsc [(".0", .«local»), ("each", .«local»)]
theorem cs_2 : CompSc ["sizes", "ways", "there", "trees", "cost", "many", "together", "size"] ["sizes", "ways", "there", "trees", "cost", "many", "together", "size", "each"] (defScope st_free_plan) scope_2 := ⟨rfl, rfl, by decide +kernel, by decide +kernel, by decide +kernel, by decide, by decide +kernel, by decide +kernel⟩
def scope_3 : Scope := zsc [(".0", .«local»), ("each", .«local»), ("trees", .free)]
theorem cs_3 : CompSc ["sizes", "ways", "there", "trees", "cost", "many", "together", "size"] ["sizes", "ways", "there", "trees", "cost", "many", "together", "size", "each"] (defScope st_free_plan) scope_3 := ⟨rfl, rfl, by decide +kernel, by decide +kernel, by decide +kernel, by decide, by decide +kernel, by decide +kernel⟩
def scope_4 : Scope := zsc [(".0", .«local»), ("_law_at", .«local»), ("_law_n", .free), ("_law_parts", .free)]
theorem cs_4 : CompSc ["_law_some", "_law_ways_here", "_law_found", "_law_n", "_law_longer", "_law_parts"] ["_law_some", "_law_ways_here", "_law_found", "_law_n", "_law_longer", "_law_parts", "_law_at"] (defScope st_l_partings) scope_4 := ⟨rfl, rfl, by decide +kernel, by decide +kernel, by decide +kernel, by decide, by decide +kernel, by decide +kernel⟩
def scope_5 : Scope := zsc [(".0", .«local»), ("_law_some", .«local»), ("_law_n", .free)]
theorem cs_5 : CompSc ["_law_many_here", "_law_found", "_law_n"] ["_law_many_here", "_law_found", "_law_n", "_law_some"] (defScope st_l_sets) scope_5 := ⟨rfl, rfl, by decide +kernel, by decide +kernel, by decide +kernel, by decide, by decide +kernel, by decide +kernel⟩
def scope_6 : Scope := zsc [(".0", .«local»), ("_law_some", .«local»)]
theorem cs_6 : CompSc ["_law_many_here", "_law_found", "_law_n"] ["_law_many_here", "_law_found", "_law_n", "_law_some"] (defScope st_l_sets) scope_6 := ⟨rfl, rfl, by decide +kernel, by decide +kernel, by decide +kernel, by decide, by decide +kernel, by decide +kernel⟩
def scope_7 : Scope := zsc [(".0", .«local»), ("_law_part", .«local»), ("_law_least_here", .free)]
theorem cs_7 : CompSc ["_law_sizes_here", "_law_ways_here", "_law_least_here", "_law_some", "_law_costs", "_law_parts"] ["_law_sizes_here", "_law_ways_here", "_law_least_here", "_law_some", "_law_costs", "_law_parts", "_law_part"] (defScope st_l_least) scope_7 := ⟨rfl, rfl, by decide +kernel, by decide +kernel, by decide +kernel, by decide, by decide +kernel, by decide +kernel⟩
def scope_8 : Scope := zsc [(".0", .«local»), ("_law_n", .«local»), ("_law_sizes_here", .free)]
theorem cs_8 : CompSc ["_law_sizes_here", "_law_ways_here", "_law_least_here", "_law_some", "_law_costs", "_law_parts"] ["_law_sizes_here", "_law_ways_here", "_law_least_here", "_law_some", "_law_costs", "_law_parts", "_law_n"] (defScope st_l_least) scope_8 := ⟨rfl, rfl, by decide +kernel, by decide +kernel, by decide +kernel, by decide, by decide +kernel, by decide +kernel⟩
structure Bt (mg : Str → Option Value) : Prop where
  n_abs : mg "abs" = none
  n_all : mg "all" = none
  n_bool : mg "bool" = none
  n_enumerate : mg "enumerate" = none
  n_int : mg "int" = none
  n_isinstance : mg "isinstance" = none
  n_len : mg "len" = none
  n_list : mg "list" = none
  n_max : mg "max" = none
  n_min : mg "min" = none
  n_range : mg "range" = none
  n_sorted : mg "sorted" = none
  n_str : mg "str" = none
  n_sum : mg "sum" = none
  n_tuple : mg "tuple" = none
  n_zip : mg "zip" = none
structure Tops (K : PySem.W.Frag) (mg : Str → Option Value) : Prop where
  b : Bt mg
  t_is_number : Top K mg "is_number" st_is_number ["thing"]
  t_is_plan : Top K mg "is_plan" st_is_plan ["sizes", "ways", "thing"]
  t_finds_rows : Top K mg "finds_rows" st_finds_rows ["sizes", "ways", "thing", "found"]
  t_cost_of : Top K mg "cost_of" st_cost_of ["sizes", "tree"]
  t_size_and_cost : Top K mg "size_and_cost" st_size_and_cost ["sizes", "tree"]
  t_free_plan : Top K mg "free_plan" st_free_plan ["sizes", "ways"]
  t_l_mix : Top K mg "_law_mix" st_l_mix ["_law_cell", "_law_k"]
  t_l_left : Top K mg "_law_left" st_l_left ["_law_script", "_law_k"]
  t_l_pick : Top K mg "_law_pick" st_l_pick ["_law_left_here", "_law_many_here"]
  t_l_many : Top K mg "_law_many" st_l_many ["_law_left_here"]
  t_l_sizes : Top K mg "_law_sizes" st_l_sizes ["_law_left_here", "_law_most"]
  t_l_ways : Top K mg "_law_ways" st_l_ways ["_law_left_here"]
  t_l_same : Top K mg "_law_same" st_l_same ["_law_found", "_law_due"]
  t_l_partings : Top K mg "_law_partings" st_l_partings ["_law_some", "_law_ways_here"]
  t_l_sets : Top K mg "_law_sets" st_l_sets ["_law_many_here"]
  t_l_least : Top K mg "_law_least" st_l_least ["_law_sizes_here", "_law_ways_here"]
def Left (H : Hp) (p : Addr) (c : Int) : Prop := ∃ a b : Int, H p = some (.lst [.int a, .int b, .int c]) ∧ 0 ≤ c
def But (p : Addr) (H H' : Hp) : Prop := ∀ b o, H b = some o → b ≠ p → H' b = some o
theorem But.trans {p : Addr} {H H1 H2 : Hp} (a : But p H H1) (b : But p H1 H2) : But p H H2 := fun c o h n => b c o (a c o h n) n
theorem But.same {p : Addr} {H H1 : Hp} (a : Same H H1) : But p H H1 := fun c o h _ => a c o h
theorem same_new {H : Hp} {p : Addr} (h : H p = none) (o : HO) : Same H (upd H p o) := fun b u q => by rw [upd_ne (ne_of_none q h)]; exact q
def spMix : Sp := fun vs H Q _ => ∃ a k : Int, vs = [.int a, .int k] ∧ -(2 ^ 62) < k ∧ k < 2 ^ 62 ∧ ∀ r : Int, 0 ≤ r → r < 2000000000 → Q (.int r) H
def spLeft (K : PySem.W.Frag) : Sp := fun vs H Q _ => ∃ (a : Addr) (ns : List Int) (k : Int), vs = [.ref a, .int k] ∧ SqL K H a (ns.map V.int) ∧ ns.length ≤ 63 ∧ 0 ≤ k ∧ k < 100 ∧
  ∀ (p : Addr) (H' : Hp), H p = none → Left H' p 0 → Same H H' → Q (.ref p) H'
def spPick : Sp := fun vs H Q _ => ∃ (p : Addr) (c m : Int), vs = [.ref p, .int m] ∧ Left H p c ∧ c < 2 ^ 60 ∧ 0 < m ∧ m < 1073741824 ∧
  ∀ (r : Int) (H' : Hp), 0 ≤ r → r < m → Left H' p (c + 1) → But p H H' → Q (.int r) H'
theorem at_int {ns : List Int} {k : Int} (h0 : 0 ≤ k) (h : k < (ns.length : Int)) : ∃ v : Int, atI (ns.map V.int) k = some (.int v) := by
  have hk : k.toNat < ns.length := by omega
  have ek : k = ((k.toNat : Nat) : Int) := by omega
  have q : atI (ns.map V.int) ((k.toNat : Nat) : Int) = some (.int ns[k.toNat]) := atI_nat (by rw [List.getElem?_map, List.getElem?_eq_getElem hk] <;> rfl)
  rw [← ek] at q
  exact ⟨_, q⟩
theorem bit01 (b : Bool) : -(2 ^ 64) < (if b = true then (1 : Int) else 0) ∧ (if b = true then (1 : Int) else 0) < 2 ^ 64 := by cases b <;> decide
def lcp : List Nat → List Nat → Nat
  | a :: r, b :: s => if a = b then lcp r s + 1 else 0
  | _, _ => 0
abbrev cds (z : Str) : List Nat := z.cps.toList
def AZ (z : Str) : Prop := ∀ c ∈ cds z, 97 ≤ c ∧ c ≤ 122
def spAlike : Sp := fun vs H Q _ => ∃ x y : Str, vs = [.str x, .str y] ∧ x.length ≤ 1000 ∧ y.length ≤ 1000 ∧ Q (.int (lcp (cds x) (cds y))) H
def spAlikeFrom : Sp := fun vs H Q _ => ∃ (x y : Str) (far : Nat), vs = [.str x, .str y, .int far] ∧ x.length ≤ 1000 ∧ y.length ≤ 1000 ∧ far ≤ lcp (cds x) (cds y) ∧ Q (.int (lcp (cds x) (cds y))) H
def IsD (H : Hp) : Nat → V → V → Prop
  | 0, _, _ => False
  | n + 1, x, y => (x = y ∧ (x = .non ∨ (∃ b, x = .bl b) ∨ (∃ i, x = .int i) ∨ ∃ s, x = .str s)) ∨
      (∃ (p q : Addr) (xs ys : List V), x = .ref p ∧ y = .ref q ∧ ((H p = some (.lst xs) ∧ H q = some (.lst ys)) ∨ (H p = some (.tup xs) ∧ H q = some (.tup ys))) ∧ xs.length = ys.length ∧ xs.length ≤ 1000 ∧ ∀ (i : Nat) (x y : V), xs[i]? = some x → ys[i]? = some y → IsD H n x y)
theorem IsD.mono {H H' : Hp} (s : Same H H') : ∀ {n : Nat} {x y : V}, IsD H n x y → IsD H' n x y
  | 0, _, _, h => h.elim
  | n + 1, x, y, h => by
    rcases h with h | ⟨p, q, xs, ys, e1, e2, h, hl, hz, hi⟩
    · exact .inl h
    · refine .inr ⟨p, q, xs, ys, e1, e2, ?_, hl, hz, fun i x y a b => (hi i x y a b).mono s⟩
      rcases h with ⟨a, b⟩ | ⟨a, b⟩
      · exact .inl ⟨s _ _ a, s _ _ b⟩
      · exact .inr ⟨s _ _ a, s _ _ b⟩
def spSame (n : Nat) : Sp := fun vs H Q _ => ∃ x y : V, vs = [x, y] ∧ IsD H n x y ∧ ∀ H', Same H H' → Q (.bl true) H'
section
variable (K : PySem.W.Frag)
open PySem.W
theorem k_int_seq : kitAny K (.type "int") (["list", "tuple"].map Value.type) = some false := by unfold kitAny kitOne kitCls; rfl
theorem k_bl_seq : kitAny K (.type "bool") (["list", "tuple"].map Value.type) = some false := by unfold kitAny kitOne kitCls; rfl
theorem k_str_seq : kitAny K (.type "str") (["list", "tuple"].map Value.type) = some false := by unfold kitAny kitOne kitCls; rfl
theorem k_non_seq : kitAny K (.type "NoneType") (["list", "tuple"].map Value.type) = some false := by unfold kitAny kitOne kitCls; rfl
theorem k_lst_seq : kitAny K (.type "list") (["list", "tuple"].map Value.type) = some true := by unfold kitAny kitOne kitCls; rfl
theorem k_tup_seq : kitAny K (.type "tuple") (["list", "tuple"].map Value.type) = some true := by unfold kitAny kitOne kitCls; rfl
theorem k_lst_lst : kitOne K (.type "list") (.type "list") = some true := by unfold kitOne kitCls; rfl
theorem k_lst_tup : kitOne K (.type "list") (.type "tuple") = some false := by unfold kitOne kitCls; rfl
theorem k_tup_lst : kitOne K (.type "tuple") (.type "list") = some false := by unfold kitOne kitCls; rfl
theorem k_tup_tup : kitOne K (.type "tuple") (.type "tuple") = some true := by unfold kitOne kitCls; rfl
theorem k_int_str : kitOne K (.type "int") (.type "str") = some false := by unfold kitOne kitCls; rfl
theorem k_int_bl : kitOne K (.type "int") (.type "bool") = some false := by unfold kitOne kitCls; rfl
theorem k_int_int : kitOne K (.type "int") (.type "int") = some true := by unfold kitOne kitCls; rfl
theorem k_str_str : kitOne K (.type "str") (.type "str") = some true := by unfold kitOne kitCls; rfl
theorem k_non_str : kitOne K (.type "NoneType") (.type "str") = some false := by unfold kitOne kitCls; rfl
theorem k_bl_str : kitOne K (.type "bool") (.type "str") = some false := by unfold kitOne kitCls; rfl
theorem k_bl_bl : kitOne K (.type "bool") (.type "bool") = some true := by unfold kitOne kitCls; rfl
end
section
variable {P : Program} {w : World} {K : PySem.W.Frag} {mg : Str → Option Value} {base : Heap}
theorem ok_mix (T : Tops K mg) : Df P w K mg base 1 "_law_mix" ["_law_cell", "_law_k"] spMix := by
  refine T.t_l_mix.df sc_l_mix (fun vs H Q E h => ?_) (fun cdv f A outer s H vs Q E hr h => ?_)
  · obtain ⟨a, k, rfl, _⟩ := h
    rfl
  obtain ⟨a, k, rfl, k1, k2, q⟩ := h
  refine ⟨_, (@pss_cons _ _ _ _ _ (@ps_set _ _ 2 _ _ _ _ sc_l_mix.nd rfl (Or.inl rfl) (@pe_op _ _ _ _ _ _ _ _ op_mod (@pe_op _ _ _ _ _ _ _ _ op_mul (@pe_op _ _ _ _ _ _ _ _ op_add (@pe_op _ _ _ _ _ _ _ _ op_add (@pe_op _ _ _ _ _ _ _ _ op_mod (@pv _ 0 _ _ (by rfl) (Or.inl rfl) (by decide) (by decide)) (@pe_int _ _ _ _)) (@pe_op _ _ _ _ _ _ _ _ op_mul (@pe_op _ _ _ _ _ _ _ _ op_mul (@pv _ 1 _ _ (by rfl) (Or.inl rfl) (by decide) (by decide)) (@pv _ 1 _ _ (by rfl) (Or.inl rfl) (by decide) (by decide))) (@pe_int _ _ _ _))) (@pe_int _ _ _ _)) (@pe_int _ _ _ _)) (@pe_int _ _ _ _)) (by rfl) (by first | exact .inl rfl | exact .inr rfl)) (@pss_one _ _ _ (@ps_ret _ _ _ _ (@pe_op _ _ _ _ _ _ _ _ op_mod (@pe_op _ _ _ _ _ _ _ _ op_mul (@pv _ 2 _ _ (by rfl) (Or.inl rfl) (by decide) (by decide)) (@pv _ 2 _ _ (by rfl) (Or.inl rfl) (by decide) (by decide))) (@pe_int _ _ _ _))))), ?_⟩
  refine ⟨_, rfl, _, _, rfl, rfl, (by show (0 : Int) < _; decide), _, rfl, _, rfl, _, _, rfl, rfl, .inl ⟨by omega, by omega⟩, _, _, rfl, rfl, .inr ⟨by decide, by decide⟩, _, _, rfl, rfl, _, _, rfl, rfl, _, _, rfl, rfl, .inr ⟨by decide, by decide⟩, _, _, rfl, rfl, (by show (0 : Int) < _; decide), ?_⟩
  have m0 := Int.emod_nonneg ((a % 2147483629 + k * k * 7919 + 11) * 48271) (show (2147483647 : Int) ≠ 0 by decide)
  have m1 := Int.emod_lt_of_pos ((a % 2147483629 + k * k * 7919 + 11) * 48271) (show (0 : Int) < 2147483647 by decide)
  refine ⟨_, rfl, _, rfl, _, _, rfl, rfl, .inl ⟨by omega, by omega⟩, _, _, rfl, rfl, (by show (0 : Int) < _; decide), ?_⟩
  exact q _ (Int.emod_nonneg _ (by decide)) (Int.lt_trans (Int.emod_lt_of_pos _ (by decide)) (by decide))
theorem ok_left (T : Tops K mg) : Df P w K mg base 1 "_law_left" ["_law_script", "_law_k"] (spLeft K) := by
  refine T.t_l_left.df sc_l_left (fun vs H Q E h => ?_) (fun cdv f A outer s H vs Q E hr h => ?_)
  · obtain ⟨a, ns, k, rfl, _⟩ := h
    rfl
  obtain ⟨a, ns, k, rfl, hS, h63, k0, k1, q⟩ := h
  refine ⟨_, (@pss_cons _ _ _ _ _ (@ps_set _ _ 2 _ _ _ _ sc_l_left.nd rfl (Or.inl rfl) (@pe_ifExp _ _ _ _ _ _ _ _ (@pt_cmpR _ _ _ _ _ _ _ _ op_lt (@pv _ 1 _ _ (by rfl) (Or.inl rfl) (by decide) (by decide)) (@pe_callB _ _ _ _ _ _ _ _ _ (lenQ K) (by rfl) T.b.n_len PySem.boot_len (@pa_cons _ _ _ _ _ (@pv _ 0 _ _ (by rfl) (Or.inl rfl) (by decide) (by decide)) (@pa_nil _) (by rfl)) (by decide) (by decide) (by rfl) (by rfl)) (nomark _)) (@pe_ix _ _ _ _ _ _ _ (ixL K) (@pv _ 0 _ _ (by rfl) (Or.inl rfl) (by decide) (by decide)) (@pv _ 1 _ _ (by rfl) (Or.inl rfl) (by decide) (by decide)) (fun _ _ => rfl)) (@pe_int _ _ _ _)) (by rfl) (by first | exact .inl rfl | exact .inr rfl)) (@pss_one _ _ _ (@ps_ret _ _ _ _ (@pe_lst _ _ _ _ (@pa_cons _ _ _ _ _ (@pe_op _ _ _ _ _ _ _ _ op_mul (@pe_callB _ _ _ _ _ _ _ _ _ call_abs (by rfl) T.b.n_abs boot_abs (@pa_cons _ _ _ _ _ (@pv _ 2 _ _ (by rfl) (Or.inl rfl) (by decide) (by decide)) (@pa_nil _) (by rfl)) (by decide) (by decide) (by rfl) (by rfl)) (@pe_callTy _ _ _ _ _ _ _ _ _ call_int1 (by rfl) T.b.n_int boot_int (@pa_cons _ _ _ _ _ (@pe_cmpR _ _ _ _ _ _ _ _ op_ge (@pe_callB _ _ _ _ _ _ _ _ _ call_abs (by rfl) T.b.n_abs boot_abs (@pa_cons _ _ _ _ _ (@pv _ 2 _ _ (by rfl) (Or.inl rfl) (by decide) (by decide)) (@pa_nil _) (by rfl)) (by decide) (by decide) (by rfl) (by rfl)) (@pe_op _ _ _ _ _ _ _ _ op_pow (@pe_int _ _ _ _) (@pe_int _ _ _ _)) (nomark _)) (@pa_nil _) (by rfl)) (by decide) (by decide) (by rfl) (by rfl))) (@pa_cons _ _ _ _ _ (@pe_op _ _ _ _ _ _ _ _ op_add (@pv _ 2 _ _ (by rfl) (Or.inl rfl) (by decide) (by decide)) (@pe_op _ _ _ _ _ _ _ _ op_mul (@pe_int _ _ _ _) (@pv _ 1 _ _ (by rfl) (Or.inl rfl) (by decide) (by decide)))) (@pa_cons _ _ _ _ _ (@pe_int _ _ _ _) (@pa_nil _) (by rfl)) (by rfl)) (by rfl)))))), ?_⟩
  have hl : (ns.map V.int).length = ns.length := List.length_map _
  have pw : CPow 10 18 := ⟨by decide, by decide, by decide⟩
  refine ⟨_, rfl, _, rfl, a, _, rfl, .inl hS, _, _, rfl, rfl, _, rfl, ?_⟩
  refine ite2 (fun c => ?_) (fun c => ?_)
  · have c' : k < (((ns.map V.int).length : Nat) : Int) := of_decide_eq_true c
    rw [hl] at c'
    obtain ⟨v, hv⟩ := at_int (ns := ns) k0 c'
    refine ⟨_, rfl, _, rfl, a, _, _, _, rfl, rfl, hS, hv, ?_⟩
    refine ⟨_, rfl, _, rfl, _, rfl, _, rfl, _, _, rfl, rfl, pw, _, _, rfl, rfl, .inr ⟨_, rfl, _, _, rfl, rfl, .inr (bit01 _), _, rfl, _, rfl, _, _, rfl, rfl, .inl ⟨by decide, by decide⟩, _, _, rfl, rfl, (by show 3 ≤ sizeLine; decide), fun p hp => ?_⟩⟩
    exact q p _ hp ⟨_, _, upd_same, Int.le_refl _⟩ (same_new hp _)
  · refine ⟨_, rfl, _, rfl, _, rfl, _, rfl, _, _, rfl, rfl, pw, _, _, rfl, rfl, .inr ⟨_, rfl, _, _, rfl, rfl, .inr (bit01 _), _, rfl, _, rfl, _, _, rfl, rfl, .inl ⟨by decide, by decide⟩, _, _, rfl, rfl, (by show 3 ≤ sizeLine; decide), fun p hp => ?_⟩⟩
    exact q p _ hp ⟨_, _, upd_same, Int.le_refl _⟩ (same_new hp _)
theorem ok_pick (T : Tops K mg) (f_l_mix : Df P w K mg base 1 "_law_mix" ["_law_cell", "_law_k"] spMix) : Df P w K mg base 2 "_law_pick" ["_law_left_here", "_law_many_here"] spPick := by
  refine T.t_l_pick.df sc_l_pick (fun vs H Q E h => ?_) (fun cdv f A outer s H vs Q E hr h => ?_)
  · obtain ⟨p, c, m, rfl, _⟩ := h
    rfl
  obtain ⟨p, c, m, rfl, ⟨a, b, hp, c0⟩, c1, m0, m1, q⟩ := h
  refine ⟨_, (@pss_cons _ _ _ _ _ (@ps_asg _ _ _ _ _ _ (@pe_op _ _ _ _ _ _ _ _ op_add (@pe_ix _ _ _ _ _ _ _ (ixL K) (@pv _ 0 _ _ (by rfl) (Or.inl rfl) (by decide) (by decide)) (@pe_int _ _ _ _) (fun _ _ => rfl)) (@pe_int _ _ _ _)) (@pg_sub _ _ _ _ _ _ _ (@pv _ 0 _ _ (by rfl) (Or.inl rfl) (by decide) (by decide)) (@pe_int _ _ _ _) set_list (by intro _; rfl)) (by rfl) (by rfl) (by rfl)) (@pss_cons _ _ _ _ _ (@ps_if _ _ _ _ _ _ _ _ (@pt_cmpR _ _ _ _ _ _ _ _ op_gt (@pe_ix _ _ _ _ _ _ _ (ixL K) (@pv _ 0 _ _ (by rfl) (Or.inl rfl) (by decide) (by decide)) (@pe_int _ _ _ _) (fun _ _ => rfl)) (@pe_int _ _ _ _) (nomark _)) (@pss_cons _ _ _ _ _ (@ps_set _ _ 2 _ _ _ _ sc_l_pick.nd rfl (Or.inl rfl) (@pe_op _ _ _ _ _ _ _ _ op_mod (@pe_ix _ _ _ _ _ _ _ (ixL K) (@pv _ 0 _ _ (by rfl) (Or.inl rfl) (by decide) (by decide)) (@pe_int _ _ _ _) (fun _ _ => rfl)) (@pv _ 1 _ _ (by rfl) (Or.inl rfl) (by decide) (by decide))) (by rfl) (by first | exact .inl rfl | exact .inr rfl)) (@pss_cons _ _ _ _ _ (@ps_asg _ _ _ _ _ _ (@pe_op _ _ _ _ _ _ _ _ op_fdiv (@pe_ix _ _ _ _ _ _ _ (ixL K) (@pv _ 0 _ _ (by rfl) (Or.inl rfl) (by decide) (by decide)) (@pe_int _ _ _ _) (fun _ _ => rfl)) (@pv _ 1 _ _ (by rfl) (Or.inl rfl) (by decide) (by decide))) (@pg_sub _ _ _ _ _ _ _ (@pv _ 0 _ _ (by rfl) (Or.inl rfl) (by decide) (by decide)) (@pe_int _ _ _ _) set_list (by intro _; rfl)) (by rfl) (by rfl) (by rfl)) (@pss_one _ _ _ (@ps_ret _ _ _ _ (@pv _ 2 _ _ (by rfl) (Or.inl rfl) (by decide) (by decide)))))) (@pss_nil _)) (@pss_one _ _ _ (@ps_ret _ _ _ _ (@pe_op _ _ _ _ _ _ _ _ op_mod (@pe_op _ _ _ _ _ _ _ _ op_fdiv (@pe_df _ _ _ _ _ _ _ _ _ _ _ f_l_mix hr (@pa_cons _ _ _ _ _ (@pe_df _ _ _ _ _ _ _ _ _ _ _ f_l_mix hr (@pa_cons _ _ _ _ _ (@pe_ix _ _ _ _ _ _ _ (ixL K) (@pv _ 0 _ _ (by rfl) (Or.inl rfl) (by decide) (by decide)) (@pe_int _ _ _ _) (fun _ _ => rfl)) (@pa_cons _ _ _ _ _ (@pe_ix _ _ _ _ _ _ _ (ixL K) (@pv _ 0 _ _ (by rfl) (Or.inl rfl) (by decide) (by decide)) (@pe_int _ _ _ _) (fun _ _ => rfl)) (@pa_nil _) (by rfl)) (by rfl)) (by first | decide | exact Nat.le_refl _ | omega) (by rfl) (by decide) (by rfl) (by rfl)) (@pa_cons _ _ _ _ _ (@pe_op _ _ _ _ _ _ _ _ op_add (@pe_ix _ _ _ _ _ _ _ (ixL K) (@pv _ 0 _ _ (by rfl) (Or.inl rfl) (by decide) (by decide)) (@pe_int _ _ _ _) (fun _ _ => rfl)) (@pe_int _ _ _ _)) (@pa_nil _) (by rfl)) (by rfl)) (by first | decide | exact Nat.le_refl _ | omega) (by rfl) (by decide) (by rfl) (by rfl)) (@pe_int _ _ _ _)) (@pv _ 1 _ _ (by rfl) (Or.inl rfl) (by decide) (by decide))))))), ?_⟩
  have u1 : (upd H p (.lst [.int a, .int b, .int (c + 1)])) p = some (.lst [.int a, .int b, .int (c + 1)]) := upd_same
  refine ⟨_, rfl, p, _, _, _, rfl, rfl, SqL.of hp, rfl, _, _, rfl, rfl, _, rfl, p, _, _, 2, rfl, rfl, hp, rfl, ?_⟩
  refine ⟨_, rfl, p, _, _, _, rfl, rfl, SqL.of u1, rfl, _, _, rfl, rfl, _, rfl, ?_⟩
  refine ite2 (fun d => ?_) (fun d => ?_)
  · refine ⟨_, rfl, p, _, _, _, rfl, rfl, SqL.of u1, rfl, _, rfl, _, _, rfl, rfl, m0, ?_⟩
    refine ⟨_, rfl, p, _, _, _, rfl, rfl, SqL.of u1, rfl, _, rfl, _, _, rfl, rfl, ⟨m0, by omega⟩, _, rfl, p, _, _, 0, rfl, rfl, u1, rfl, ?_⟩
    refine ⟨_, rfl, ?_⟩
    refine q _ _ (Int.emod_nonneg _ (by omega)) (Int.emod_lt_of_pos _ m0) ⟨a / m, b, upd_same, by omega⟩ fun e o h n => ?_
    rw [upd_ne n, upd_ne n]
    exact h
  · refine ⟨_, rfl, p, _, _, _, rfl, rfl, SqL.of u1, rfl, _, rfl, p, _, _, _, rfl, rfl, SqL.of u1, rfl, _, _, rfl, by omega, by omega, fun r r0 r1 => ?_⟩
    refine ⟨_, rfl, p, _, _, _, rfl, rfl, SqL.of u1, rfl, _, _, rfl, rfl, _, _, rfl, by omega, by omega, fun r' r0' r1' => ?_⟩
    refine ⟨_, _, rfl, rfl, ⟨by decide, by decide⟩, _, rfl, _, _, rfl, rfl, m0, ?_⟩
    refine q _ _ (Int.emod_nonneg _ (by omega)) (Int.emod_lt_of_pos _ m0) ⟨a, b, upd_same, by omega⟩ fun e o h n => ?_
    rw [upd_ne n]
    exact h
theorem iteD {c A B : Prop} [Decidable c] (hc : c) (h : A) : if decide c = true then A else B := by
  rw [if_pos (decide_eq_true hc)]
  exact h
theorem iteDN {c A B : Prop} [Decidable c] (hc : ¬ c) (h : B) : if decide c = true then A else B := by
  rw [if_neg (by rw [decide_eq_false hc]; exact Bool.false_ne_true)]
  exact h
theorem ok_same (T : Tops K mg) : ∀ n : Nat, Df P w K mg base (n + 1) "_law_same" ["_law_found", "_law_due"] (spSame n)
  | 0 => by
    refine T.t_l_same.df sc_l_same (fun vs H Q E h => ?_) (fun cdv f A outer s H vs Q E hr h => ?_)
    · obtain ⟨x, y, rfl, _⟩ := h
      rfl
    obtain ⟨x, y, rfl, h, _⟩ := h
    exact h.elim
  | n + 1 => by
    have f_l_same := ok_same T n
    refine T.t_l_same.df sc_l_same (fun vs H Q E h => ?_) (fun cdv f A outer s H vs Q E hr h => ?_)
    · obtain ⟨x, y, rfl, _⟩ := h
      rfl
    obtain ⟨x, y, rfl, hD, q⟩ := h
    refine ⟨_, (@pss_cons _ _ _ _ _ (@ps_if _ _ _ _ _ _ _ _ (@pt_val _ _ _ (@pe_callB _ _ _ _ _ _ _ _ _ (isiTQ K) (by rfl) T.b.n_isinstance boot_isinstance (@pa_cons _ _ _ _ _ (@pv _ 1 _ _ (by rfl) (Or.inl rfl) (by decide) (by decide)) (@pa_cons _ _ _ _ _ (@pe_tup _ _ _ _ _ (@pa_cons _ _ _ _ _ (@pe_ty _ _ _ _ T.b.n_list boot_list (by rfl) (by decide) (by decide)) (@pa_cons _ _ _ _ _ (@pe_ty _ _ _ _ T.b.n_tuple boot_tuple (by rfl) (by decide) (by decide)) (@pa_nil _) (by rfl)) (by rfl))) (@pa_nil _) (by rfl)) (by rfl)) (by decide) (by decide) (by rfl) (by rfl)) (by intro _; rfl)) (@pss_cons _ _ _ _ _ (@ps_if _ _ _ _ _ _ _ _ (@PW.pt _ _ _ (@pw_or _ _ _ _ _ _ _ (@pt_cmpR _ _ _ _ _ _ _ _ op_ne (@pe_callB _ _ _ _ _ _ _ _ _ (isiQ K) (by rfl) T.b.n_isinstance boot_isinstance (@pa_cons _ _ _ _ _ (@pv _ 0 _ _ (by rfl) (Or.inl rfl) (by decide) (by decide)) (@pa_cons _ _ _ _ _ (@pe_ty _ _ _ _ T.b.n_list boot_list (by rfl) (by decide) (by decide)) (@pa_nil _) (by rfl)) (by rfl)) (by decide) (by decide) (by rfl) (by rfl)) (@pe_callB _ _ _ _ _ _ _ _ _ (isiQ K) (by rfl) T.b.n_isinstance boot_isinstance (@pa_cons _ _ _ _ _ (@pv _ 1 _ _ (by rfl) (Or.inl rfl) (by decide) (by decide)) (@pa_cons _ _ _ _ _ (@pe_ty _ _ _ _ T.b.n_list boot_list (by rfl) (by decide) (by decide)) (@pa_nil _) (by rfl)) (by rfl)) (by decide) (by decide) (by rfl) (by rfl)) (nomark _)) (@pw_or1 _ _ _ _ (@pt_cmpR _ _ _ _ _ _ _ _ op_ne (@pe_callB _ _ _ _ _ _ _ _ _ (isiQ K) (by rfl) T.b.n_isinstance boot_isinstance (@pa_cons _ _ _ _ _ (@pv _ 0 _ _ (by rfl) (Or.inl rfl) (by decide) (by decide)) (@pa_cons _ _ _ _ _ (@pe_ty _ _ _ _ T.b.n_tuple boot_tuple (by rfl) (by decide) (by decide)) (@pa_nil _) (by rfl)) (by rfl)) (by decide) (by decide) (by rfl) (by rfl)) (@pe_callB _ _ _ _ _ _ _ _ _ (isiQ K) (by rfl) T.b.n_isinstance boot_isinstance (@pa_cons _ _ _ _ _ (@pv _ 1 _ _ (by rfl) (Or.inl rfl) (by decide) (by decide)) (@pa_cons _ _ _ _ _ (@pe_ty _ _ _ _ T.b.n_tuple boot_tuple (by rfl) (by decide) (by decide)) (@pa_nil _) (by rfl)) (by rfl)) (by decide) (by decide) (by rfl) (by rfl)) (nomark _))))) (@pss_one _ _ _ (@ps_ret _ _ _ _ (@pe_bl _ _ _ _))) (@pss_nil _)) (@pss_one _ _ _ (@ps_ret _ _ _ _ (@pe_and _ _ _ _ _ _ _ (@pe_cmpR _ _ _ _ _ _ _ _ op_eq (@pe_callB _ _ _ _ _ _ _ _ _ (lenQ K) (by rfl) T.b.n_len PySem.boot_len (@pa_cons _ _ _ _ _ (@pv _ 0 _ _ (by rfl) (Or.inl rfl) (by decide) (by decide)) (@pa_nil _) (by rfl)) (by decide) (by decide) (by rfl) (by rfl)) (@pe_callB _ _ _ _ _ _ _ _ _ (lenQ K) (by rfl) T.b.n_len PySem.boot_len (@pa_cons _ _ _ _ _ (@pv _ 1 _ _ (by rfl) (Or.inl rfl) (by decide) (by decide)) (@pa_nil _) (by rfl)) (by decide) (by decide) (by rfl) (by rfl)) (nomark _)) (@pe_one _ _ _ _ _ (@pe_callB _ _ _ _ _ _ _ _ _ (allQ K) (by rfl) T.b.n_all boot_all (@pa_cons _ _ _ _ _ (@pe_comp _ _ _ _ _ _ _ _ _ _ _ _ _ _ cs_0 rfl rfl rfl (@iZ _ K _ _ _ _ _ _ _ _ T.b.n_zip (@pa_cons _ _ _ _ _ (@pv _ 0 _ _ (by rfl) (Or.inl rfl) (by decide) (by decide)) (@pa_cons _ _ _ _ _ (@pv _ 1 _ _ (by rfl) (Or.inl rfl) (by decide) (by decide)) (@pa_nil _) (by rfl)) (by rfl)) (by rfl) (by rfl) (by rfl) (by rfl)) (fun _ _ _ _ => (@gT _ K _ _ _ 2 _ (@pgs_cons _ _ _ _ _ (@cg _ _ _ _ _ _ _ _ _ _ _ 2 cs_0 rfl (by decide +kernel) (by rfl)) (@pgs_cons _ _ _ _ _ (@cg _ _ _ _ _ _ _ _ _ _ _ 3 cs_0 rfl (by decide +kernel) (by rfl)) (@pgs_nil _) (by rfl)) (by rfl)) (by rfl) (by rfl) (by rfl) (by rfl))) (fun _ _ _ _ => (@pts_nil _)) (fun _ _ _ _ => (@pe_df _ _ _ _ _ _ _ _ _ _ _ f_l_same hr (@pa_cons _ _ _ _ _ (@cw _ _ _ _ _ _ _ _ _ _ _ 2 cs_0 rfl (by decide +kernel) (by rfl) (by decide) (by decide)) (@pa_cons _ _ _ _ _ (@cw _ _ _ _ _ _ _ _ _ _ _ 3 cs_0 rfl (by decide +kernel) (by rfl) (by decide) (by decide)) (@pa_nil _) (by rfl)) (by rfl)) (by first | decide | exact Nat.le_refl _ | omega) (comp_glob cs_0 rfl (by decide +kernel)) (by decide) (by rfl) (by rfl))) (by intro _; rfl)) (@pa_nil _) (by rfl)) (by decide) (by decide) (by rfl) (by rfl))))))) (@pss_nil _)) (@pss_cons _ _ _ _ _ (@ps_if _ _ _ _ _ _ _ _ (@PW.pt _ _ _ (@pw_or _ _ _ _ _ _ _ (@pt_cmpR _ _ _ _ _ _ _ _ op_isN (@pv _ 1 _ _ (by rfl) (Or.inl rfl) (by decide) (by decide)) (@pe_non _ _ _) (nomark _)) (@pw_or1 _ _ _ _ (@pt_val _ _ _ (@pe_callB _ _ _ _ _ _ _ _ _ (isiQ K) (by rfl) T.b.n_isinstance boot_isinstance (@pa_cons _ _ _ _ _ (@pv _ 1 _ _ (by rfl) (Or.inl rfl) (by decide) (by decide)) (@pa_cons _ _ _ _ _ (@pe_ty _ _ _ _ T.b.n_str boot_str (by rfl) (by decide) (by decide)) (@pa_nil _) (by rfl)) (by rfl)) (by decide) (by decide) (by rfl) (by rfl)) (by intro _; rfl))))) (@pss_one _ _ _ (@ps_ret _ _ _ _ (@pe_and _ _ _ _ _ _ _ (@pe_cmpR _ _ _ _ _ _ _ _ op_eq (@pv _ 0 _ _ (by rfl) (Or.inl rfl) (by decide) (by decide)) (@pv _ 1 _ _ (by rfl) (Or.inl rfl) (by decide) (by decide)) (nomark _)) (@pe_one _ _ _ _ _ (@pe_cmpR _ _ _ _ _ _ _ _ op_eq (@pe_callB _ _ _ _ _ _ _ _ _ (isiQ K) (by rfl) T.b.n_isinstance boot_isinstance (@pa_cons _ _ _ _ _ (@pv _ 0 _ _ (by rfl) (Or.inl rfl) (by decide) (by decide)) (@pa_cons _ _ _ _ _ (@pe_ty _ _ _ _ T.b.n_str boot_str (by rfl) (by decide) (by decide)) (@pa_nil _) (by rfl)) (by rfl)) (by decide) (by decide) (by rfl) (by rfl)) (@pe_callB _ _ _ _ _ _ _ _ _ (isiQ K) (by rfl) T.b.n_isinstance boot_isinstance (@pa_cons _ _ _ _ _ (@pv _ 1 _ _ (by rfl) (Or.inl rfl) (by decide) (by decide)) (@pa_cons _ _ _ _ _ (@pe_ty _ _ _ _ T.b.n_str boot_str (by rfl) (by decide) (by decide)) (@pa_nil _) (by rfl)) (by rfl)) (by decide) (by decide) (by rfl) (by rfl)) (nomark _)))))) (@pss_nil _)) (@pss_cons _ _ _ _ _ (@ps_if _ _ _ _ _ _ _ _ (@pt_val _ _ _ (@pe_callB _ _ _ _ _ _ _ _ _ (isiQ K) (by rfl) T.b.n_isinstance boot_isinstance (@pa_cons _ _ _ _ _ (@pv _ 1 _ _ (by rfl) (Or.inl rfl) (by decide) (by decide)) (@pa_cons _ _ _ _ _ (@pe_ty _ _ _ _ T.b.n_bool boot_bool (by rfl) (by decide) (by decide)) (@pa_nil _) (by rfl)) (by rfl)) (by decide) (by decide) (by rfl) (by rfl)) (by intro _; rfl)) (@pss_one _ _ _ (@ps_ret _ _ _ _ (@pe_and _ _ _ _ _ _ _ (@pe_callB _ _ _ _ _ _ _ _ _ (isiQ K) (by rfl) T.b.n_isinstance boot_isinstance (@pa_cons _ _ _ _ _ (@pv _ 0 _ _ (by rfl) (Or.inl rfl) (by decide) (by decide)) (@pa_cons _ _ _ _ _ (@pe_ty _ _ _ _ T.b.n_bool boot_bool (by rfl) (by decide) (by decide)) (@pa_nil _) (by rfl)) (by rfl)) (by decide) (by decide) (by rfl) (by rfl)) (@pe_one _ _ _ _ _ (@pe_cmpR _ _ _ _ _ _ _ _ op_eq (@pv _ 0 _ _ (by rfl) (Or.inl rfl) (by decide) (by decide)) (@pv _ 1 _ _ (by rfl) (Or.inl rfl) (by decide) (by decide)) (nomark _)))))) (@pss_nil _)) (@pss_one _ _ _ (@ps_ret _ _ _ _ (@pe_and _ _ _ _ _ _ _ (@pe_callB _ _ _ _ _ _ _ _ _ (isiQ K) (by rfl) T.b.n_isinstance boot_isinstance (@pa_cons _ _ _ _ _ (@pv _ 0 _ _ (by rfl) (Or.inl rfl) (by decide) (by decide)) (@pa_cons _ _ _ _ _ (@pe_ty _ _ _ _ T.b.n_int boot_int (by rfl) (by decide) (by decide)) (@pa_nil _) (by rfl)) (by rfl)) (by decide) (by decide) (by rfl) (by rfl)) (@pe_and _ _ _ _ _ _ _ (@pe_not _ _ _ _ (@pe_callB _ _ _ _ _ _ _ _ _ (isiQ K) (by rfl) T.b.n_isinstance boot_isinstance (@pa_cons _ _ _ _ _ (@pv _ 0 _ _ (by rfl) (Or.inl rfl) (by decide) (by decide)) (@pa_cons _ _ _ _ _ (@pe_ty _ _ _ _ T.b.n_bool boot_bool (by rfl) (by decide) (by decide)) (@pa_nil _) (by rfl)) (by rfl)) (by decide) (by decide) (by rfl) (by rfl))) (@pe_one _ _ _ _ _ (@pe_cmpR _ _ _ _ _ _ _ _ op_eq (@pv _ 0 _ _ (by rfl) (Or.inl rfl) (by decide) (by decide)) (@pv _ 1 _ _ (by rfl) (Or.inl rfl) (by decide) (by decide)) (nomark _)))))))))), ?_⟩
    refine ⟨_, rfl, (by show 2 ≤ sizeLine; decide), fun tp htp => ?_⟩
    have sT : Same H (upd H tp (.tup (["list", "tuple"].map V.ty))) := same_new htp _
    rcases hD with ⟨rfl, rfl | ⟨b, rfl⟩ | ⟨i, rfl⟩ | ⟨z, rfl⟩⟩ | ⟨p, q2, xs, ys, rfl, rfl, ⟨hp, hq⟩ | ⟨hp, hq⟩, hl, hz, hi⟩
    · refine ⟨_, tp, ["list", "tuple"], _, _, rfl, upd_same, .non, k_non_seq K, _, rfl, iteF ?_⟩
      refine ⟨_, rfl, rfl, _, rfl, iteD rfl (iteT ?_)⟩
      refine ⟨_, rfl, _, rfl, rfl, _, rfl, iteD rfl ?_⟩
      exact ⟨_, rfl, _, "str", _, _, rfl, .non, k_non_str K, _, rfl, _, "str", _, _, rfl, .non, k_non_str K, rfl, q _ sT⟩
    · refine ⟨_, tp, ["list", "tuple"], _, _, rfl, upd_same, .bl b, k_bl_seq K, _, rfl, iteF ?_⟩
      refine ⟨_, rfl, rfl, _, rfl, iteDN (by intro z; cases z) ?_⟩
      refine ⟨_, rfl, _, "str", _, _, rfl, .bl b, k_bl_str K, _, rfl, iteF ?_⟩
      refine ⟨_, rfl, _, "bool", _, _, rfl, .bl b, k_bl_bl K, _, rfl, iteT ?_⟩
      refine ⟨_, rfl, _, "bool", _, _, rfl, .bl b, k_bl_bl K, _, rfl, iteT ?_⟩
      refine ⟨_, rfl, _, rfl, rfl, ?_⟩
      have e : decide (V.bl b = V.bl b) = true := decide_eq_true rfl
      rw [e]
      exact q _ sT
    · refine ⟨_, tp, ["list", "tuple"], _, _, rfl, upd_same, .int i, k_int_seq K, _, rfl, iteF ?_⟩
      refine ⟨_, rfl, rfl, _, rfl, iteDN (by intro z; cases z) ?_⟩
      refine ⟨_, rfl, _, "str", _, _, rfl, .int i, k_int_str K, _, rfl, iteF ?_⟩
      refine ⟨_, rfl, _, "bool", _, _, rfl, .int i, k_int_bl K, _, rfl, iteF ?_⟩
      refine ⟨_, rfl, _, "int", _, _, rfl, .int i, k_int_int K, _, rfl, iteT ?_⟩
      refine ⟨_, rfl, _, "bool", _, _, rfl, .int i, k_int_bl K, _, rfl, _, rfl, iteT ?_⟩
      refine ⟨_, rfl, _, rfl, rfl, ?_⟩
      have e : decide (V.int i = V.int i) = true := decide_eq_true rfl
      rw [e]
      exact q _ sT
    · refine ⟨_, tp, ["list", "tuple"], _, _, rfl, upd_same, .str z, k_str_seq K, _, rfl, iteF ?_⟩
      refine ⟨_, rfl, rfl, _, rfl, iteDN (by intro z; cases z) ?_⟩
      refine ⟨_, rfl, _, "str", _, _, rfl, .str z, k_str_str K, _, rfl, iteT ?_⟩
      refine ⟨_, rfl, _, rfl, rfl, _, rfl, iteD rfl ?_⟩
      exact ⟨_, rfl, _, "str", _, _, rfl, .str z, k_str_str K, _, rfl, _, "str", _, _, rfl, .str z, k_str_str K, rfl, q _ sT⟩
    · have hxT : (upd H tp (.tup (["list", "tuple"].map V.ty))) p = some (.lst xs) := by rw [upd_ne (ne_of_none hp htp)]; exact hp
      have hyT : (upd H tp (.tup (["list", "tuple"].map V.ty))) q2 = some (.lst ys) := by rw [upd_ne (ne_of_none hq htp)]; exact hq
      refine ⟨_, tp, ["list", "tuple"], _, _, rfl, upd_same, .lst hyT, k_lst_seq K, _, rfl, iteT ?_⟩
      refine ⟨_, rfl, _, "list", _, _, rfl, .lst hxT, k_lst_lst K, _, rfl, _, "list", _, _, rfl, .lst hyT, k_lst_lst K, rfl, _, rfl, iteNS rfl ?_⟩
      refine ⟨_, rfl, _, "tuple", _, _, rfl, .lst hxT, k_lst_tup K, _, rfl, _, "tuple", _, _, rfl, .lst hyT, k_lst_tup K, rfl, _, rfl, iteNS rfl ?_⟩
      refine ⟨_, rfl, p, xs, rfl, .inl (SqL.of hxT), _, rfl, q2, ys, rfl, .inl (SqL.of hyT), rfl, _, rfl, iteD (by rw [hl]) ?_⟩
      refine ⟨_, rfl, _, rfl, .l p, .l q2, xs, ys, rfl, SqL.of hxT, SqL.of hyT, fun D hD => ?_⟩
      have sD : Same H (upd H tp (.tup (["list", "tuple"].map V.ty))) := same_new htp _
      refine comp_zip (K := K) (xs := xs) (ys := ys) (fun i zs σ H2 => (∃ v1 v2, σ = [some (.ref p), some (.ref q2), v1, v2]) ∧ zs = List.replicate i (.bl true) ∧ Same H H2 ∧ H2 D = some (.lst zs) ∧ i ≤ xs.length) ?_ ?_ ?_ ?_
      · exact ⟨⟨none, none, rfl⟩, rfl, sD.trans (same_new hD _), upd_same, Nat.zero_le _⟩
      · rintro i zs σ H2 ⟨_, _, s2, _⟩
        exact ⟨SqL.of (s2 _ _ hp), SqL.of (s2 _ _ hq)⟩
      · rintro i zs σ H2 x' y' r hx' hy' ⟨⟨v1, v2, rfl⟩, rfl, s2, hD2, hiz⟩ hr
        have hil : i < xs.length := (List.getElem?_eq_some_iff.mp hx').1
        have nDr : D ≠ r := ne_of_none hD2 hr
        have s3 : Same H (upd H2 r (.tup [x', y'])) := s2.trans (same_new hr _)
        refine ⟨r, _, rfl, SqT.of upd_same, rfl, _, _, rfl, _, _, rfl, rfl, ?_⟩
        refine ⟨_, rfl, _, rfl, x', y', rfl, (hi i x' y' hx' hy').mono s3, fun H' s' => ?_⟩
        have hD' : H' D = some (.lst (List.replicate i (.bl true))) := s' _ _ (by rw [upd_ne nDr]; exact hD2)
        refine ⟨hD', (by rw [List.length_replicate]; exact small1000 (by omega)), ⟨_, _, rfl⟩, ?_, ?_, upd_same, hil⟩
        · rw [List.replicate_succ']
        · intro b o e
          have e1 := s' b o (s3 b o e)
          rw [upd_ne (fun z => by subst z; exact nomatch (sD b o e).symm.trans hD)]
          exact e1
      · rintro zs σ H2 ⟨_, rfl, s2, hD2, _⟩
        refine ⟨D, List.replicate (min xs.length ys.length) true, rfl, SqL.of (by rw [List.map_replicate]; exact hD2), ?_⟩
        have e : (List.replicate (min xs.length ys.length) true).all id = true := by rw [List.all_eq_true]; intro b hb; exact (List.eq_of_mem_replicate hb)
        rw [e]
        exact q H2 s2
    · have hxT : (upd H tp (.tup (["list", "tuple"].map V.ty))) p = some (.tup xs) := by rw [upd_ne (ne_of_none hp htp)]; exact hp
      have hyT : (upd H tp (.tup (["list", "tuple"].map V.ty))) q2 = some (.tup ys) := by rw [upd_ne (ne_of_none hq htp)]; exact hq
      refine ⟨_, tp, ["list", "tuple"], _, _, rfl, upd_same, .tup hyT, k_tup_seq K, _, rfl, iteT ?_⟩
      refine ⟨_, rfl, _, "list", _, _, rfl, .tup hxT, k_tup_lst K, _, rfl, _, "list", _, _, rfl, .tup hyT, k_tup_lst K, rfl, _, rfl, iteNS rfl ?_⟩
      refine ⟨_, rfl, _, "tuple", _, _, rfl, .tup hxT, k_tup_tup K, _, rfl, _, "tuple", _, _, rfl, .tup hyT, k_tup_tup K, rfl, _, rfl, iteNS rfl ?_⟩
      refine ⟨_, rfl, p, xs, rfl, .inr (SqT.of hxT), _, rfl, q2, ys, rfl, .inr (SqT.of hyT), rfl, _, rfl, iteD (by rw [hl]) ?_⟩
      refine ⟨_, rfl, _, rfl, .t p, .t q2, xs, ys, rfl, SqT.of hxT, SqT.of hyT, fun D hD => ?_⟩
      have sD : Same H (upd H tp (.tup (["list", "tuple"].map V.ty))) := same_new htp _
      refine comp_zip (K := K) (xs := xs) (ys := ys) (fun i zs σ H2 => (∃ v1 v2, σ = [some (.ref p), some (.ref q2), v1, v2]) ∧ zs = List.replicate i (.bl true) ∧ Same H H2 ∧ H2 D = some (.lst zs) ∧ i ≤ xs.length) ?_ ?_ ?_ ?_
      · exact ⟨⟨none, none, rfl⟩, rfl, sD.trans (same_new hD _), upd_same, Nat.zero_le _⟩
      · rintro i zs σ H2 ⟨_, _, s2, _⟩
        exact ⟨SqT.of (s2 _ _ hp), SqT.of (s2 _ _ hq)⟩
      · rintro i zs σ H2 x' y' r hx' hy' ⟨⟨v1, v2, rfl⟩, rfl, s2, hD2, hiz⟩ hr
        have hil : i < xs.length := (List.getElem?_eq_some_iff.mp hx').1
        have nDr : D ≠ r := ne_of_none hD2 hr
        have s3 : Same H (upd H2 r (.tup [x', y'])) := s2.trans (same_new hr _)
        refine ⟨r, _, rfl, SqT.of upd_same, rfl, _, _, rfl, _, _, rfl, rfl, ?_⟩
        refine ⟨_, rfl, _, rfl, x', y', rfl, (hi i x' y' hx' hy').mono s3, fun H' s' => ?_⟩
        have hD' : H' D = some (.lst (List.replicate i (.bl true))) := s' _ _ (by rw [upd_ne nDr]; exact hD2)
        refine ⟨hD', (by rw [List.length_replicate]; exact small1000 (by omega)), ⟨_, _, rfl⟩, ?_, ?_, upd_same, hil⟩
        · rw [List.replicate_succ']
        · intro b o e
          have e1 := s' b o (s3 b o e)
          rw [upd_ne (fun z => by subst z; exact nomatch (sD b o e).symm.trans hD)]
          exact e1
      · rintro zs σ H2 ⟨_, rfl, s2, hD2, _⟩
        refine ⟨D, List.replicate (min xs.length ys.length) true, rfl, SqL.of (by rw [List.map_replicate]; exact hD2), ?_⟩
        have e : (List.replicate (min xs.length ys.length) true).all id = true := by rw [List.all_eq_true]; intro b hb; exact (List.eq_of_mem_replicate hb)
        rw [e]
        exact q H2 s2
theorem Left.new {H : Hp} {p l : Addr} {c : Int} {o : HO} (h : Left H p c) (n : H l = none) : Left (upd H l o) p c := by
  obtain ⟨a, b, hp, c0⟩ := h
  exact ⟨a, b, by rw [upd_ne (ne_of_none hp n)]; exact hp, c0⟩
theorem Left.ge {H : Hp} {p : Addr} {c : Int} (h : Left H p c) : 0 ≤ c := by obtain ⟨a, b, hp, c0⟩ := h; exact c0
theorem Left.here {H : Hp} {p : Addr} {c : Int} (h : Left H p c) : ∃ o, H p = some o := by obtain ⟨a, b, hp, c0⟩ := h; exact ⟨_, hp⟩
theorem Left.at {H : Hp} {p l : Addr} {c : Int} {o : HO} (h : Left H p c) (n : p ≠ l) : Left (upd H l o) p c := by
  obtain ⟨a, b, hp, c0⟩ := h
  exact ⟨a, b, by rw [upd_ne n]; exact hp, c0⟩
theorem free_of {p : Addr} {H H1 : Hp} {l : Addr} (B : But p H H1) (n : p ≠ l) (h : H1 l = none) : H l = none := by
  cases w' : H l with
  | none => rfl
  | some u => rw [B l u w' n.symm] at h; cases h
theorem at_intM {ns : List Int} {k : Int} (h0 : 0 ≤ k) (h : k < (ns.length : Int)) : ∃ v ∈ ns, atI (ns.map V.int) k = some (.int v) := by
  have hk : k.toNat < ns.length := by omega
  have ek : k = ((k.toNat : Nat) : Int) := by omega
  have q : atI (ns.map V.int) ((k.toNat : Nat) : Int) = some (.int ns[k.toNat]) := atI_nat (by rw [List.getElem?_map, List.getElem?_eq_getElem hk] <;> rfl)
  rw [← ek] at q
  exact ⟨_, List.getElem_mem hk, q⟩
theorem comp_listF {K : PySem.W.Frag} {a : Addr} {xs : List V} {k : Nat} {D : Addr} {σ : L2.St} {H1 : Hp} {g : TG} {tc : TT} {te : TE} {Q : VK} (Pv : Nat → List V → L2.St → Hp → Prop) (h0 : Pv 0 [] (σ ++ List.replicate k none) (upd H1 D (.lst [])))
    (hl : ∀ i ys σ H, Pv i ys σ H → SqL K H a xs)
    (hs : ∀ i x ys σ H, xs[i]? = some x → Pv i ys σ H → g x σ H fun σ4 H4 => tc σ4 H4 fun b H5 => if b = true then te σ4 H5 fun y H6 => H6 D = some (.lst ys) ∧ ys.length < sizeLine ∧ Pv (i + 1) (ys ++ [y]) σ4 (upd H6 D (.lst (ys ++ [y]))) else Pv (i + 1) ys σ4 H5)
    (hd : ∀ ys σ H, Pv xs.length ys σ H → Q (.ref D) H) : CompGo (Itl K a) D k σ H1 g tc te Q := by
  refine ⟨fun i m ys σ H => m = xs.length - i ∧ i ≤ xs.length ∧ Pv i ys σ H, ⟨xs.length, by simp, Nat.zero_le _, h0⟩, ?_⟩
  rintro i m ys σ H ⟨rfl, hi, p⟩
  have q1 := hl i ys σ H p
  by_cases hlt : i < xs.length
  · refine .inr ⟨⟨xs, xs[i], q1, List.getElem?_eq_getElem hlt⟩, Pv (i + 1), fun ys' σ' H' p' => ⟨xs.length - (i + 1), by omega, rfl, hlt, p'⟩, fun x H' y => ?_⟩
    obtain ⟨rfl, e⟩ := y
    exact hs i x ys σ _ (e xs q1) p
  · have e : i = xs.length := by omega
    exact .inl ⟨⟨xs, q1, by omega⟩, hd ys σ H (e ▸ p)⟩
theorem comp_list {K : PySem.W.Frag} {a : Addr} {xs : List V} {k : Nat} {D : Addr} {σ : L2.St} {H1 : Hp} {g : TG} {te : TE} {Q : VK} (Pv : Nat → List V → L2.St → Hp → Prop) (h0 : Pv 0 [] (σ ++ List.replicate k none) (upd H1 D (.lst [])))
    (hl : ∀ i ys σ H, Pv i ys σ H → SqL K H a xs)
    (hs : ∀ i x ys σ H, xs[i]? = some x → Pv i ys σ H → g x σ H fun σ4 H4 => te σ4 H4 fun y H6 => H6 D = some (.lst ys) ∧ ys.length < sizeLine ∧ Pv (i + 1) (ys ++ [y]) σ4 (upd H6 D (.lst (ys ++ [y]))))
    (hd : ∀ ys σ H, Pv xs.length ys σ H → Q (.ref D) H) : CompGo (Itl K a) D k σ H1 g tYes te Q := by
  refine ⟨fun i m ys σ H => m = xs.length - i ∧ i ≤ xs.length ∧ Pv i ys σ H, ⟨xs.length, by simp, Nat.zero_le _, h0⟩, ?_⟩
  rintro i m ys σ H ⟨rfl, hi, p⟩
  have q1 := hl i ys σ H p
  by_cases hlt : i < xs.length
  · refine .inr ⟨⟨xs, xs[i], q1, List.getElem?_eq_getElem hlt⟩, Pv (i + 1), fun ys' σ' H' p' => ⟨xs.length - (i + 1), by omega, rfl, hlt, p'⟩, fun x H' y => ?_⟩
    obtain ⟨rfl, e⟩ := y
    simp only [tYes, ↓reduceIte]
    exact hs i x ys σ _ (e xs q1) p
  · have e : i = xs.length := by omega
    exact .inl ⟨⟨xs, q1, by omega⟩, hd ys σ H (e ▸ p)⟩
theorem comp_enum {K : PySem.W.Frag} {a : Addr} {xs : List V} {k : Nat} {D : Addr} {σ : L2.St} {H1 : Hp} {g : TG} {te : TE} {Q : VK} (Pv : Nat → List V → L2.St → Hp → Prop) (h0 : Pv 0 [] (σ ++ List.replicate k none) (upd H1 D (.lst [])))
    (hl : ∀ i zs σ H, Pv i zs σ H → SqL K H a xs)
    (hs : ∀ i zs σ H x p, xs[i]? = some x → Pv i zs σ H → H p = none → g (.ref p) σ (upd H p (.tup [.int i, x])) fun σ4 H4 => te σ4 H4 fun z H6 => H6 D = some (.lst zs) ∧ zs.length < sizeLine ∧ Pv (i + 1) (zs ++ [z]) σ4 (upd H6 D (.lst (zs ++ [z]))))
    (hd : ∀ zs σ H, Pv xs.length zs σ H → Q (.ref D) H) : CompGo (Ite K a) D k σ H1 g tYes te Q := by
  refine ⟨fun i m zs σ H => m = xs.length - i ∧ i ≤ xs.length ∧ Pv i zs σ H, ⟨xs.length, by simp, Nat.zero_le _, h0⟩, ?_⟩
  rintro i m zs σ H ⟨rfl, hi, p⟩
  have q1 := hl i zs σ H p
  by_cases hlt : i < xs.length
  · refine .inr ⟨⟨xs, q1, hlt⟩, Pv (i + 1), fun ys' σ' H' p' => ⟨xs.length - (i + 1), by omega, rfl, hlt, p'⟩, fun x H' y => ?_⟩
    obtain ⟨r, hr, rfl, e⟩ := y
    have e' := e xs q1 _ (List.getElem?_eq_getElem hlt)
    subst e'
    simp only [tYes, ↓reduceIte]
    exact hs i zs σ H _ r (List.getElem?_eq_getElem hlt) p hr
  · have e : i = xs.length := by omega
    exact .inl ⟨⟨xs, q1, by omega⟩, hd zs σ H (e ▸ p)⟩
theorem lay_ints : ∀ ns : List Int, PyData.canLayAll0 (ns.map PyData.int) = true
  | [] => rfl
  | x :: r => by simp [PyData.canLayAll0, PyData.canLay0, lay_ints r]
theorem dv_ints {K : PySem.W.Frag} {H : Hp} : ∀ ns : List Int, DVs K H (ns.map V.int) (ns.map PyData.int)
  | [] => .nil
  | s :: r => .cons (.int s) (dv_ints r)
theorem AtT.mono {H H' : Hp} {ts : TupL} (h : AtT H ts) (s : Same H H') : AtT H' ts := fun x hx => s _ _ (h x hx)
theorem tup_keep {H : Hp} {D : Addr} {ys : List V} (h : H D = some (.lst ys)) (o : HO) : ∀ a xs, H a = some (.tup xs) → (upd H D o) a = some (.tup xs) := fun a xs e => by
  have nb : a ≠ D := by intro z; rw [z, h] at e; cases e
  rw [upd_ne nb]; exact e
theorem iteNE {c A B : Prop} [Decidable c] (hc : c) (h : B) : if (!decide c) = true then A else B := by
  rw [if_neg (by rw [decide_eq_true hc]; simp)]
  exact h
inductive PT where
  | leaf (k : Int)
  | node (l : List PT)
mutual
inductive TV (H : Hp) : V → PT → Prop where
  | leaf (k : Int) : TV H (.int k) (.leaf k)
  | node {a : Addr} {xs : List V} {l : List PT} : H a = some (.tup xs) → TVs H xs l → TV H (.ref a) (.node l)
inductive TVs (H : Hp) : List V → List PT → Prop where
  | nil : TVs H [] []
  | cons {x : V} {t : PT} {xs : List V} {l : List PT} : TV H x t → TVs H xs l → TVs H (x :: xs) (t :: l)
end
mutual
theorem TV.mono {H H' : Hp} (s : ∀ a xs, H a = some (.tup xs) → H' a = some (.tup xs)) : ∀ {x : V} {t : PT}, TV H x t → TV H' x t
  | _, _, .leaf k => .leaf k
  | _, _, .node h hs => .node (s _ _ h) (hs.mono s)
theorem TVs.mono {H H' : Hp} (s : ∀ a xs, H a = some (.tup xs) → H' a = some (.tup xs)) : ∀ {xs : List V} {l : List PT}, TVs H xs l → TVs H' xs l
  | _, _, .nil => .nil
  | _, _, .cons h hs => .cons (h.mono s) (hs.mono s)
end
mutual
def toD : PT → PyData
  | .leaf k => .int k
  | .node l => .tuple (toDs l)
def toDs : List PT → List PyData
  | [] => []
  | t :: r => toD t :: toDs r
end
mutual
theorem TV.dv {K : PySem.W.Frag} {H : Hp} : ∀ {x : V} {t : PT}, TV H x t → DV K H x (toD t)
  | _, _, .leaf k => .int k
  | _, _, .node h hs => .tup (SqT.of h) hs.dv
theorem TVs.dv {K : PySem.W.Frag} {H : Hp} : ∀ {xs : List V} {l : List PT}, TVs H xs l → DVs K H xs (toDs l)
  | _, _, .nil => .nil
  | _, _, .cons h hs => .cons h.dv hs.dv
end
theorem TVs.len {H : Hp} : ∀ {xs : List V} {l : List PT}, TVs H xs l → xs.length = l.length
  | _, _, .nil => rfl
  | _, _, .cons _ hs => by rw [List.length_cons, List.length_cons, hs.len]
theorem TVs.app {H : Hp} : ∀ {xs ys : List V} {l m : List PT}, TVs H xs l → TVs H ys m → TVs H (xs ++ ys) (l ++ m)
  | _, _, _, _, .nil, h => h
  | _, _, _, _, .cons h hs, g => .cons h (hs.app g)
theorem TVs.take {H : Hp} : ∀ {xs : List V} {l : List PT} (n : Nat), TVs H xs l → TVs H (xs.take n) (l.take n)
  | _, _, 0, _ => by rw [List.take_zero, List.take_zero]; exact .nil
  | _, _, _ + 1, .nil => .nil
  | _, _, n + 1, .cons h hs => .cons h (hs.take n)
theorem TVs.drop {H : Hp} : ∀ {xs : List V} {l : List PT} (n : Nat), TVs H xs l → TVs H (xs.drop n) (l.drop n)
  | _, _, 0, h => h
  | _, _, _ + 1, .nil => .nil
  | _, _, n + 1, .cons _ hs => hs.drop n
theorem TVs.at {H : Hp} : ∀ {xs : List V} {l : List PT} {i : Nat} {x : V}, TVs H xs l → xs[i]? = some x → ∃ t, l[i]? = some t ∧ TV H x t
  | _, _, i, x, .nil, h => by simp at h
  | _, _, 0, x, .cons (t := t) h _, e => by simp at e; subst e; exact ⟨t, rfl, h⟩
  | _, _, i + 1, x, .cons _ hs, e => by simpa using hs.at (i := i) (by simpa using e)
mutual
def tSz (ns : List Int) : PT → Int
  | .leaf k => ns.getD k.toNat 0
  | .node l => tSzs ns l
def tSzs (ns : List Int) : List PT → Int
  | [] => 0
  | t :: r => tSz ns t + tSzs ns r
end
mutual
def tCo (ns : List Int) : PT → Int
  | .leaf _ => 0
  | .node l => tCos ns l + tSzs ns l
def tCos (ns : List Int) : List PT → Int
  | [] => 0
  | t :: r => tCo ns t + tCos ns r
end
mutual
def tLf : PT → Nat
  | .leaf _ => 1
  | .node l => tLfs l
def tLfs : List PT → Nat
  | [] => 0
  | t :: r => tLf t + tLfs r
end
mutual
def tDp : PT → Nat
  | .leaf _ => 0
  | .node l => tDps l + 1
def tDps : List PT → Nat
  | [] => 0
  | t :: r => max (tDp t) (tDps r)
end
mutual
def tNo : PT → Nat
  | .leaf _ => 1
  | .node l => tNos l + 1
def tNos : List PT → Nat
  | [] => 0
  | t :: r => tNo t + tNos r
end
mutual
def tOk (n : Nat) : PT → Prop
  | .leaf k => 0 ≤ k ∧ k < n
  | .node l => tOks n l
def tOks (n : Nat) : List PT → Prop
  | [] => True
  | t :: r => tOk n t ∧ tOks n r
end
theorem tCos_app (ns : List Int) : ∀ a b : List PT, tCos ns (a ++ b) = tCos ns a + tCos ns b
  | [], b => by show tCos ns b = 0 + tCos ns b; omega
  | t :: r, b => by show tCo ns t + tCos ns (r ++ b) = tCo ns t + tCos ns r + tCos ns b; rw [tCos_app ns r b]; omega
theorem tLfs_app : ∀ a b : List PT, tLfs (a ++ b) = tLfs a + tLfs b
  | [], b => by show tLfs b = 0 + tLfs b; omega
  | t :: r, b => by show tLf t + tLfs (r ++ b) = tLf t + tLfs r + tLfs b; rw [tLfs_app r b]; omega
theorem tOks_app (n : Nat) : ∀ a b : List PT, tOks n (a ++ b) ↔ tOks n a ∧ tOks n b
  | [], b => by show tOks n b ↔ True ∧ tOks n b; simp
  | t :: r, b => by show tOk n t ∧ tOks n (r ++ b) ↔ (tOk n t ∧ tOks n r) ∧ tOks n b; rw [tOks_app n r b, and_assoc]
theorem tOks_at (n : Nat) : ∀ (l : List PT) (i : Nat) (t : PT), tOks n l → l[i]? = some t → tOk n t
  | [], i, t, _, h => by simp at h
  | a :: r, 0, t, h, e => by simp at e; subst e; exact h.1
  | a :: r, i + 1, t, h, e => tOks_at n r i t h.2 (by simpa using e)
theorem tDps_at : ∀ (l : List PT) (i : Nat) (t : PT), l[i]? = some t → tDp t ≤ tDps l
  | [], i, t, h => by simp at h
  | a :: r, 0, t, e => by simp at e; subst e; show tDp a ≤ max (tDp a) (tDps r); omega
  | a :: r, i + 1, t, e => by have := tDps_at r i t (by simpa using e); show tDp t ≤ max (tDp a) (tDps r); omega
mutual
theorem tNo_pos : ∀ t : PT, 1 ≤ tNo t
  | .leaf _ => Nat.le_refl _
  | .node l => by show 1 ≤ tNos l + 1; omega
theorem tNos_len : ∀ l : List PT, l.length ≤ tNos l
  | [] => Nat.le_refl _
  | t :: r => by have := tNo_pos t; have := tNos_len r; show r.length + 1 ≤ tNo t + tNos r; omega
end
mutual
theorem tLf_no : ∀ t : PT, tLf t ≤ tNo t
  | .leaf _ => Nat.le_refl _
  | .node l => by have := tLfs_no l; show tLfs l ≤ tNos l + 1; omega
theorem tLfs_no : ∀ l : List PT, tLfs l ≤ tNos l
  | [] => Nat.le_refl _
  | t :: r => by have := tLf_no t; have := tLfs_no r; show tLf t + tLfs r ≤ tNo t + tNos r; omega
end
def tGd (t : PT) : Prop := tDp t + 1 ≤ tLf t ∧ tNo t + 1 ≤ 2 * tLf t
def tGds : List PT → Prop
  | [] => True
  | t :: r => tGd t ∧ tGds r
theorem tGds_app : ∀ a b : List PT, tGds (a ++ b) ↔ tGds a ∧ tGds b
  | [], b => by show tGds b ↔ True ∧ tGds b; simp
  | t :: r, b => by show tGd t ∧ tGds (r ++ b) ↔ (tGd t ∧ tGds r) ∧ tGds b; rw [tGds_app r b, and_assoc]
theorem tGds_sum : ∀ l : List PT, tGds l → tDps l + l.length ≤ tLfs l ∧ tNos l + l.length ≤ 2 * tLfs l ∨ l = []
  | [], _ => .inr rfl
  | [t], h => .inl (by have h1 := h.1.1; have h2 := h.1.2; show max (tDp t) 0 + 1 ≤ tLf t + 0 ∧ tNo t + 0 + 1 ≤ 2 * (tLf t + 0); omega)
  | t :: u :: r, h => by
    have ih := (tGds_sum (u :: r) h.2).resolve_right (by simp)
    have h1 := h.1.1
    have h2 := h.1.2
    left
    show max (tDp t) (tDps (u :: r)) + ((u :: r).length + 1) ≤ tLf t + tLfs (u :: r) ∧ tNo t + tNos (u :: r) + ((u :: r).length + 1) ≤ 2 * (tLf t + tLfs (u :: r))
    omega
theorem tGd_node {l : List PT} (h : tGds l) (n : 2 ≤ l.length) : tGd (.node l) := by
  have := (tGds_sum l h).resolve_right (by intro e; rw [e] at n; simp at n)
  show tDps l + 1 + 1 ≤ tLfs l ∧ tNos l + 1 + 1 ≤ 2 * tLfs l
  omega
theorem int_small {k : Int} (h0 : 0 ≤ k) (h1 : k ≤ 10000000000) : (PyData.int k).intsShort 13 = true ∧ (PyData.int k).showable = true ∧ (PyData.int k).weight ≤ 40 := by
  have hl : k.natAbs < 2 ^ 34 := by omega
  have hlog : k.natAbs.log2 < 34 := by
    by_cases e : k.natAbs = 0
    · rw [e]; decide
    · exact (Nat.log2_lt e).mpr hl
  refine ⟨?_, ?_, ?_⟩
  · simp only [PyData.intsShort]
    exact decide_eq_true (PyData.shown_int_le (by omega))
  · simp only [PyData.showable]
    exact decide_eq_true (by omega)
  · simp only [PyData.weight]
    split <;> omega
mutual
theorem tree_fit {n : Nat} (hn : n ≤ 1000) : ∀ t : PT, tOk n t → (toD t).canLay0 = true ∧ (toD t).depth = tDp t ∧ (toD t).weight + 1 ≤ 42 * tNo t ∧ (toD t).intsShort 13 = true ∧ (toD t).showable = true
  | .leaf k, h => by
    obtain ⟨h0, h1⟩ := h
    obtain ⟨a, b, c⟩ := int_small h0 (by omega)
    refine ⟨by simp [toD, PyData.canLay0], by simp [toD, PyData.depth, tDp], ?_, a, b⟩
    show (PyData.int k).weight + 1 ≤ 42 * 1
    omega
  | .node l, h => by
    obtain ⟨a, b, c, d, e⟩ := trees_fit hn l h
    refine ⟨by simpa [toD, PyData.canLay0] using a, by simp [toD, PyData.depth, tDp, b], ?_, by simpa [toD, PyData.intsShort] using d, by simpa [toD, PyData.showable] using e⟩
    show PyData.weightAll (toDs l) + 1 ≤ 42 * (tNos l + 1)
    omega
theorem trees_fit {n : Nat} (hn : n ≤ 1000) : ∀ l : List PT, tOks n l → PyData.canLayAll0 (toDs l) = true ∧ PyData.depthAll (toDs l) = tDps l ∧ PyData.weightAll (toDs l) ≤ 42 * tNos l ∧ PyData.intsShortAll 13 (toDs l) = true ∧ PyData.showableAll (toDs l) = true
  | [], _ => ⟨rfl, rfl, Nat.zero_le _, rfl, rfl⟩
  | t :: r, h => by
    obtain ⟨a, b, c, d, e⟩ := tree_fit hn t h.1
    obtain ⟨a', b', c', d', e'⟩ := trees_fit hn r h.2
    have hp := tNo_pos t
    refine ⟨by simp [toDs, PyData.canLayAll0, a, a'], by simp [toDs, PyData.depthAll, tDps, b, b'], ?_, by simp [toDs, PyData.intsShortAll, d, d'], by simp [toDs, PyData.showableAll, e, e']⟩
    show (toD t).weight + 1 + PyData.weightAll (toDs r) ≤ 42 * (tNo t + tNos r)
    omega
end
mutual
def tLv : PT → List Int
  | .leaf k => [k]
  | .node l => tLvs l
def tLvs : List PT → List Int
  | [] => []
  | t :: r => tLv t ++ tLvs r
end
mutual
def tPl (w : Nat) : PT → Prop
  | .leaf _ => True
  | .node l => 2 ≤ l.length ∧ l.length ≤ w ∧ tPls w l
def tPls (w : Nat) : List PT → Prop
  | [] => True
  | t :: r => tPl w t ∧ tPls w r
end
theorem tLvs_app : ∀ a b : List PT, tLvs (a ++ b) = tLvs a ++ tLvs b
  | [], b => rfl
  | t :: r, b => by show tLv t ++ tLvs (r ++ b) = (tLv t ++ tLvs r) ++ tLvs b; rw [tLvs_app r b, List.append_assoc]
theorem tPls_app (w : Nat) : ∀ a b : List PT, tPls w (a ++ b) ↔ tPls w a ∧ tPls w b
  | [], b => by show tPls w b ↔ True ∧ tPls w b; simp
  | t :: r, b => by show tPl w t ∧ tPls w (r ++ b) ↔ (tPl w t ∧ tPls w r) ∧ tPls w b; rw [tPls_app w r b, and_assoc]
mutual
theorem tLv_pos (w : Nat) : ∀ t : PT, tPl w t → 1 ≤ (tLv t).length
  | .leaf k, _ => Nat.le_refl 1
  | .node l, h => by
    have h1 : 2 ≤ l.length := h.1
    have := tLvs_len w l h.2.2
    show 1 ≤ (tLvs l).length
    omega
theorem tLvs_len (w : Nat) : ∀ l : List PT, tPls w l → l.length ≤ (tLvs l).length
  | [], _ => Nat.le_refl 0
  | t :: r, h => by
    have h1 := tLv_pos w t h.1
    have h2 := tLvs_len w r h.2
    show r.length + 1 ≤ (tLv t ++ tLvs r).length
    rw [List.length_append]
    omega
end
def seqI (b e : Nat) : List Int := (List.range (e - b)).map fun i => ((b + i : Nat) : Int)
def Nf (w b e : Nat) (ts : List PT) : Prop := tLvs ts = seqI b e ∧ tPls w ts
mutual
theorem tSz_lv (ns : List Int) : ∀ t : PT, tSz ns t = ((tLv t).map fun k => ns.getD k.toNat 0).sum
  | .leaf k => by show _ = ([ns.getD k.toNat 0] : List Int).sum; simp [tSz]
  | .node l => tSzs_lv ns l
theorem tSzs_lv (ns : List Int) : ∀ l : List PT, tSzs ns l = ((tLvs l).map fun k => ns.getD k.toNat 0).sum
  | [] => rfl
  | t :: r => by show tSz ns t + tSzs ns r = ((tLv t ++ tLvs r).map _).sum; rw [List.map_append, List.sum_append, tSz_lv ns t, tSzs_lv ns r]
end
def seg (ns : List Int) (b e : Nat) : Int := ((ns.drop b).take (e - b)).sum
mutual
theorem tSz_nn {ns : List Int} (hn : ∀ v ∈ ns, 0 ≤ v) : ∀ t : PT, 0 ≤ tSz ns t
  | .leaf k => by
    show 0 ≤ ns.getD k.toNat 0
    rw [List.getD_eq_getElem?_getD]
    cases h : ns[k.toNat]? with
    | none => exact Int.le_refl 0
    | some v => exact hn v (List.mem_of_getElem? h)
  | .node l => tSzs_nn hn l
theorem tSzs_nn {ns : List Int} (hn : ∀ v ∈ ns, 0 ≤ v) : ∀ l : List PT, 0 ≤ tSzs ns l
  | [] => Int.le_refl 0
  | t :: r => by
    have h1 := tSz_nn hn t
    have h2 := tSzs_nn hn r
    show 0 ≤ tSz ns t + tSzs ns r
    omega
end
mutual
theorem tCo_nn {ns : List Int} (hn : ∀ v ∈ ns, 0 ≤ v) : ∀ t : PT, 0 ≤ tCo ns t
  | .leaf k => Int.le_refl 0
  | .node l => by
    have h1 := tCos_nn hn l
    have h2 := tSzs_nn hn l
    show 0 ≤ tCos ns l + tSzs ns l
    omega
theorem tCos_nn {ns : List Int} (hn : ∀ v ∈ ns, 0 ≤ v) : ∀ l : List PT, 0 ≤ tCos ns l
  | [] => Int.le_refl 0
  | t :: r => by
    have h1 := tCo_nn hn t
    have h2 := tCos_nn hn r
    show 0 ≤ tCo ns t + tCos ns r
    omega
end
structure Gr (ns : List Int) (w b e m : Nat) (p : Int) (ts : List PT) : Prop where
  l1 : 1 ≤ ts.length
  lm : ts.length ≤ m
  nf : Nf w b e ts
  co : tCos ns ts = p
  le : ∀ us, 1 ≤ us.length → us.length ≤ m → Nf w b e us → p ≤ tCos ns us
structure Gc (ns : List Int) (w b e m : Nat) (p : Int) (ts : List PT) : Prop where
  l1 : 2 ≤ ts.length
  lm : ts.length ≤ m
  nf : Nf w b e ts
  co : tCos ns ts = p
  le : ∀ us, 2 ≤ us.length → us.length ≤ m → Nf w b e us → p ≤ tCos ns us
theorem dv_intsK {K : PySem.W.Frag} {H : Hp} : ∀ ns : List Int, DVs K H (ns.map V.int) (ns.map PyData.int)
  | [] => .nil
  | s :: r => .cons (.int s) (dv_intsK r)
def spNum : Sp := fun vs H Q _ => (∃ i : Int, vs = [.int i] ∧ Q (.bl true) H) ∨ (∃ (a : Addr) (xs : List V), vs = [.ref a] ∧ H a = some (.tup xs) ∧ Q (.bl false) H)
theorem k_tup_int (K : PySem.W.Frag) : PySem.W.kitOne K (.type "tuple") (.type "int") = some false := by unfold PySem.W.kitOne PySem.W.kitCls; rfl
theorem ok_num (T : Tops K mg) : Df P w K mg base 1 "is_number" ["thing"] spNum := by
  refine T.t_is_number.df sc_is_number (fun vs H Q E h => ?_) (fun cdv f A outer s H vs Q E hr h => ?_)
  · rcases h with ⟨_, rfl, _⟩ | ⟨_, _, rfl, _⟩ <;> rfl
  refine ⟨_, (@pss_one _ _ _ (@ps_ret _ _ _ _ (@pe_and _ _ _ _ _ _ _ (@pe_callB _ _ _ _ _ _ _ _ _ (isiQ K) (by rfl) T.b.n_isinstance boot_isinstance (@pa_cons _ _ _ _ _ (@pv _ 0 _ _ (by rfl) (Or.inl rfl) (by decide) (by decide)) (@pa_cons _ _ _ _ _ (@pe_ty _ _ _ _ T.b.n_int boot_int (by rfl) (by decide) (by decide)) (@pa_nil _) (by rfl)) (by rfl)) (by decide) (by decide) (by rfl) (by rfl)) (@pe_one _ _ _ _ _ (@pe_not _ _ _ _ (@pe_callB _ _ _ _ _ _ _ _ _ (isiQ K) (by rfl) T.b.n_isinstance boot_isinstance (@pa_cons _ _ _ _ _ (@pv _ 0 _ _ (by rfl) (Or.inl rfl) (by decide) (by decide)) (@pa_cons _ _ _ _ _ (@pe_ty _ _ _ _ T.b.n_bool boot_bool (by rfl) (by decide) (by decide)) (@pa_nil _) (by rfl)) (by rfl)) (by decide) (by decide) (by rfl) (by rfl))))))), ?_⟩
  rcases h with ⟨i, rfl, q⟩ | ⟨a, xs, rfl, ha, q⟩
  · exact ⟨_, rfl, _, "int", _, _, rfl, .int i, k_int_int K, _, rfl, iteT ⟨_, rfl, _, "bool", _, _, rfl, .int i, k_int_bl K, _, rfl, q⟩⟩
  · exact ⟨_, rfl, _, "int", _, _, rfl, .tup ha, k_tup_int K, _, rfl, iteF q⟩
theorem tOk_at {ns : List Int} {k : Int} (h : 0 ≤ k ∧ k < (ns.length : Nat)) : atI (ns.map V.int) k = some (.int (ns.getD k.toNat 0)) := by
  have hk : k.toNat < ns.length := by omega
  have ek : k = ((k.toNat : Nat) : Int) := by omega
  have q : atI (ns.map V.int) ((k.toNat : Nat) : Int) = some (.int ns[k.toNat]) := atI_nat (by rw [List.getElem?_map, List.getElem?_eq_getElem hk] <;> rfl)
  rw [← ek] at q
  rw [q, List.getD_eq_getElem?_getD, List.getElem?_eq_getElem hk]; rfl
theorem sum_upTo {f : PT → Int} : ∀ (l : List PT) (i : Nat) (t : PT), l[i]? = some t → ((l.take (i + 1)).map f).sum = ((l.take i).map f).sum + f t := by
  intro l i t h
  rw [List.take_add_one, h]
  simp
theorem sum_tSz (ns : List Int) : ∀ l : List PT, (l.map (tSz ns)).sum = tSzs ns l
  | [] => rfl
  | t :: r => by show tSz ns t + (r.map (tSz ns)).sum = _; rw [sum_tSz ns r]; rfl
theorem sum_tCo (ns : List Int) : ∀ l : List PT, (l.map (tCo ns)).sum = tCos ns l
  | [] => rfl
  | t :: r => by show tCo ns t + (r.map (tCo ns)).sum = _; rw [sum_tCo ns r]; rfl
theorem same_tup {H H' : Hp} (s : Same H H') : ∀ a xs, H a = some (.tup xs) → H' a = some (.tup xs) := fun a xs h => s a _ h
def spSC (K : PySem.W.Frag) (n : Nat) : Sp := fun vs H Q _ => ∃ (a : Addr) (ns : List Int) (x : V) (t : PT), vs = [.ref a, x] ∧ SqL K H a (ns.map V.int) ∧ TV H x t ∧ tOk ns.length t ∧ tDp t < n ∧
  ∀ (r : Addr) (H' : Hp), H' r = some (.tup [.int (tSz ns t), .int (tCo ns t)]) → Same H H' → Q (.ref r) H'
theorem ok_sc (T : Tops K mg) (f_is_number : Df P w K mg base 1 "is_number" ["thing"] spNum) : ∀ n : Nat, Df P w K mg base (n + 1) "size_and_cost" ["sizes", "tree"] (spSC K n)
  | 0 => by
    refine T.t_size_and_cost.df sc_size_and_cost (fun vs H Q E h => ?_) (fun cdv f A outer s H vs Q E hr h => ?_)
    · obtain ⟨a, ns, x, t, rfl, _⟩ := h
      rfl
    obtain ⟨a, ns, x, t, rfl, hS, hT, hok, hdp, q⟩ := h
    exact absurd hdp (by omega)
  | n + 1 => by
    have f_size_and_cost := ok_sc T f_is_number n
    refine T.t_size_and_cost.df sc_size_and_cost (fun vs H Q E h => ?_) (fun cdv f A outer s H vs Q E hr h => ?_)
    · obtain ⟨a, ns, x, t, rfl, _⟩ := h
      rfl
    obtain ⟨a, ns, x, t, rfl, hS, hT, hok, hdp, q⟩ := h
    refine ⟨_, (@pss_cons _ _ _ _ _ (@ps_if _ _ _ _ _ _ _ _ (@pt_val _ _ _ (@pe_df _ _ _ _ _ _ _ _ _ _ _ f_is_number hr (@pa_cons _ _ _ _ _ (@pv _ 1 _ _ (by rfl) (Or.inl rfl) (by decide) (by decide)) (@pa_nil _) (by rfl)) (by first | decide | exact Nat.le_refl _ | omega) (by rfl) (by decide) (by rfl) (by rfl)) (by intro _; rfl)) (@pss_one _ _ _ (@ps_ret _ _ _ _ (@pe_tup _ _ _ _ _ (@pa_cons _ _ _ _ _ (@pe_ix _ _ _ _ _ _ _ (ixL K) (@pv _ 0 _ _ (by rfl) (Or.inl rfl) (by decide) (by decide)) (@pv _ 1 _ _ (by rfl) (Or.inl rfl) (by decide) (by decide)) (fun _ _ => rfl)) (@pa_cons _ _ _ _ _ (@pe_int _ _ _ _) (@pa_nil _) (by rfl)) (by rfl))))) (@pss_nil _)) (@pss_cons _ _ _ _ _ (@ps_set _ _ 2 _ _ _ _ sc_size_and_cost.nd rfl (Or.inl rfl) (@pe_int _ _ _ _) (by rfl) (by first | exact .inl rfl | exact .inr rfl)) (@pss_cons _ _ _ _ _ (@ps_set _ _ 3 _ _ _ _ sc_size_and_cost.nd rfl (Or.inl rfl) (@pe_int _ _ _ _) (by rfl) (by first | exact .inl rfl | exact .inr rfl)) (@pss_cons _ _ _ _ _ (@ps_for _ _ _ _ _ _ _ _ PassesOwn.never rfl (@iT _ K _ _ _ (@pv _ 1 _ _ (by rfl) (Or.inl rfl) (by decide) (by decide)) (by rfl)) (@pg_name _ _ 4 _ sc_size_and_cost.nd rfl (Or.inl rfl) (by first | exact .inl rfl | exact .inr rfl)) (@pss_cons _ _ _ _ _ (@ps_asg _ _ _ _ _ _ (@pe_df _ _ _ _ _ _ _ _ _ _ _ f_size_and_cost hr (@pa_cons _ _ _ _ _ (@pv _ 0 _ _ (by rfl) (Or.inl rfl) (by decide) (by decide)) (@pa_cons _ _ _ _ _ (@pv _ 4 _ _ (by rfl) (Or.inl rfl) (by decide) (by decide)) (@pa_nil _) (by rfl)) (by rfl)) (by first | decide | exact Nat.le_refl _ | omega) (by rfl) (by decide) (by rfl) (by rfl)) (@gT _ K _ _ _ 2 _ (@pgs_cons _ _ _ _ _ (@pg_name _ _ 5 _ sc_size_and_cost.nd rfl (Or.inl rfl) (by first | exact .inl rfl | exact .inr rfl)) (@pgs_cons _ _ _ _ _ (@pg_name _ _ 6 _ sc_size_and_cost.nd rfl (Or.inl rfl) (by first | exact .inl rfl | exact .inr rfl)) (@pgs_nil _) (by rfl)) (by rfl)) (by rfl) (by rfl) (by rfl) (by rfl)) (by rfl) (by rfl) (by rfl)) (@pss_cons _ _ _ _ _ (@ps_aug _ _ 2 _ _ _ _ _ _ sc_size_and_cost.nd rfl (Or.inl rfl) (@pv _ 5 _ _ (by rfl) (Or.inl rfl) (by decide) (by decide)) ip_add (by first | exact .inl rfl | exact .inr rfl)) (@pss_one _ _ _ (@ps_aug _ _ 3 _ _ _ _ _ _ sc_size_and_cost.nd rfl (Or.inl rfl) (@pv _ 6 _ _ (by rfl) (Or.inl rfl) (by decide) (by decide)) ip_add (by first | exact .inl rfl | exact .inr rfl))))) (by intro _; rfl)) (@pss_one _ _ _ (@ps_ret _ _ _ _ (@pe_tup _ _ _ _ _ (@pa_cons _ _ _ _ _ (@pv _ 2 _ _ (by rfl) (Or.inl rfl) (by decide) (by decide)) (@pa_cons _ _ _ _ _ (@pe_op _ _ _ _ _ _ _ _ op_add (@pv _ 3 _ _ (by rfl) (Or.inl rfl) (by decide) (by decide)) (@pv _ 2 _ _ (by rfl) (Or.inl rfl) (by decide) (by decide))) (@pa_nil _) (by rfl)) (by rfl))))))))), ?_⟩
    cases hT with
    | leaf k =>
      refine ⟨_, rfl, .inl ⟨k, rfl, _, rfl, iteT ⟨_, rfl, _, rfl, a, _, _, _, rfl, rfl, hS, tOk_at hok, (by show 2 ≤ sizeLine; decide), fun r hr0 => ?_⟩⟩⟩
      exact q r _ upd_same (same_new hr0 _)
    | node h hs =>
      rename_i b xs l
      refine ⟨_, rfl, .inr ⟨b, xs, rfl, h, _, rfl, iteF ?_⟩⟩
      refine ⟨_, rfl, b, rfl, ⟨_, SqT.of h⟩, ?_⟩
      refine for_tup (K := K) (a := b) (xs := xs) (fun i σ H2 => ∃ v4 v5 v6 : Option V, σ = [some (.ref a), some (.ref b), some (.int ((l.take i).map (tSz ns)).sum), some (.int ((l.take i).map (tCo ns)).sum), v4, v5, v6] ∧ Same H H2) ⟨_, _, _, rfl, Same.refl _⟩ (fun _ _ _ _ ⟨_, _, _, _, s2⟩ => SqT.of (s2 _ _ h)) ?_ ?_
      · rintro i x σ H2 hx ⟨v4, v5, v6, rfl, s2⟩
        obtain ⟨t, ht, hv⟩ := hs.at hx
        have hd' : tDps l + 1 < n + 1 := hdp
        have hd2 := tDps_at l i t ht
        refine ⟨_, rfl, _, rfl, a, ns, x, t, rfl, s2.seq hS, hv.mono (same_tup s2), tOks_at _ l i t hok ht, by omega, fun r H3 hr3 s3 => ?_⟩
        refine ⟨r, _, rfl, SqT.of hr3, rfl, _, _, rfl, _, _, rfl, rfl, ?_⟩
        refine ⟨_, rfl, _, rfl, _, _, rfl, rfl, _, rfl, _, rfl, _, _, rfl, rfl, some x, some (.int (tSz ns t)), some (.int (tCo ns t)), by rw [sum_upTo l i t ht, sum_upTo l i t ht]; rfl, s2.trans s3⟩
      · rintro σ H2 ⟨v4, v5, v6, rfl, s2⟩
        rw [hs.len, List.take_of_length_le (Nat.le_refl _), sum_tSz, sum_tCo]
        refine ⟨_, rfl, _, rfl, _, rfl, _, _, rfl, rfl, (by show 2 ≤ sizeLine; decide), fun r hr0 => ?_⟩
        exact q r _ upd_same (s2.trans (same_new hr0 _))
def spCostOf (K : PySem.W.Frag) (n : Nat) : Sp := fun vs H Q _ => ∃ (a : Addr) (ns : List Int) (x : V) (t : PT), vs = [.ref a, x] ∧ SqL K H a (ns.map V.int) ∧ TV H x t ∧ tOk ns.length t ∧ tDp t < n ∧ ∀ H', Same H H' → Q (.int (tCo ns t)) H'
theorem ok_costof (T : Tops K mg) (f_size_and_cost : Df P w K mg base 14 "size_and_cost" ["sizes", "tree"] (spSC K 13)) : Df P w K mg base 15 "cost_of" ["sizes", "tree"] (spCostOf K 13) := by
  refine T.t_cost_of.df sc_cost_of (fun vs H Q E h => ?_) (fun cdv f A outer s H vs Q E hr h => ?_)
  · obtain ⟨a, ns, x, t, rfl, _⟩ := h
    rfl
  obtain ⟨a, ns, x, t, rfl, hS, hT, hok, hdp, q⟩ := h
  refine ⟨_, (@pss_one _ _ _ (@ps_ret _ _ _ _ (@pe_ix _ _ _ _ _ _ _ (ixT K) (@pe_df _ _ _ _ _ _ _ _ _ _ _ f_size_and_cost hr (@pa_cons _ _ _ _ _ (@pv _ 0 _ _ (by rfl) (Or.inl rfl) (by decide) (by decide)) (@pa_cons _ _ _ _ _ (@pv _ 1 _ _ (by rfl) (Or.inl rfl) (by decide) (by decide)) (@pa_nil _) (by rfl)) (by rfl)) (by first | decide | exact Nat.le_refl _ | omega) (by rfl) (by decide) (by rfl) (by rfl)) (@pe_int _ _ _ _) (fun _ _ => rfl)))), ?_⟩
  refine ⟨_, rfl, _, rfl, a, ns, x, t, rfl, hS, hT, hok, hdp, fun r H' hr' s' => ⟨r, _, _, _, rfl, rfl, SqT.of hr', rfl, q _ s'⟩⟩
def spMany : Sp := fun vs H Q _ => ∃ (p : Addr) (c : Int), vs = [.ref p] ∧ Left H p c ∧ c < 2 ^ 50 ∧ ∀ (v c' : Int) (H' : Hp), 0 ≤ v → v ≤ 12 → Left H' p c' → c ≤ c' → c' ≤ c + 3 → But p H H' → Q (.int v) H'
theorem ok_many (T : Tops K mg) (f_l_pick : Df P w K mg base 2 "_law_pick" ["_law_left_here", "_law_many_here"] spPick) : Df P w K mg base 3 "_law_many" ["_law_left_here"] spMany := by
  refine T.t_l_many.df sc_l_many (fun vs H Q E h => ?_) (fun cdv f A outer s H vs Q E hr h => ?_)
  · obtain ⟨p, c, rfl, _⟩ := h
    rfl
  obtain ⟨p, c, rfl, hL, c1, q⟩ := h
  refine ⟨_, (@pss_cons _ _ _ _ _ (@ps_set _ _ 1 _ _ _ _ sc_l_many.nd rfl (Or.inl rfl) (@pe_df _ _ _ _ _ _ _ _ _ _ _ f_l_pick hr (@pa_cons _ _ _ _ _ (@pv _ 0 _ _ (by rfl) (Or.inl rfl) (by decide) (by decide)) (@pa_cons _ _ _ _ _ (@pe_int _ _ _ _) (@pa_nil _) (by rfl)) (by rfl)) (by first | decide | exact Nat.le_refl _ | omega) (by rfl) (by decide) (by rfl) (by rfl)) (by rfl) (by first | exact .inl rfl | exact .inr rfl)) (@pss_one _ _ _ (@ps_ret _ _ _ _ (@pe_ix _ _ _ _ _ _ _ (ixL K) (@pe_lst _ _ _ _ (@pa_cons _ _ _ _ _ (@pe_int _ _ _ _) (@pa_cons _ _ _ _ _ (@pe_int _ _ _ _) (@pa_cons _ _ _ _ _ (@pe_int _ _ _ _) (@pa_cons _ _ _ _ _ (@pe_int _ _ _ _) (@pa_cons _ _ _ _ _ (@pe_int _ _ _ _) (@pa_cons _ _ _ _ _ (@pe_int _ _ _ _) (@pa_cons _ _ _ _ _ (@pe_df _ _ _ _ _ _ _ _ _ _ _ f_l_pick hr (@pa_cons _ _ _ _ _ (@pv _ 0 _ _ (by rfl) (Or.inl rfl) (by decide) (by decide)) (@pa_cons _ _ _ _ _ (@pe_int _ _ _ _) (@pa_nil _) (by rfl)) (by rfl)) (by first | decide | exact Nat.le_refl _ | omega) (by rfl) (by decide) (by rfl) (by rfl)) (@pa_cons _ _ _ _ _ (@pe_op _ _ _ _ _ _ _ _ op_add (@pe_int _ _ _ _) (@pe_df _ _ _ _ _ _ _ _ _ _ _ f_l_pick hr (@pa_cons _ _ _ _ _ (@pv _ 0 _ _ (by rfl) (Or.inl rfl) (by decide) (by decide)) (@pa_cons _ _ _ _ _ (@pe_int _ _ _ _) (@pa_nil _) (by rfl)) (by rfl)) (by first | decide | exact Nat.le_refl _ | omega) (by rfl) (by decide) (by rfl) (by rfl))) (@pa_nil _) (by rfl)) (by rfl)) (by rfl)) (by rfl)) (by rfl)) (by rfl)) (by rfl)) (by rfl))) (@pv _ 1 _ _ (by rfl) (Or.inl rfl) (by decide) (by decide)) (fun _ _ => rfl))))), ?_⟩
  have c0 := hL.ge
  refine ⟨_, rfl, p, c, _, rfl, hL, by omega, by decide, by decide, fun wy H1 w0 w1 L1 B1 => ?_⟩
  refine ⟨_, rfl, p, c + 1, _, rfl, L1, by omega, by decide, by decide, fun d1 H2 d10 d11 L2 B2 => ?_⟩
  refine ⟨_, rfl, p, c + 1 + 1, _, rfl, L2, by omega, by decide, by decide, fun d2 H3 d20 d21 L3 B3 => ⟨_, _, rfl, rfl, (by show 8 ≤ sizeLine; decide), fun e he => ?_⟩⟩
  obtain ⟨v, hv, hat⟩ := at_intM (ns := [2, 3, 4, 5, 6, 3, d1, 7 + d2]) w0 w1
  have hv1 : 0 ≤ v ∧ v ≤ 12 := by
    simp only [List.mem_cons, List.not_mem_nil, or_false] at hv
    omega
  exact ⟨_, rfl, e, _, _, _, rfl, rfl, SqL.of upd_same, hat, q v _ _ hv1.1 hv1.2 (L3.new he) (by omega) (by omega) (((B1.trans B2).trans B3).trans (But.same (same_new he _)))⟩
def spWays : Sp := fun vs H Q _ => ∃ (p : Addr) (c : Int), vs = [.ref p] ∧ Left H p c ∧ c < 2 ^ 50 ∧ ∀ (v : Int) (H' : Hp), 2 ≤ v → v ≤ 6 → Left H' p (c + 1) → But p H H' → Q (.int v) H'
theorem ok_ways (T : Tops K mg) (f_l_pick : Df P w K mg base 2 "_law_pick" ["_law_left_here", "_law_many_here"] spPick) : Df P w K mg base 3 "_law_ways" ["_law_left_here"] spWays := by
  refine T.t_l_ways.df sc_l_ways (fun vs H Q E h => ?_) (fun cdv f A outer s H vs Q E hr h => ?_)
  · obtain ⟨p, c, rfl, _⟩ := h
    rfl
  obtain ⟨p, c, rfl, hL, c1, q⟩ := h
  refine ⟨_, (@pss_one _ _ _ (@ps_ret _ _ _ _ (@pe_ix _ _ _ _ _ _ _ (ixL K) (@pe_lst _ _ _ _ (@pa_cons _ _ _ _ _ (@pe_int _ _ _ _) (@pa_cons _ _ _ _ _ (@pe_int _ _ _ _) (@pa_cons _ _ _ _ _ (@pe_int _ _ _ _) (@pa_cons _ _ _ _ _ (@pe_int _ _ _ _) (@pa_cons _ _ _ _ _ (@pe_int _ _ _ _) (@pa_cons _ _ _ _ _ (@pe_int _ _ _ _) (@pa_nil _) (by rfl)) (by rfl)) (by rfl)) (by rfl)) (by rfl)) (by rfl))) (@pe_df _ _ _ _ _ _ _ _ _ _ _ f_l_pick hr (@pa_cons _ _ _ _ _ (@pv _ 0 _ _ (by rfl) (Or.inl rfl) (by decide) (by decide)) (@pa_cons _ _ _ _ _ (@pe_int _ _ _ _) (@pa_nil _) (by rfl)) (by rfl)) (by first | decide | exact Nat.le_refl _ | omega) (by rfl) (by decide) (by rfl) (by rfl)) (fun _ _ => rfl)))), ?_⟩
  refine ⟨(by show 6 ≤ sizeLine; decide), fun e he => ?_⟩
  have npe : p ≠ e := by obtain ⟨o, ho⟩ := hL.here; exact ne_of_none ho he
  refine ⟨_, rfl, p, c, _, rfl, hL.new he, by omega, by decide, by decide, fun wy H1 w0 w1 L1 B1 => ?_⟩
  obtain ⟨v, hv, hat⟩ := at_intM (ns := [2, 3, 2, 4, 5, 6]) w0 w1
  have hv1 : 2 ≤ v ∧ v ≤ 6 := by
    simp only [List.mem_cons, List.not_mem_nil, or_false] at hv
    omega
  have he1 : H1 e = some (.lst (([2, 3, 2, 4, 5, 6] : List Int).map V.int)) := B1 e _ upd_same npe.symm
  exact ⟨e, _, _, _, rfl, rfl, SqL.of he1, hat, q v _ hv1.1 hv1.2 L1 ((But.same (same_new he _)).trans B1)⟩
theorem tup_upd {H : Hp} {b : Addr} {ys : List V} (h : H b = some (.lst ys)) (o : HO) : ∀ a xs, H a = some (.tup xs) → (upd H b o) a = some (.tup xs) := fun a xs e => by
  have nb : a ≠ b := by intro z; rw [z, h] at e; cases e
  rw [upd_ne nb]; exact e
def spSizes : Sp := fun vs H Q _ => ∃ (p : Addr) (c : Int), vs = [.ref p, .int 5] ∧ Left H p c ∧ c < 2 ^ 40 ∧
  ∀ (r : Addr) (ns : List Int) (c' : Int) (H' : Hp), H r = none → H' r = some (.lst (ns.map V.int)) → 1 ≤ ns.length → ns.length ≤ 5 → (∀ v ∈ ns, 0 ≤ v ∧ v ≤ 1000000000) → Left H' p c' → c ≤ c' → c' ≤ c + 100 → But p H H' → Q (.ref r) H'
theorem ok_sizes (T : Tops K mg) (f_l_pick : Df P w K mg base 2 "_law_pick" ["_law_left_here", "_law_many_here"] spPick) (f_l_many : Df P w K mg base 3 "_law_many" ["_law_left_here"] spMany) : Df P w K mg base 4 "_law_sizes" ["_law_left_here", "_law_most"] spSizes := by
  refine T.t_l_sizes.df sc_l_sizes (fun vs H Q E h => ?_) (fun cdv f A outer s H vs Q E hr h => ?_)
  · obtain ⟨p, c, rfl, _⟩ := h
    rfl
  obtain ⟨p, c, rfl, hL, c1, q⟩ := h
  refine ⟨_, (@pss_cons _ _ _ _ _ (@ps_set _ _ 2 _ _ _ _ sc_l_sizes.nd rfl (Or.inl rfl) (@pe_callB _ _ _ _ _ _ _ _ _ (call_max2 rfl) (by rfl) T.b.n_max boot_max (@pa_cons _ _ _ _ _ (@pe_int _ _ _ _) (@pa_cons _ _ _ _ _ (@pe_callB _ _ _ _ _ _ _ _ _ (call_min2 rfl) (by rfl) T.b.n_min boot_min (@pa_cons _ _ _ _ _ (@pv _ 1 _ _ (by rfl) (Or.inl rfl) (by decide) (by decide)) (@pa_cons _ _ _ _ _ (@pe_df _ _ _ _ _ _ _ _ _ _ _ f_l_many hr (@pa_cons _ _ _ _ _ (@pv _ 0 _ _ (by rfl) (Or.inl rfl) (by decide) (by decide)) (@pa_nil _) (by rfl)) (by first | decide | exact Nat.le_refl _ | omega) (by rfl) (by decide) (by rfl) (by rfl)) (@pa_nil _) (by rfl)) (by rfl)) (by decide) (by decide) (by rfl) (by rfl)) (@pa_nil _) (by rfl)) (by rfl)) (by decide) (by decide) (by rfl) (by rfl)) (by rfl) (by first | exact .inl rfl | exact .inr rfl)) (@pss_cons _ _ _ _ _ (@ps_set _ _ 3 _ _ _ _ sc_l_sizes.nd rfl (Or.inl rfl) (@pe_df _ _ _ _ _ _ _ _ _ _ _ f_l_pick hr (@pa_cons _ _ _ _ _ (@pv _ 0 _ _ (by rfl) (Or.inl rfl) (by decide) (by decide)) (@pa_cons _ _ _ _ _ (@pe_int _ _ _ _) (@pa_nil _) (by rfl)) (by rfl)) (by first | decide | exact Nat.le_refl _ | omega) (by rfl) (by decide) (by rfl) (by rfl)) (by rfl) (by first | exact .inl rfl | exact .inr rfl)) (@pss_cons _ _ _ _ _ (@ps_set _ _ 4 _ _ _ _ sc_l_sizes.nd rfl (Or.inl rfl) (@pe_lst _ _ _ _ (@pa_nil _)) (by rfl) (by first | exact .inl rfl | exact .inr rfl)) (@pss_cons _ _ _ _ _ (@ps_for _ _ _ _ _ _ _ _ PassesOwn.never rfl (@pi_range1 _ _ _ _ _ _ rfl T.b.n_range (@pa_cons _ _ _ _ _ (@pv _ 2 _ _ (by rfl) (Or.inl rfl) (by decide) (by decide)) (@pa_nil _) (by rfl)) (by rfl)) (@pg_name _ _ 5 _ sc_l_sizes.nd rfl (Or.inl rfl) (by first | exact .inl rfl | exact .inr rfl)) (@pss_cons _ _ _ _ _ (@ps_set _ _ 6 _ _ _ _ sc_l_sizes.nd rfl (Or.inl rfl) (@pe_lst _ _ _ _ (@pa_cons _ _ _ _ _ (@pe_df _ _ _ _ _ _ _ _ _ _ _ f_l_pick hr (@pa_cons _ _ _ _ _ (@pv _ 0 _ _ (by rfl) (Or.inl rfl) (by decide) (by decide)) (@pa_cons _ _ _ _ _ (@pe_int _ _ _ _) (@pa_nil _) (by rfl)) (by rfl)) (by first | decide | exact Nat.le_refl _ | omega) (by rfl) (by decide) (by rfl) (by rfl)) (@pa_cons _ _ _ _ _ (@pe_op _ _ _ _ _ _ _ _ op_mul (@pe_df _ _ _ _ _ _ _ _ _ _ _ f_l_pick hr (@pa_cons _ _ _ _ _ (@pv _ 0 _ _ (by rfl) (Or.inl rfl) (by decide) (by decide)) (@pa_cons _ _ _ _ _ (@pe_int _ _ _ _) (@pa_nil _) (by rfl)) (by rfl)) (by first | decide | exact Nat.le_refl _ | omega) (by rfl) (by decide) (by rfl) (by rfl)) (@pe_df _ _ _ _ _ _ _ _ _ _ _ f_l_pick hr (@pa_cons _ _ _ _ _ (@pv _ 0 _ _ (by rfl) (Or.inl rfl) (by decide) (by decide)) (@pa_cons _ _ _ _ _ (@pe_int _ _ _ _) (@pa_nil _) (by rfl)) (by rfl)) (by first | decide | exact Nat.le_refl _ | omega) (by rfl) (by decide) (by rfl) (by rfl))) (@pa_cons _ _ _ _ _ (@pe_int _ _ _ _) (@pa_cons _ _ _ _ _ (@pe_op _ _ _ _ _ _ _ _ op_add (@pe_int _ _ _ _) (@pe_op _ _ _ _ _ _ _ _ op_mul (@pv _ 5 _ _ (by rfl) (Or.inl rfl) (by decide) (by decide)) (@pv _ 5 _ _ (by rfl) (Or.inl rfl) (by decide) (by decide)))) (@pa_nil _) (by rfl)) (by rfl)) (by rfl)) (by rfl))) (by rfl) (by first | exact .inl rfl | exact .inr rfl)) (@pss_one _ _ _ (@ps_expr _ _ _ _ (@pe_bm _ _ _ _ _ _ _ _ _ _ _ _ PySem.F.plainAttrs_list PySem.F.slot_list_append PySem.F.type_list_append mt_append (@pv _ 4 _ _ (by rfl) (Or.inl rfl) (by decide) (by decide)) (@pa_cons _ _ _ _ _ (@pe_ix _ _ _ _ _ _ _ (ixL K) (@pe_op _ _ _ _ _ _ _ _ op_cat (@pv _ 6 _ _ (by rfl) (Or.inl rfl) (by decide) (by decide)) (@pe_lst _ _ _ _ (@pa_cons _ _ _ _ _ (@pe_op _ _ _ _ _ _ _ _ op_sub (@pe_op _ _ _ _ _ _ _ _ op_pow (@pe_int _ _ _ _) (@pe_int _ _ _ _)) (@pe_df _ _ _ _ _ _ _ _ _ _ _ f_l_pick hr (@pa_cons _ _ _ _ _ (@pv _ 0 _ _ (by rfl) (Or.inl rfl) (by decide) (by decide)) (@pa_cons _ _ _ _ _ (@pe_int _ _ _ _) (@pa_nil _) (by rfl)) (by rfl)) (by first | decide | exact Nat.le_refl _ | omega) (by rfl) (by decide) (by rfl) (by rfl))) (@pa_cons _ _ _ _ _ (@pe_df _ _ _ _ _ _ _ _ _ _ _ f_l_pick hr (@pa_cons _ _ _ _ _ (@pv _ 0 _ _ (by rfl) (Or.inl rfl) (by decide) (by decide)) (@pa_cons _ _ _ _ _ (@pe_op _ _ _ _ _ _ _ _ op_add (@pe_op _ _ _ _ _ _ _ _ op_pow (@pe_int _ _ _ _) (@pe_int _ _ _ _)) (@pe_int _ _ _ _)) (@pa_nil _) (by rfl)) (by rfl)) (by first | decide | exact Nat.le_refl _ | omega) (by rfl) (by decide) (by rfl) (by rfl)) (@pa_nil _) (by rfl)) (by rfl)))) (@pv _ 3 _ _ (by rfl) (Or.inl rfl) (by decide) (by decide)) (fun _ _ => rfl)) (@pa_nil _) (by rfl)) (by rfl) (by rfl) (by rfl) (by rfl) (by rfl)) (by rfl)))) (by intro _; rfl)) (@pss_one _ _ _ (@ps_ret _ _ _ _ (@pv _ 4 _ _ (by rfl) (Or.inl rfl) (by decide) (by decide)))))))), ?_⟩
  have c0 := hL.ge
  refine ⟨_, rfl, _, rfl, p, c, rfl, hL, by omega, fun mv c' H1 m0 m1 L1 a1 a2 B1 => ⟨_, _, rfl, _, _, rfl, ?_⟩⟩
  obtain ⟨many, hmany, hm0, hm1⟩ : ∃ many : Int, (if (if mv < 5 then mv else (5 : Int)) > 1 then (if mv < 5 then mv else (5 : Int)) else 1) = many ∧ 1 ≤ many ∧ many ≤ 5 := ⟨_, rfl, by split <;> split at * <;> omega, by split <;> split at * <;> omega⟩
  simp only [hmany]
  refine ⟨_, rfl, p, c', _, rfl, L1, by omega, by decide, by decide, fun wy H2 w0 w1 L2 B2 => ⟨(by show 0 ≤ sizeLine; decide), fun r hr0 => ?_⟩⟩
  have npr : p ≠ r := by obtain ⟨o, ho⟩ := L2.here; exact ne_of_none ho hr0
  have B02 := B1.trans B2
  have hrn : H r = none := free_of B02 npr hr0
  refine ⟨_, rfl, _, rfl, by omega, by omega, ?_⟩
  refine for_range (fun i σ H3 => ∃ (ns : List Int) (v5 v6 : Option V) (c3 : Int), σ = [some (.ref p), some (.int 5), some (.int many), some (.int wy), some (.ref r), v5, v6] ∧ H3 r = some (.lst (ns.map V.int)) ∧ ns.length = i ∧ (∀ v ∈ ns, 0 ≤ v ∧ v ≤ 1000000000) ∧ Left H3 p c3 ∧ c' + 1 ≤ c3 ∧ c3 ≤ c' + 1 + 5 * i ∧ (∀ b o, H b = some o → b ≠ p → H3 b = some o))
    ⟨[], none, none, c' + 1, rfl, upd_same, rfl, (fun v hv => by cases hv), L2.new hr0, by omega, by omega, fun b o h n => same_new hr0 _ _ _ (B02 b o h n)⟩ ?_ ?_
  · rintro i σ H3 hi ⟨ns, v5, v6, c3, rfl, hr3, hn, hb, L3, b1, b2, B3⟩
    have hi12 : (i : Int) < 12 := by omega
    have ei : (0 + (i : Int)) = (i : Int) := by omega
    have hii : (0 + (i : Int)) * (0 + (i : Int)) ≤ 144 := by rw [ei]; exact Int.le_trans (Int.mul_le_mul (show (i : Int) ≤ 12 by omega) (show (i : Int) ≤ 12 by omega) (by omega) (by omega)) (by decide)
    have hi0 : 0 ≤ (0 + (i : Int)) * (0 + (i : Int)) := by rw [ei]; exact Int.mul_nonneg (by omega) (by omega)
    refine ⟨_, rfl, p, c3, _, rfl, L3, by omega, by decide, by decide, fun d1 H4 d10 d11 L4 B4 => ?_⟩
    refine ⟨_, rfl, p, c3 + 1, _, rfl, L4, by omega, by decide, by decide, fun d2 H5 d20 d21 L5 B5 => ?_⟩
    refine ⟨_, rfl, p, c3 + 1 + 1, _, rfl, L5, by omega, by decide, by decide, fun d3 H6 d30 d31 L6 B6 => ⟨_, _, rfl, rfl, .inl ⟨by omega, by omega⟩, ?_⟩⟩
    have h23a : 0 ≤ d2 * d3 := Int.mul_nonneg d20 d30
    have h23b : d2 * d3 ≤ 2 * 100 := Int.mul_le_mul (by omega) (by omega) d30 (by omega)
    refine ⟨_, rfl, _, rfl, _, _, rfl, rfl, .inl ⟨by omega, by omega⟩, _, _, rfl, rfl, (by show 4 ≤ sizeLine; decide), fun e he => ?_⟩
    have B36 := (B4.trans B5).trans B6
    have hr6 := B36 r _ hr3 npr.symm
    have nre : r ≠ e := ne_of_none hr6 he
    have npe : p ≠ e := by obtain ⟨o, ho⟩ := L6.here; exact ne_of_none ho he
    have hr7 : (upd H6 e (.lst (([d1, d2 * d3, 5, 1 + (0 + (i : Int)) * (0 + (i : Int))] : List Int).map V.int))) r = some (.lst (ns.map V.int)) := by rw [upd_ne nre]; exact hr6
    have he7 : (upd H6 e (.lst (([d1, d2 * d3, 5, 1 + (0 + (i : Int)) * (0 + (i : Int))] : List Int).map V.int))) e = some (.lst (([d1, d2 * d3, 5, 1 + (0 + (i : Int)) * (0 + (i : Int))] : List Int).map V.int)) := upd_same
    have L7 : Left (upd H6 e (.lst (([d1, d2 * d3, 5, 1 + (0 + (i : Int)) * (0 + (i : Int))] : List Int).map V.int))) p (c3 + 1 + 1 + 1) := L6.new he
    have B37 : But p H3 (upd H6 e (.lst (([d1, d2 * d3, 5, 1 + (0 + (i : Int)) * (0 + (i : Int))] : List Int).map V.int))) := B36.trans (But.same (same_new he _))
    change ∃ _, _
    have pw : CPow 10 9 := ⟨by decide, by decide, by decide⟩
    refine ⟨_, rfl, .inl ⟨rfl, _, SqL.of hr7⟩, _, rfl, _, _, rfl, rfl, pw, _, rfl, p, c3 + 1 + 1 + 1, _, rfl, L7, by omega, by decide, by decide, fun d4 H8 d40 d41 L8 B8 => ⟨_, _, rfl, rfl, ?_⟩⟩
    refine ⟨_, rfl, _, _, rfl, rfl, pw, _, _, rfl, rfl, p, c3 + 1 + 1 + 1 + 1, _, rfl, L8, by omega, by decide, by decide, fun d5 H9 d50 d51 L9 B9 => ⟨(by show 2 ≤ sizeLine; decide), fun g hg => ?_⟩⟩
    have d51' : d5 < 1000000001 := d51
    have he9 := B9 e _ (B8 e _ he7 npe.symm) npe.symm
    have hr9 := B9 r _ (B8 r _ hr7 npr.symm) npr.symm
    have neg : e ≠ g := ne_of_none he9 hg
    refine ⟨e, g, _, _, rfl, rfl, (by rw [upd_ne neg]; exact he9), upd_same, (by show 6 ≤ sizeLine; decide), fun z hz => ?_⟩
    obtain ⟨v, hv, hat⟩ := at_intM (ns := [d1, d2 * d3, 5, 1 + (0 + (i : Int)) * (0 + (i : Int)), 10 ^ 9 - d4, d5]) w0 w1
    have hv1 : 0 ≤ v ∧ v ≤ 1000000000 := by
      simp only [List.mem_cons, List.not_mem_nil, or_false] at hv
      omega
    have sg : Same H9 (upd H9 g (.lst [.int (10 ^ 9 - d4), .int d5])) := same_new hg _
    have hrz : (upd (upd H9 g (.lst [.int (10 ^ 9 - d4), .int d5])) z (.lst (([d1, d2 * d3, 5, 1 + (0 + (i : Int)) * (0 + (i : Int)), 10 ^ 9 - d4, d5] : List Int).map V.int))) r = some (.lst (ns.map V.int)) := same_new hz _ _ _ (sg _ _ hr9)
    have Lz : Left (upd (upd H9 g (.lst [.int (10 ^ 9 - d4), .int d5])) z (.lst (([d1, d2 * d3, 5, 1 + (0 + (i : Int)) * (0 + (i : Int)), 10 ^ 9 - d4, d5] : List Int).map V.int))) p (c3 + 1 + 1 + 1 + 1 + 1) := (L9.new hg).new hz
    have Bz : But p H3 (upd (upd H9 g (.lst [.int (10 ^ 9 - d4), .int d5])) z (.lst (([d1, d2 * d3, 5, 1 + (0 + (i : Int)) * (0 + (i : Int)), 10 ^ 9 - d4, d5] : List Int).map V.int))) := ((B37.trans B8).trans B9).trans (But.same (sg.trans (same_new hz _)))
    have hzz : (upd (upd H9 g (.lst [.int (10 ^ 9 - d4), .int d5])) z (.lst (([d1, d2 * d3, 5, 1 + (0 + (i : Int)) * (0 + (i : Int)), 10 ^ 9 - d4, d5] : List Int).map V.int))) z = some (.lst (([d1, d2 * d3, 5, 1 + (0 + (i : Int)) * (0 + (i : Int)), 10 ^ 9 - d4, d5] : List Int).map V.int)) := upd_same
    refine ⟨_, rfl, z, _, _, _, rfl, rfl, SqL.of hzz, hat, r, _, _, rfl, rfl, hrz, (by rw [List.length_map, hn]; exact small1000 (by omega)), ns ++ [v], _, _, c3 + 1 + 1 + 1 + 1 + 1, rfl, ?_, by rw [List.length_append, hn]; rfl, fun u hu => ?_, Lz.at npr, by omega, by omega, fun b o h n => ?_⟩
    · rw [upd_same, List.map_append]; rfl
    · rcases List.mem_append.mp hu with hu | hu
      · exact hb u hu
      · rw [List.mem_singleton.mp hu]; exact hv1
    · rw [upd_ne (ne_of_none h hrn)]; exact Bz b o (B3 b o h n) n
  · rintro σ H3 ⟨ns, v5, v6, c3, rfl, hr3, hn, hb, L3, b1, b2, B3⟩
    exact ⟨_, rfl, q r ns c3 H3 hrn hr3 (by omega) (by omega) hb L3 (by omega) (by omega) B3⟩
theorem flat_int {H : Hp} (i : Int) (n : Nat) : IsD H (n + 1) (.int i) (.int i) := .inl ⟨rfl, .inr (.inr (.inl ⟨i, rfl⟩))⟩
def spLaw (K : PySem.W.Frag) : Sp := fun vs H Q _ => ∃ (a : Addr) (ns : List Int), vs = [.ref a] ∧ SqL K H a (ns.map V.int) ∧ ns.length ≤ 63 ∧ ∀ H', Q (.bl true) H'
abbrev T3 := Int × Int × PT
def k2 (e : T3) : List Key := [.inl e.1, .inl e.2.1]
def Ord3 (L : List T3) : Prop := L.Pairwise fun a b => lexB (k2 b) (k2 a) = false
def sum3 (L : List T3) : Int := (L.map (·.1)).sum
def put3 (L : List T3) (f : Int) : T3 := (sum3 L, f, .node (L.map (·.2.2)))
inductive Fr (w : Nat) : List T3 → Int → Nat → Int → Int × PT → Prop
  | stop {e : T3} {f : Int} {m : Nat} {c : Int} : Fr w [e] f m c (c, e.2.2)
  | step {E L : List T3} {f : Int} {m : Nat} {c : Int} {R : Int × PT} : 1 < L.length → E.Perm L → (L.map (·.2.1)).Nodup → Ord3 L → Fr w (L.drop m ++ [put3 (L.take m) f]) (f + 1) w (c + sum3 (L.take m)) R → Fr w E f m c R
theorem Fr.perm {w : Nat} {E E' : List T3} {f : Int} {m : Nat} {c : Int} {R : Int × PT} (p : E.Perm E') (h : Fr w E' f m c R) : Fr w E f m c R := by
  cases h with
  | stop => rw [List.perm_singleton.mp p]; exact .stop
  | step hl pe nd od g => exact .step hl (p.trans pe) nd od g
theorem perm_sum {l l' : List Int} (h : l.Perm l') : l.sum = l'.sum := by
  induction h with
  | nil => rfl
  | cons x _ ih => rw [List.sum_cons, List.sum_cons, ih]
  | swap x y l => simp only [List.sum_cons]; omega
  | trans _ _ h1 h2 => rw [h1, h2]
def trs (E : List T3) : List PT := E.map (·.2.2)
theorem fr_cost {ns : List Int} {w : Nat} {E : List T3} {f : Int} {m : Nat} {c : Int} {R : Int × PT} (h : Fr w E f m c R) : (∀ e ∈ E, e.1 = tSz ns e.2.2) → c = tCos ns (trs E) → R.1 = tCo ns R.2 := by
  induction h with
  | @stop e f m c => intro _ hc; rw [hc]; show tCo ns e.2.2 + 0 = tCo ns e.2.2; omega
  | @step E L f m c R hl pe nd od _ ih =>
    intro hs hc
    have hsL : ∀ e ∈ L, e.1 = tSz ns e.2.2 := fun e he => hs e (pe.mem_iff.mpr he)
    have sumS : ∀ S : List T3, (∀ e ∈ S, e.1 = tSz ns e.2.2) → sum3 S = tSzs ns (trs S) := by
      intro S
      induction S with
      | nil => intro _; rfl
      | cons e r ih => intro h; show (e.1 :: r.map (·.1)).sum = tSz ns e.2.2 + tSzs ns (trs r); rw [List.sum_cons, ← ih (fun x hx => h x (List.mem_cons_of_mem _ hx)), h e (by simp)]; rfl
    have hcL : c = tCos ns (trs L) := by
      rw [hc, ← sum_tCo, ← sum_tCo]
      exact perm_sum ((pe.map _).map _)
    have eT := sumS (L.take m) (fun e he => hsL e (List.mem_of_mem_take he))
    refine ih (fun e he => ?_) ?_
    · rcases List.mem_append.mp he with he | he
      · exact hsL e (List.mem_of_mem_drop he)
      · rw [List.mem_singleton.mp he]; exact eT
    · have e1 : trs L = trs (L.take m) ++ trs (L.drop m) := by unfold trs; rw [← List.map_append, List.take_append_drop]
      have e2 : trs (L.drop m ++ [put3 (L.take m) f]) = trs (L.drop m) ++ [.node (trs (L.take m))] := by unfold trs; rw [List.map_append]; rfl
      rw [e2, tCos_app, hcL, e1, tCos_app, eT]
      show _ = _ + (tCos ns (trs (L.take m)) + tSzs ns (trs (L.take m)) + 0)
      omega
theorem tOks_iff (n : Nat) : ∀ l : List PT, tOks n l ↔ ∀ t ∈ l, tOk n t
  | [] => ⟨(fun _ t h => by cases h), fun _ => trivial⟩
  | t :: r => by show tOk n t ∧ tOks n r ↔ _; rw [tOks_iff n r]; simp
theorem tGds_iff : ∀ l : List PT, tGds l ↔ ∀ t ∈ l, tGd t
  | [] => ⟨(fun _ t h => by cases h), fun _ => trivial⟩
  | t :: r => by show tGd t ∧ tGds r ↔ _; rw [tGds_iff r]; simp
theorem tLfs_perm {l l' : List PT} (h : l.Perm l') : tLfs l = tLfs l' := by
  induction h with
  | nil => rfl
  | cons x _ ih => show tLf x + _ = tLf x + _; rw [ih]
  | swap x y l => show tLf y + (tLf x + _) = tLf x + (tLf y + _); omega
  | trans _ _ h1 h2 => rw [h1, h2]
theorem fr_tree {n : Nat} {w : Nat} {E : List T3} {f : Int} {m : Nat} {c : Int} {R : Int × PT} (h : Fr w E f m c R) : 2 ≤ m → 2 ≤ w → tOks n (trs E) → tGds (trs E) → tOk n R.2 ∧ tGd R.2 ∧ tLf R.2 = tLfs (trs E) := by
  induction h with
  | @stop e f m c => intro _ _ h1 h2; exact ⟨h1.1, h2.1, by show tLf e.2.2 = tLf e.2.2 + 0; omega⟩
  | @step E L f m c R hl pe nd od _ ih =>
    intro hm hw h1 h2
    have pL : (trs E).Perm (trs L) := pe.map _
    have h1L : tOks n (trs L) := (tOks_iff n _).mpr fun t ht => (tOks_iff n _).mp h1 t (pL.mem_iff.mpr ht)
    have h2L : tGds (trs L) := (tGds_iff _).mpr fun t ht => (tGds_iff _).mp h2 t (pL.mem_iff.mpr ht)
    have e1 : trs L = trs (L.take m) ++ trs (L.drop m) := by unfold trs; rw [← List.map_append, List.take_append_drop]
    have e2 : trs (L.drop m ++ [put3 (L.take m) f]) = trs (L.drop m) ++ [.node (trs (L.take m))] := by unfold trs; rw [List.map_append]; rfl
    rw [e1, tOks_app] at h1L
    rw [e1, tGds_app] at h2L
    obtain ⟨a, b, d⟩ := ih hw hw (by rw [e2, tOks_app]; exact ⟨h1L.2, h1L.1, trivial⟩) (by rw [e2, tGds_app]; exact ⟨h2L.2, tGd_node h2L.1 (by unfold trs; rw [List.length_map, List.length_take]; omega), trivial⟩)
    refine ⟨a, b, ?_⟩
    rw [d, e2, tLfs_app, tLfs_perm pL, e1, tLfs_app]
    show _ + (tLfs (trs (L.take m)) + 0) = _
    omega
def many0 (n w : Nat) : Nat := (2 + ((n : Int) - 2) % ((w : Int) - 1)).toNat
theorem many0_eq {n w : Nat} (h : 2 ≤ w) : 2 + ((n : Int) - 2) % ((w : Int) - 1) = ((many0 n w : Nat) : Int) := by
  unfold many0
  have := Int.emod_nonneg ((n : Int) - 2) (show ((w : Int) - 1) ≠ 0 by omega)
  omega
theorem many0_ge {n w : Nat} (h : 2 ≤ w) : 2 ≤ many0 n w := by
  have := Int.emod_nonneg ((n : Int) - 2) (show ((w : Int) - 1) ≠ 0 by omega)
  have := many0_eq (n := n) h
  omega
def start (ns : List Int) : List T3 := (List.range ns.length).map fun i => (ns.getD i 0, (i : Int), .leaf (i : Int))
theorem start_len (ns : List Int) : (start ns).length = ns.length := by unfold start; simp
theorem start_nd (ns : List Int) : ((start ns).map (·.2.1)).Nodup := by
  unfold start
  rw [List.map_map]
  refine List.Pairwise.map _ (fun a b h => ?_) List.nodup_range
  intro z
  exact h (by simp only [Function.comp_apply] at z; omega)
theorem start_mem {ns : List Int} {e : T3} (h : e ∈ start ns) : ∃ i : Nat, i < ns.length ∧ e = (ns.getD i 0, (i : Int), .leaf (i : Int)) := by
  unfold start at h
  obtain ⟨i, hi, rfl⟩ := List.mem_map.mp h
  exact ⟨i, List.mem_range.mp hi, rfl⟩
theorem start_fit (ns : List Int) : (∀ e ∈ start ns, e.1 = tSz ns e.2.2) ∧ 0 = tCos ns (trs (start ns)) ∧ tOks ns.length (trs (start ns)) ∧ tGds (trs (start ns)) ∧ tLfs (trs (start ns)) = ns.length := by
  have et : trs (start ns) = (List.range ns.length).map fun i : Nat => PT.leaf (i : Int) := by unfold trs start; rw [List.map_map]; rfl
  refine ⟨fun e h => ?_, ?_, ?_, ?_, ?_⟩
  · obtain ⟨i, hi, rfl⟩ := start_mem h
    show _ = ns.getD (i : Int).toNat 0
    rw [Int.toNat_natCast]
  · rw [et, ← sum_tCo, List.map_map]
    have : ∀ l : List Nat, (l.map ((tCo ns) ∘ fun i : Nat => PT.leaf (i : Int))).sum = 0 := by
      intro l
      induction l with
      | nil => rfl
      | cons x r ih => rw [List.map_cons, List.sum_cons, ih]; rfl
    rw [this]
  · rw [et, tOks_iff]
    intro t ht
    obtain ⟨i, hi, rfl⟩ := List.mem_map.mp ht
    have := List.mem_range.mp hi
    show 0 ≤ (i : Int) ∧ (i : Int) < _
    omega
  · rw [et, tGds_iff]
    intro t ht
    obtain ⟨i, hi, rfl⟩ := List.mem_map.mp ht
    exact ⟨by show 0 + 1 ≤ 1; omega, by show 1 + 1 ≤ 2 * 1; omega⟩
  · rw [et]
    have : ∀ l : List Nat, tLfs (l.map fun i : Nat => PT.leaf (i : Int)) = l.length := by
      intro l
      induction l with
      | nil => rfl
      | cons x r ih => show 1 + tLfs _ = _; rw [ih, List.length_cons]; omega
    rw [this, List.length_range]
theorem start_at {ns : List Int} {i : Nat} (h : i < ns.length) : (start ns)[i]? = some (ns.getD i 0, (i : Int), .leaf (i : Int)) := by
  unfold start
  rw [List.getElem?_map, List.getElem?_range h]
  rfl
theorem perm3 {ts' ts : TupL} {E : List T3} (hE : ts.map (·.2) = E.map k2) (pm : ts'.Perm ts) (pw : ts'.Pairwise (fun a b => lexB b.2 a.2 = false)) : ∃ E', E'.Perm E ∧ ts'.map (·.2) = E'.map k2 ∧ Ord3 E' := by
  obtain ⟨E', p, e⟩ := perm_map k2 (pm.map (·.2)) E hE
  refine ⟨E', p, e, ?_⟩
  have : (ts'.map (·.2)).Pairwise (fun a b => lexB b a = false) := List.pairwise_map.mpr pw
  rw [e] at this
  exact List.pairwise_map.mp this
theorem keyed_at {ts : TupL} {L : List T3} (h : ts.map (·.2) = L.map k2) {i : Nat} {t : Addr × List Key} (ht : ts[i]? = some t) : ∃ e, L[i]? = some e ∧ t.2 = k2 e := by
  have := congrArg (fun z => z[i]?) h
  simp only [List.getElem?_map, ht, Option.map_some] at this
  cases hL : L[i]? with
  | none => rw [hL] at this; cases this
  | some e => rw [hL] at this; exact ⟨e, rfl, Option.some.inj this⟩
theorem keyed_len {ts : TupL} {L : List T3} (h : ts.map (·.2) = L.map k2) : ts.length = L.length := by
  have := congrArg List.length h
  rw [List.length_map, List.length_map] at this
  exact this
theorem sum3_app (A B : List T3) : sum3 (A ++ B) = sum3 A + sum3 B := by unfold sum3; rw [List.map_append, List.sum_append]
theorem sum3_nn : ∀ {L : List T3}, (∀ e ∈ L, 0 ≤ e.1) → 0 ≤ sum3 L
  | [], _ => Int.le_refl _
  | e :: r, h => by
    have h1 := h e (by simp)
    have h2 := sum3_nn (L := r) fun x hx => h x (List.mem_cons_of_mem _ hx)
    show 0 ≤ (e.1 :: r.map (·.1)).sum
    rw [List.sum_cons]
    have : sum3 r = (r.map (·.1)).sum := rfl
    omega
theorem sum3_mem : ∀ {L : List T3}, (∀ e ∈ L, 0 ≤ e.1) → ∀ e ∈ L, e.1 ≤ sum3 L
  | [], _, e, he => by cases he
  | x :: r, h, e, he => by
    have h1 := h x (by simp)
    have h2 := sum3_nn (L := r) fun x hx => h x (List.mem_cons_of_mem _ hx)
    have e3 : sum3 (x :: r) = x.1 + sum3 r := by show (x.1 :: r.map (·.1)).sum = _; rw [List.sum_cons]; rfl
    rcases List.mem_cons.mp he with rfl | he
    · omega
    · have := sum3_mem (L := r) (fun x hx => h x (List.mem_cons_of_mem _ hx)) e he
      omega
theorem sum3_perm {A B : List T3} (h : A.Perm B) : sum3 A = sum3 B := perm_sum (h.map _)
theorem start_sum {ns : List Int} (hn : ns.length ≤ 12) (h : ∀ v ∈ ns, 0 ≤ v ∧ v ≤ 1000000000) : (∀ e ∈ start ns, 0 ≤ e.1) ∧ sum3 (start ns) ≤ 12000000000 := by
  have g : ∀ i, i < ns.length → 0 ≤ ns.getD i 0 ∧ ns.getD i 0 ≤ 1000000000 := fun i hi => by
    rw [List.getD_eq_getElem?_getD, List.getElem?_eq_getElem hi]
    exact h _ (List.getElem_mem hi)
  refine ⟨fun e he => ?_, ?_⟩
  · obtain ⟨i, hi, rfl⟩ := start_mem he
    exact (g i hi).1
  · have : ∀ l : List T3, (∀ e ∈ l, e.1 ≤ 1000000000) → sum3 l ≤ 1000000000 * l.length := by
      intro l
      induction l with
      | nil => intro _; exact Int.le_refl _
      | cons x r ih =>
        intro hx
        have h1 := hx x (by simp)
        have h2 := ih fun e he => hx e (List.mem_cons_of_mem _ he)
        have e3 : sum3 (x :: r) = x.1 + sum3 r := by show (x.1 :: r.map (·.1)).sum = _; rw [List.sum_cons]; rfl
        rw [e3, List.length_cons]
        omega
    have := this (start ns) fun e he => by
      obtain ⟨i, hi, rfl⟩ := start_mem he
      exact (g i hi).2
    rw [start_len] at this
    omega
def spFree (K : PySem.W.Frag) : Sp := fun vs H Q _ => ∃ (a : Addr) (ns : List Int) (wy : Nat), vs = [.ref a, .int wy] ∧ SqL K H a (ns.map V.int) ∧ 1 ≤ ns.length ∧ ns.length ≤ 12 ∧ (∀ v ∈ ns, 0 ≤ v ∧ v ≤ 1000000000) ∧ 2 ≤ wy ∧ wy ≤ 6 ∧
  ∀ (r : Addr) (x : V) (C : Int) (t : PT) (H' : Hp), H r = none → H' r = some (.tup [.int C, x]) → TV H' x t → Fr wy (start ns) ns.length (many0 ns.length wy) 0 (C, t) → Same H H' → Q (.ref r) H'
theorem cutV_to (xs : List V) (d : Nat) : cutV xs none (some (d : Int)) = xs.take d := by
  unfold cutV
  rw [HT.sIx_nat, HT.sIx_none, List.drop_zero, Nat.sub_zero]
  by_cases h : d ≤ xs.length
  · rw [Nat.min_eq_left h]
  · rw [Nat.min_eq_right (by omega), List.take_of_length_le (Nat.le_refl _), List.take_of_length_le (by omega)]
theorem cutV_fr (xs : List V) (d : Nat) : cutV xs (some (d : Int)) none = xs.drop d := by
  unfold cutV
  rw [HT.sIx_nat, HT.sIx_none, List.take_of_length_le (by rw [List.length_drop]; omega)]
  by_cases h : d ≤ xs.length
  · rw [Nat.min_eq_left h]
  · rw [Nat.min_eq_right (by omega), List.drop_eq_nil_of_le (Nat.le_refl _), List.drop_eq_nil_of_le (by omega)]
theorem refs_take (ts : TupL) (d : Nat) : (refs ts).take d = refs (ts.take d) := by unfold refs; rw [List.map_take]
theorem refs_drop (ts : TupL) (d : Nat) : (refs ts).drop d = refs (ts.drop d) := by unfold refs; rw [List.map_drop]
theorem refs_len (ts : TupL) : (refs ts).length = ts.length := by unfold refs; rw [List.length_map]
theorem at_last {xs : List V} {x : V} (h : xs[xs.length - 1]? = some x) (h0 : 0 < xs.length) : atI xs (-1) = some x := by
  have e : ixN xs.length (-1) = some (xs.length - 1) := by
    unfold ixN
    rw [if_neg (by decide), if_pos (by omega)]
    congr 1
    omega
  unfold atI
  rw [e]
  exact h
theorem TVs.get {H : Hp} : ∀ {xs : List V} {l : List PT} {i : Nat} {t : PT}, TVs H xs l → l[i]? = some t → ∃ x, xs[i]? = some x ∧ TV H x t
  | _, _, 0, _, .cons h _, e => by cases e; exact ⟨_, rfl, h⟩
  | _, _, i + 1, _, .cons _ h, e => TVs.get (i := i) h e
structure At3 (ns : List Int) (wy : Nat) (H0 H : Hp) (th tr : Addr) (ts : TupL) (L : List T3) (xs : List V) (pts : List PT) (c : Int) (mm : Nat) : Prop where
  hth : H th = some (.lst (refs ts))
  att : AtT H ts
  key : ts.map (·.2) = L.map k2
  od : Ord3 L
  nd : (L.map (·.2.1)).Nodup
  htr : H tr = some (.lst xs)
  tv : TVs H xs pts
  ix : ∀ e ∈ L, ∃ i : Nat, e.2.1 = (i : Int) ∧ pts[i]? = some e.2.2
  la : ∃ e ∈ L, e.2.1 + 1 = (pts.length : Int)
  ne : th ≠ tr
  t0 : H0 th = none
  r0 : H0 tr = none
  sm : Same H0 H
  m2 : 2 ≤ mm
  sz : ∀ e ∈ L, 0 ≤ e.1
  su : sum3 L ≤ 12000000000
  ln : L.length + pts.length ≤ 24
  res : ∀ R, Fr wy L (pts.length : Int) mm c R → Fr wy (start ns) (ns.length : Int) (many0 ns.length wy) 0 R
theorem k2_shape {ts : TupL} {L : List T3} (h : ts.map (·.2) = L.map k2) : ∀ t ∈ ts, shape t.2 = [true, true] := fun t ht => by
  have : t.2 ∈ L.map k2 := by rw [← h]; exact List.mem_map_of_mem (f := fun t : Addr × List Key => t.2) ht
  obtain ⟨e, _, e2⟩ := List.mem_map.mp this
  rw [← e2]; rfl
theorem ok_free (T : Tops K mg) : Df P w K mg base 1 "free_plan" ["sizes", "ways"] (spFree K) := by
  refine T.t_free_plan.df sc_free_plan (fun vs H Q E h => ?_) (fun cdv f A outer s H vs Q E hr h => ?_)
  · obtain ⟨a, ns, wy, rfl, _⟩ := h
    rfl
  obtain ⟨a, ns, wy, rfl, hS, n1, n12, hns, w2, w6, q⟩ := h
  refine ⟨_, (@pss_cons _ _ _ _ _ (@ps_set _ _ 2 _ _ _ _ sc_free_plan.nd rfl (Or.inl rfl) (@pe_callB _ _ _ _ _ _ _ _ _ (srtT K) (by rfl) T.b.n_sorted boot_sorted (@pa_cons _ _ _ _ _ (@pe_comp _ _ _ _ _ _ _ _ _ _ _ _ _ _ cs_1 rfl rfl rfl (@iE _ K _ _ _ _ _ _ _ T.b.n_enumerate (@pa_cons _ _ _ _ _ (@pv _ 0 _ _ (by rfl) (Or.inl rfl) (by decide) (by decide)) (@pa_nil _) (by rfl)) (by rfl) (by rfl) (by rfl)) (fun _ _ _ _ => (@gT _ K _ _ _ 2 _ (@pgs_cons _ _ _ _ _ (@cg _ _ _ _ _ _ _ _ _ _ _ 8 cs_1 rfl (by decide +kernel) (by rfl)) (@pgs_cons _ _ _ _ _ (@cg _ _ _ _ _ _ _ _ _ _ _ 9 cs_1 rfl (by decide +kernel) (by rfl)) (@pgs_nil _) (by rfl)) (by rfl)) (by rfl) (by rfl) (by rfl) (by rfl))) (fun _ _ _ _ => (@pts_nil _)) (fun _ _ _ _ => (@pe_tup _ _ _ _ _ (@pa_cons _ _ _ _ _ (@cw _ _ _ _ _ _ _ _ _ _ _ 9 cs_1 rfl (by decide +kernel) (by rfl) (by decide) (by decide)) (@pa_cons _ _ _ _ _ (@cw _ _ _ _ _ _ _ _ _ _ _ 8 cs_1 rfl (by decide +kernel) (by rfl) (by decide) (by decide)) (@pa_nil _) (by rfl)) (by rfl)))) (by intro _; rfl)) (@pa_nil _) (by rfl)) (by decide) (by decide) (by rfl) (by rfl)) (by rfl) (by first | exact .inl rfl | exact .inr rfl)) (@pss_cons _ _ _ _ _ (@ps_set _ _ 3 _ _ _ _ sc_free_plan.nd rfl (Or.inr rfl) (@pe_callTy _ _ _ _ _ _ _ _ _ listR (by rfl) T.b.n_list boot_list (@pa_cons _ _ _ _ _ (@pe_callTy _ _ _ _ _ _ _ _ _ rng1 (by rfl) T.b.n_range boot_range (@pa_cons _ _ _ _ _ (@pe_callB _ _ _ _ _ _ _ _ _ (lenQ K) (by rfl) T.b.n_len PySem.boot_len (@pa_cons _ _ _ _ _ (@pv _ 0 _ _ (by rfl) (Or.inl rfl) (by decide) (by decide)) (@pa_nil _) (by rfl)) (by decide) (by decide) (by rfl) (by rfl)) (@pa_nil _) (by rfl)) (by decide) (by decide) (by rfl) (by rfl)) (@pa_nil _) (by rfl)) (by decide) (by decide) (by rfl) (by rfl)) (by rfl) (by first | exact .inl rfl | exact .inr rfl)) (@pss_cons _ _ _ _ _ (@ps_set _ _ 4 _ _ _ _ sc_free_plan.nd rfl (Or.inl rfl) (@pe_int _ _ _ _) (by rfl) (by first | exact .inl rfl | exact .inr rfl)) (@pss_cons _ _ _ _ _ (@ps_set _ _ 5 _ _ _ _ sc_free_plan.nd rfl (Or.inl rfl) (@pe_op _ _ _ _ _ _ _ _ op_add (@pe_int _ _ _ _) (@pe_op _ _ _ _ _ _ _ _ op_mod (@pe_op _ _ _ _ _ _ _ _ op_sub (@pe_callB _ _ _ _ _ _ _ _ _ (lenQ K) (by rfl) T.b.n_len PySem.boot_len (@pa_cons _ _ _ _ _ (@pv _ 0 _ _ (by rfl) (Or.inl rfl) (by decide) (by decide)) (@pa_nil _) (by rfl)) (by decide) (by decide) (by rfl) (by rfl)) (@pe_int _ _ _ _)) (@pe_op _ _ _ _ _ _ _ _ op_sub (@pv _ 1 _ _ (by rfl) (Or.inl rfl) (by decide) (by decide)) (@pe_int _ _ _ _)))) (by rfl) (by first | exact .inl rfl | exact .inr rfl)) (@pss_cons _ _ _ _ _ (@ps_while _ _ _ _ _ _ PassesOwn.never (@pt_cmpR _ _ _ _ _ _ _ _ op_gt (@pe_callB _ _ _ _ _ _ _ _ _ (lenQ K) (by rfl) T.b.n_len PySem.boot_len (@pa_cons _ _ _ _ _ (@pv _ 2 _ _ (by rfl) (Or.inl rfl) (by decide) (by decide)) (@pa_nil _) (by rfl)) (by decide) (by decide) (by rfl) (by rfl)) (@pe_int _ _ _ _) (nomark _)) (@pss_cons _ _ _ _ _ (@ps_set _ _ 6 _ _ _ _ sc_free_plan.nd rfl (Or.inl rfl) (@pe_slice _ _ _ _ _ _ _ _ _ _ (slL K) (@pv _ 2 _ _ (by rfl) (Or.inl rfl) (by decide) (by decide)) (@po_none _) (@po_some _ _ _ (@pv _ 5 _ _ (by rfl) (Or.inl rfl) (by decide) (by decide)))) (by rfl) (by first | exact .inl rfl | exact .inr rfl)) (@pss_cons _ _ _ _ _ (@ps_set _ _ 7 _ _ _ _ sc_free_plan.nd rfl (Or.inl rfl) (@pe_callB _ _ _ _ _ _ _ _ _ (sumC K) (by rfl) T.b.n_sum boot_sum (@pa_cons _ _ _ _ _ (@pe_comp _ _ _ _ _ _ _ _ _ _ _ _ _ _ cs_2 rfl rfl rfl (@iL _ K _ _ _ (@pv _ 6 _ _ (by rfl) (Or.inl rfl) (by decide) (by decide)) (by rfl)) (fun _ _ _ _ => (@cg _ _ _ _ _ _ _ _ _ _ _ 8 cs_2 rfl (by decide +kernel) (by rfl))) (fun _ _ _ _ => (@pts_nil _)) (fun _ _ _ _ => (@pe_ix _ _ _ _ _ _ _ (ixT K) (@cw _ _ _ _ _ _ _ _ _ _ _ 8 cs_2 rfl (by decide +kernel) (by rfl) (by decide) (by decide)) (@pe_int _ _ _ _) (fun _ _ => rfl))) (by intro _; rfl)) (@pa_nil _) (by rfl)) (by decide) (by decide) (by rfl) (by rfl)) (by rfl) (by first | exact .inl rfl | exact .inr rfl)) (@pss_cons _ _ _ _ _ (@ps_set _ _ 2 _ _ _ _ sc_free_plan.nd rfl (Or.inl rfl) (@pe_callB _ _ _ _ _ _ _ _ _ (srtT K) (by rfl) T.b.n_sorted boot_sorted (@pa_cons _ _ _ _ _ (@pe_op _ _ _ _ _ _ _ _ op_cat (@pe_slice _ _ _ _ _ _ _ _ _ _ (slL K) (@pv _ 2 _ _ (by rfl) (Or.inl rfl) (by decide) (by decide)) (@po_some _ _ _ (@pv _ 5 _ _ (by rfl) (Or.inl rfl) (by decide) (by decide))) (@po_none _)) (@pe_lst _ _ _ _ (@pa_cons _ _ _ _ _ (@pe_tup _ _ _ _ _ (@pa_cons _ _ _ _ _ (@pv _ 7 _ _ (by rfl) (Or.inl rfl) (by decide) (by decide)) (@pa_cons _ _ _ _ _ (@pe_callB _ _ _ _ _ _ _ _ _ (lenQ K) (by rfl) T.b.n_len PySem.boot_len (@pa_cons _ _ _ _ _ (@pv _ 3 _ _ (by rfl) (Or.inr (Or.inl rfl)) (by decide) (by decide)) (@pa_nil _) (by rfl)) (by decide) (by decide) (by rfl) (by rfl)) (@pa_nil _) (by rfl)) (by rfl))) (@pa_nil _) (by rfl)))) (@pa_nil _) (by rfl)) (by decide) (by decide) (by rfl) (by rfl)) (by rfl) (by first | exact .inl rfl | exact .inr rfl)) (@pss_cons _ _ _ _ _ (@ps_expr _ _ _ _ (@pe_bm _ _ _ _ _ _ _ _ _ _ _ _ PySem.F.plainAttrs_list PySem.F.slot_list_append PySem.F.type_list_append mt_append (@pv _ 3 _ _ (by rfl) (Or.inr (Or.inl rfl)) (by decide) (by decide)) (@pa_cons _ _ _ _ _ (@pe_callTy _ _ _ _ _ _ _ _ _ (tupQ K) (by rfl) T.b.n_tuple boot_tuple (@pa_cons _ _ _ _ _ (@pe_comp _ _ _ _ _ _ _ _ _ _ _ _ _ _ cs_3 rfl rfl rfl (@iL _ K _ _ _ (@pv _ 6 _ _ (by rfl) (Or.inl rfl) (by decide) (by decide)) (by rfl)) (fun _ _ _ _ => (@cg _ _ _ _ _ _ _ _ _ _ _ 8 cs_3 rfl (by decide +kernel) (by rfl))) (fun _ _ _ _ => (@pts_nil _)) (fun _ _ _ _ => (@pe_ix _ _ _ _ _ _ _ (ixL K) (@cv _ _ _ _ _ _ _ _ _ _ _ 3 cs_3 rfl (by decide +kernel) (by rfl) (by decide) (by decide)) (@pe_ix _ _ _ _ _ _ _ (ixT K) (@cw _ _ _ _ _ _ _ _ _ _ _ 8 cs_3 rfl (by decide +kernel) (by rfl) (by decide) (by decide)) (@pe_int _ _ _ _) (fun _ _ => rfl)) (fun _ _ => rfl))) (by intro _; rfl)) (@pa_nil _) (by rfl)) (by decide) (by decide) (by rfl) (by rfl)) (@pa_nil _) (by rfl)) (by rfl) (by rfl) (by rfl) (by rfl) (by rfl)) (by rfl)) (@pss_cons _ _ _ _ _ (@ps_aug _ _ 4 _ _ _ _ _ _ sc_free_plan.nd rfl (Or.inl rfl) (@pv _ 7 _ _ (by rfl) (Or.inl rfl) (by decide) (by decide)) ip_add (by first | exact .inl rfl | exact .inr rfl)) (@pss_one _ _ _ (@ps_set _ _ 5 _ _ _ _ sc_free_plan.nd rfl (Or.inl rfl) (@pv _ 1 _ _ (by rfl) (Or.inl rfl) (by decide) (by decide)) (by rfl) (by first | exact .inl rfl | exact .inr rfl))))))))) (@pss_one _ _ _ (@ps_ret _ _ _ _ (@pe_tup _ _ _ _ _ (@pa_cons _ _ _ _ _ (@pv _ 4 _ _ (by rfl) (Or.inl rfl) (by decide) (by decide)) (@pa_cons _ _ _ _ _ (@pe_ix _ _ _ _ _ _ _ (ixL K) (@pv _ 3 _ _ (by rfl) (Or.inr (Or.inl rfl)) (by decide) (by decide)) (@pe_un _ _ _ _ _ _ un_neg (@pe_int _ _ _ _)) (fun _ _ => rfl)) (@pa_nil _) (by rfl)) (by rfl)))))))))), ?_⟩
  refine ⟨_, rfl, a, ns.map V.int, rfl, hS, fun D hD => ?_⟩
  refine comp_enum (K := K) (a := a) (xs := ns.map V.int) (fun i zs σ H2 => (∃ v1 v2 : Option V, σ = [some (.ref a), some (.int wy), none, none, none, none, none, none, v1, v2]) ∧ (∃ ts : TupL, zs = refs ts ∧ AtT H2 ts ∧ ts.length = i ∧ ts.map (·.2) = ((start ns).take i).map k2) ∧ i ≤ ns.length ∧ H2 D = some (.lst zs) ∧ Same H H2) ?_ (fun _ _ _ _ h => h.2.2.2.2.seq hS) ?_ ?_
  · exact ⟨⟨none, none, rfl⟩, ⟨[], rfl, (fun t h => by cases h), rfl, rfl⟩, Nat.zero_le _, upd_same, same_new hD _⟩
  · rintro i zs σ H2 x p hx ⟨⟨v1, v2, rfl⟩, ⟨ts, rfl, hat, htl, hE⟩, hi', hD2, s2⟩ hp
    rw [List.getElem?_map] at hx
    cases hy : ns[i]? with
    | none => rw [hy] at hx; cases hx
    | some y =>
      rw [hy] at hx
      cases hx
      have hil : i < ns.length := (List.getElem?_eq_some_iff.mp hy).1
      have sp := same_new hp (.tup [.int i, .int y])
      have hp3 : (upd H2 p (.tup [.int i, .int y])) p = some (.tup [.int i, .int y]) := upd_same
      have hD3 := sp _ _ hD2
      have hat3 := AtT.mono hat sp
      have s3 := s2.trans sp
      generalize upd H2 p (.tup [.int i, .int y]) = H3 at hp3 hD3 hat3 s3 ⊢
      refine ⟨p, _, rfl, SqT.of hp3, rfl, _, _, rfl, _, _, rfl, rfl, ?_⟩
      refine ⟨_, rfl, _, rfl, (by show 2 ≤ sizeLine; decide), fun n hn0 => ?_⟩
      have sn := same_new hn0 (.tup [.int y, .int i])
      have hD4 := sn _ _ hD3
      have nDn : D ≠ n := ne_of_none hD3 hn0
      have ey : ns.getD i 0 = y := by rw [List.getD_eq_getElem?_getD, hy]; rfl
      refine ⟨hD4, (by rw [refs_len, htl]; exact small1000 (by omega)), ⟨_, _, rfl⟩, ⟨ts ++ [(n, [.inl y, .inl (i : Int)])], by unfold refs; rw [List.map_append]; rfl, fun t ht => ?_, by rw [List.length_append, List.length_singleton]; omega, ?_⟩, by omega, upd_same, fun b o hb => ?_⟩
      · rcases List.mem_append.mp ht with ht | ht
        · exact tup_keep hD4 _ _ _ (sn _ _ (hat3 t ht))
        · rw [List.mem_singleton.mp ht, upd_ne nDn.symm]; exact upd_same
      · rw [List.map_append, hE, List.take_add_one, start_at hil, List.map_append, ey]
        rfl
      · rw [upd_ne (ne_of_none hb hD)]; exact sn _ _ (s3 b o hb)
  rintro zs σ H2 ⟨⟨v1, v2, rfl⟩, ⟨ts0, rfl, hat0, htl0, hE0⟩, _, hD2, s2⟩
  rw [List.length_map] at hE0 htl0
  rw [List.take_of_length_le (by rw [start_len]; exact Nat.le_refl _)] at hE0
  refine ⟨D, ts0, [true, true], rfl, SqL.of hD2, hat0, by simp, k2_shape hE0, by omega, fun th ts hth pm pw => ?_⟩
  obtain ⟨L0, pL, hL0, oL⟩ := perm3 hE0 pm pw
  have s3 := s2.trans (same_new hth (.lst (refs ts)))
  have hth3 : (upd H2 th (.lst (refs ts))) th = some (.lst (refs ts)) := upd_same
  have hat3 : AtT (upd H2 th (.lst (refs ts))) ts := fun t ht => same_new hth _ _ _ (hat0 t (pm.mem_iff.mp ht))
  have hth0 : H th = none := s2.free hth
  generalize upd H2 th (.lst (refs ts)) = H3 at s3 hth3 hat3 ⊢
  have hl : (((ns.map V.int).length : Nat) : Int) = (ns.length : Int) := by rw [List.length_map]
  refine ⟨_, rfl, a, _, rfl, .inl (s3.seq hS), ?_⟩
  simp only [hl]
  refine ⟨_, rfl, fun rg hrg => ⟨rg, 0, _, rfl, upd_same, by omega, by omega, by omega, by omega, by omega, fun tr htr => ?_⟩⟩
  rw [show (((ns.length : Int) - 0).toNat) = ns.length by omega]
  have s4 : Same H3 (upd (upd H3 rg (.rng 0 (ns.length : Int))) tr (.lst ((upsI 0 ns.length).map V.int))) := (same_new hrg _).trans (same_new htr _)
  have htr4 : (upd (upd H3 rg (.rng 0 (ns.length : Int))) tr (.lst ((upsI 0 ns.length).map V.int))) tr = some (.lst ((upsI 0 ns.length).map V.int)) := upd_same
  have ntt : th ≠ tr := ne_of_none ((same_new hrg _) _ _ hth3) htr
  have htr0 : H tr = none := s3.free ((same_new hrg _).free htr)
  generalize upd (upd H3 rg (.rng 0 (ns.length : Int))) tr (.lst ((upsI 0 ns.length).map V.int)) = H4 at s4 htr4 ⊢
  have s04 := s3.trans s4
  refine ⟨_, rfl, a, _, rfl, .inl (s04.seq hS), _, _, rfl, rfl, _, rfl, _, _, rfl, rfl, _, _, rfl, rfl, by omega, _, _, rfl, rfl, ?_⟩
  have hm0 := many0_eq (n := ns.length) w2
  simp only [hl, hm0]
  obtain ⟨b1, b2⟩ := start_sum n12 hns
  have at0 : At3 ns wy H H4 th tr ts L0 ((upsI 0 ns.length).map V.int) ((upsI 0 ns.length).map PT.leaf) 0 (many0 ns.length wy) := by
    have hpl : ((upsI 0 ns.length).map PT.leaf).length = ns.length := by rw [List.length_map, upsI_len]
    refine ⟨s4 _ _ hth3, AtT.mono hat3 s4, hL0, oL, ((pL.map _).nodup_iff).mpr (start_nd ns), htr4, ?_, fun e he => ?_, ?_, ntt, hth0, htr0, s04, many0_ge w2, fun e he => b1 e (pL.mem_iff.mp he), by rw [sum3_perm pL]; exact b2, by rw [pL.length_eq, start_len, hpl]; omega, fun R hR => ?_⟩
    · generalize upsI 0 ns.length = ks
      induction ks with
      | nil => exact .nil
      | cons k r ih => exact .cons (.leaf k) ih
    · obtain ⟨i, hi, rfl⟩ := start_mem (pL.mem_iff.mp he)
      refine ⟨i, rfl, ?_⟩
      unfold upsI
      rw [List.map_map, List.getElem?_map, List.getElem?_range hi]
      simp
    · refine ⟨(ns.getD (ns.length - 1) 0, ((ns.length - 1 : Nat) : Int), .leaf ((ns.length - 1 : Nat) : Int)), pL.mem_iff.mpr (List.mem_of_getElem? (start_at (by omega))), ?_⟩
      rw [hpl]
      show ((ns.length - 1 : Nat) : Int) + 1 = _
      omega
    · rw [hpl] at hR
      exact Fr.perm pL.symm hR
  clear hth3 hat3 s3 hE0 hat0 hD2 s2 pm pw hth hD htl0 htr4
  refine ⟨fun m σ H5 => ∃ (th tr : Addr) (ts : TupL) (L : List T3) (xs : List V) (pts : List PT) (c : Int) (mm : Nat) (v6 v7 : Option V), σ = [some (.ref a), some (.int wy), some (.ref th), some (.ref tr), some (.int c), some (.int mm), v6, v7] ∧ At3 ns wy H H5 th tr ts L xs pts c mm ∧ m = L.length, ⟨_, th, tr, ts, L0, _, _, 0, _, none, none, rfl, at0, rfl⟩, ?_⟩
  clear at0 ntt hth0 htr0 s4 s04 hL0 oL pL
  rintro m σ H5 ⟨th, tr, ts, L, xs, pts, c, mm, v6, v7, rfl, h, rfl⟩
  have htl := keyed_len h.key
  have hxl := h.tv.len
  have hln := h.ln
  have hm2 := h.m2
  refine ⟨_, rfl, th, _, rfl, .inl (SqL.of h.hth), _, _, rfl, rfl, _, rfl, ite2 (fun d => ?_) (fun d => ?_)⟩
  · have d' : (1 : Int) < (((refs ts).length : Nat) : Int) := of_decide_eq_true d
    rw [refs_len] at d'
    have hL1 : 1 < L.length := by omega
    refine ⟨_, fun σ' H' h => h, ?_⟩
    refine ⟨_, rfl, _, rfl, _, rfl, th, _, rfl, SqL.of h.hth, fun tg htg => ?_⟩
    rw [cutV_to, refs_take]
    have s6 := same_new htg (.lst (refs (ts.take mm)))
    have htg6 : (upd H5 tg (.lst (refs (ts.take mm)))) tg = some (.lst (refs (ts.take mm))) := upd_same
    generalize upd H5 tg (.lst (refs (ts.take mm))) = H6 at s6 htg6 ⊢
    have keyT : (ts.take mm).map (·.2) = (L.take mm).map k2 := by rw [List.map_take, h.key, List.map_take]
    have attT : AtT H6 (ts.take mm) := fun t ht => s6 _ _ (h.att t (List.mem_of_mem_take ht))
    have hTl := keyed_len keyT
    have hT12 : (L.take mm).length ≤ 24 := by rw [List.length_take]; omega
    have szT : ∀ e ∈ L.take mm, 0 ≤ e.1 := fun e he => h.sz e (List.mem_of_mem_take he)
    have sum_split : sum3 L = sum3 (L.take mm) + sum3 (L.drop mm) := by rw [← sum3_app, List.take_append_drop]
    have nnD : 0 ≤ sum3 (L.drop mm) := sum3_nn fun e he => h.sz e (List.mem_of_mem_drop he)
    have nnT : 0 ≤ sum3 (L.take mm) := sum3_nn szT
    have hsu := h.su
    refine ⟨_, rfl, tg, rfl, ⟨_, SqL.of htg6⟩, fun D hD => ?_⟩
    refine comp_list (K := K) (a := tg) (xs := refs (ts.take mm)) (fun i zs σ H7 => (∃ v : Option V, σ = [some (.ref a), some (.int wy), some (.ref th), some (.ref tr), some (.int c), some (.int mm), some (.ref tg), v7, v]) ∧ zs = (((L.take mm).take i).map (·.1)).map V.int ∧ i ≤ (ts.take mm).length ∧ H7 D = some (.lst zs) ∧ Same H6 H7) ?_ (fun _ _ _ _ h => SqL.of (h.2.2.2.2 _ _ htg6)) ?_ ?_
    · exact ⟨⟨none, rfl⟩, rfl, Nat.zero_le _, upd_same, same_new hD _⟩
    · rintro i x zs σ H7 hx ⟨⟨v, rfl⟩, rfl, hi, hD7, s7⟩
      unfold refs at hx
      rw [List.getElem?_map] at hx
      cases hz : (ts.take mm)[i]? with
      | none => rw [hz] at hx; cases hx
      | some t =>
        rw [hz] at hx
        cases hx
        have hil : i < (ts.take mm).length := (List.getElem?_eq_some_iff.mp hz).1
        obtain ⟨e, he, et⟩ := keyed_at keyT hz
        have hH := s7 _ _ (attT t (List.mem_of_getElem? hz))
        rw [et] at hH
        refine ⟨_, rfl, t.1, _, _, _, rfl, rfl, SqT.of hH, rfl, hD7, (by rw [List.length_map, List.length_map, List.length_take]; exact small1000 (by omega)), ⟨_, rfl⟩, ?_, hil, upd_same, fun b o hb => ?_⟩
        · rw [List.take_add_one, he, List.map_append, List.map_append]; rfl
        · rw [upd_ne (ne_of_none hb hD)]; exact s7 b o hb
    rintro zs σ H7 ⟨⟨v, rfl⟩, rfl, _, hD7, s7⟩
    rw [refs_len, List.take_of_length_le (by omega)] at hD7
    refine ⟨D, (L.take mm).map (·.1), rfl, SqL.of hD7, by rw [List.length_map]; omega, fun n hn => ?_, ?_⟩
    · obtain ⟨e, he, rfl⟩ := List.mem_map.mp hn
      have a1 := szT e he
      have a2 := sum3_mem szT e he
      exact ⟨a1, by omega⟩
    have s57 := s6.trans s7
    have hth7 := s57 _ _ h.hth
    have htr7 := s57 _ _ h.htr
    refine ⟨_, rfl, _, rfl, _, rfl, th, _, rfl, SqL.of hth7, fun sl hsl => ?_⟩
    rw [cutV_fr, refs_drop]
    have s8 := same_new hsl (.lst (refs (ts.drop mm)))
    have hsl8 : (upd H7 sl (.lst (refs (ts.drop mm)))) sl = some (.lst (refs (ts.drop mm))) := upd_same
    generalize upd H7 sl (.lst (refs (ts.drop mm))) = H8 at s8 hsl8 ⊢
    refine ⟨_, rfl, _, rfl, tr, _, rfl, .inl (SqL.of (s8 _ _ htr7)), (by show 2 ≤ sizeLine; decide), fun n1 hn1 => ?_⟩
    have s9 := same_new hn1 (.tup [.int ((L.take mm).map (·.1)).sum, .int ((xs.length : Nat) : Int)])
    have hn19 : (upd H8 n1 (.tup [.int ((L.take mm).map (·.1)).sum, .int ((xs.length : Nat) : Int)])) n1 = some (.tup [.int ((L.take mm).map (·.1)).sum, .int ((xs.length : Nat) : Int)]) := upd_same
    generalize upd H8 n1 (.tup [.int ((L.take mm).map (·.1)).sum, .int ((xs.length : Nat) : Int)]) = H9 at s9 hn19 ⊢
    refine ⟨(by show 1 ≤ sizeLine; decide), fun l1 hl1 => ?_⟩
    have s10 := same_new hl1 (.lst [.ref n1])
    have hl10 : (upd H9 l1 (.lst [.ref n1])) l1 = some (.lst [.ref n1]) := upd_same
    generalize upd H9 l1 (.lst [.ref n1]) = H10 at s10 hl10 ⊢
    have s810 := s9.trans s10
    refine ⟨sl, l1, _, _, rfl, rfl, s810 _ _ hsl8, hl10, (by rw [refs_len, List.length_drop]; exact Nat.le_of_lt (small1000 (by show ts.length - mm + 1 ≤ 1000; omega))), fun c1 hc1 => ?_⟩
    have ecat : refs (ts.drop mm) ++ [V.ref n1] = refs (ts.drop mm ++ [(n1, k2 (put3 (L.take mm) (pts.length : Int)))]) := by unfold refs; rw [List.map_append]; rfl
    rw [ecat]
    have s11 := same_new hc1 (.lst (refs (ts.drop mm ++ [(n1, k2 (put3 (L.take mm) (pts.length : Int)))])))
    have hc11 : (upd H10 c1 (.lst (refs (ts.drop mm ++ [(n1, k2 (put3 (L.take mm) (pts.length : Int)))])))) c1 = some (.lst (refs (ts.drop mm ++ [(n1, k2 (put3 (L.take mm) (pts.length : Int)))]))) := upd_same
    generalize upd H10 c1 (.lst (refs (ts.drop mm ++ [(n1, k2 (put3 (L.take mm) (pts.length : Int)))]))) = H11 at s11 hc11 ⊢
    have s711 : Same H7 H11 := (s8.trans s810).trans s11
    have s511 := s57.trans s711
    have key1 : (ts.drop mm ++ [(n1, k2 (put3 (L.take mm) (pts.length : Int)))]).map (·.2) = (L.drop mm ++ [put3 (L.take mm) (pts.length : Int)]).map k2 := by
      rw [List.map_append, List.map_append, List.map_drop, h.key, List.map_drop]; rfl
    have att1 : AtT H11 (ts.drop mm ++ [(n1, k2 (put3 (L.take mm) (pts.length : Int)))]) := fun t ht => by
      rcases List.mem_append.mp ht with ht | ht
      · exact s511 _ _ (h.att t (List.mem_of_mem_drop ht))
      · rw [List.mem_singleton.mp ht]
        have := (s10.trans s11) _ _ hn19
        rw [hxl] at this
        exact this
    have l1len := keyed_len key1
    have lnew : (L.drop mm ++ [put3 (L.take mm) (pts.length : Int)]).length + 1 ≤ L.length := by rw [List.length_append, List.length_drop, List.length_singleton]; omega
    refine ⟨c1, _, [true, true], rfl, SqL.of hc11, att1, by simp, k2_shape key1, by omega, fun t2 ts2 ht2 pm pw => ?_⟩
    obtain ⟨L2', pL2, key2, od2⟩ := perm3 key1 pm pw
    have s12 := same_new ht2 (.lst (refs ts2))
    have ht212 : (upd H11 t2 (.lst (refs ts2))) t2 = some (.lst (refs ts2)) := upd_same
    have att2 : AtT (upd H11 t2 (.lst (refs ts2))) ts2 := fun t ht => s12 _ _ (att1 t (pm.mem_iff.mp ht))
    have nt2r : t2 ≠ tr := (ne_of_none (s511 _ _ h.htr) ht2).symm
    have t20 : H t2 = none := h.sm.free (s511.free ht2)
    generalize upd H11 t2 (.lst (refs ts2)) = H12 at s12 ht212 att2 ⊢
    have s512 := s511.trans s12
    have s612 : Same H6 H12 := (s7.trans s711).trans s12
    have htr12 := s512 _ _ h.htr
    have tv12 : TVs H12 xs pts := h.tv.mono fun a xs e => s512 _ _ e
    refine ⟨_, rfl, .inl ⟨rfl, _, SqL.of htr12⟩, _, rfl, tg, rfl, ⟨_, SqL.of (s612 _ _ htg6)⟩, fun D2 hD2 => ?_⟩
    refine comp_list (K := K) (a := tg) (xs := refs (ts.take mm)) (fun i zs σ H13 => (∃ v : Option V, σ = [some (.ref a), some (.int wy), some (.ref t2), some (.ref tr), some (.int c), some (.int mm), some (.ref tg), some (.int ((L.take mm).map (·.1)).sum), v]) ∧ TVs H13 zs (((L.take mm).take i).map (·.2.2)) ∧ i ≤ (ts.take mm).length ∧ H13 D2 = some (.lst zs) ∧ Same H12 H13) ?_ (fun _ _ _ _ h => SqL.of (h.2.2.2.2 _ _ (s612 _ _ htg6))) ?_ ?_
    · exact ⟨⟨none, rfl⟩, .nil, Nat.zero_le _, upd_same, same_new hD2 _⟩
    · rintro i x zs σ H13 hx ⟨⟨v, rfl⟩, hzs, hi, hD13, s13⟩
      unfold refs at hx
      rw [List.getElem?_map] at hx
      cases hz : (ts.take mm)[i]? with
      | none => rw [hz] at hx; cases hx
      | some t =>
        rw [hz] at hx
        cases hx
        have hil : i < (ts.take mm).length := (List.getElem?_eq_some_iff.mp hz).1
        obtain ⟨e, he, et⟩ := keyed_at keyT hz
        have hH := s13 _ _ (s612 _ _ (attT t (List.mem_of_getElem? hz)))
        rw [et] at hH
        obtain ⟨j, ej, hj⟩ := h.ix e (List.mem_of_mem_take (List.mem_of_getElem? he))
        obtain ⟨y, hy, ty⟩ := TVs.get tv12 hj
        have hat : atI xs e.2.1 = some y := by rw [ej]; exact atI_nat hy
        refine ⟨_, rfl, _, rfl, t.1, _, _, _, rfl, rfl, SqT.of hH, rfl, tr, _, _, _, rfl, rfl, SqL.of (s13 _ _ htr12), hat, hD13, (by rw [hzs.len, List.length_map, List.length_take]; exact small1000 (by omega)), ⟨_, rfl⟩, ?_, hil, upd_same, fun b o hb => ?_⟩
        · rw [List.take_add_one, he, List.map_append]
          exact (TVs.app hzs (.cons (ty.mono fun a xs e => s13 _ _ e) .nil)).mono (tup_keep hD13 _)
        · rw [upd_ne (ne_of_none hb hD2)]; exact s13 b o hb
    rintro zs σ H13 ⟨⟨v, rfl⟩, hzs, _, hD13, s13⟩
    rw [refs_len, List.take_of_length_le (by omega)] at hzs
    have htr13 := s13 _ _ htr12
    refine ⟨D2, _, rfl, .inl ⟨SqL.of hD13, fun tt htt => ⟨tr, _, _, rfl, rfl, same_new htt _ _ _ htr13, small1000 (by omega), ?_⟩⟩⟩
    have s14 := same_new htt (.tup zs)
    have htt14 : (upd H13 tt (.tup zs)) tt = some (.tup zs) := upd_same
    have htr14 := s14 _ _ htr13
    generalize upd H13 tt (.tup zs) = H14 at s14 htt14 htr14 ⊢
    have s1214 := s13.trans s14
    have kept : ∀ b o, b ≠ tr → H14 b = some o → (upd H14 tr (.lst (xs ++ [.ref tt]))) b = some o := fun b o nb hb => by rw [upd_ne nb]; exact hb
    refine ⟨_, rfl, _, rfl, _, _, rfl, rfl, _, rfl, ?_⟩
    have hnode : TV H14 (.ref tt) (put3 (L.take mm) (pts.length : Int)).2.2 := .node htt14 (hzs.mono fun a xs e => s14 _ _ e)
    have hndL : ((L.drop mm ++ [put3 (L.take mm) (pts.length : Int)]).map (·.2.1)).Nodup := by
      rw [List.map_append, List.nodup_append]
      refine ⟨(List.Sublist.map _ (List.drop_sublist mm L)).nodup h.nd, by simp, fun x hx y hy e => ?_⟩
      obtain ⟨e1, he1, rfl⟩ := List.mem_map.mp hx
      obtain ⟨j, ej, hj⟩ := h.ix e1 (List.mem_of_mem_drop he1)
      have hjl := (List.getElem?_eq_some_iff.mp hj).1
      have : y = (pts.length : Int) := by simpa [put3] using hy
      omega
    have l2len := pL2.length_eq
    refine ⟨L2'.length, by omega, t2, tr, ts2, L2', xs ++ [.ref tt], pts ++ [(put3 (L.take mm) (pts.length : Int)).2.2], _, wy, _, _, rfl, ⟨kept _ _ nt2r (s1214 _ _ ht212), fun t ht => tup_keep htr14 _ _ _ (s1214 _ _ (att2 t ht)), key2, od2, ((pL2.map _).nodup_iff).mpr hndL, upd_same, ?_, fun e he => ?_, ?_, nt2r, t20, h.r0, fun b o hb => ?_, w2, fun e he => ?_, ?_, ?_, fun R hR => ?_⟩, rfl⟩
    · exact (TVs.app (tv12.mono fun a xs e => s1214 _ _ e) (.cons hnode .nil)).mono (tup_keep htr14 _)
    · rcases List.mem_append.mp (pL2.mem_iff.mp he) with he | he
      · obtain ⟨j, ej, hj⟩ := h.ix e (List.mem_of_mem_drop he)
        exact ⟨j, ej, by rw [List.getElem?_append_left (List.getElem?_eq_some_iff.mp hj).1]; exact hj⟩
      · rw [List.mem_singleton.mp he]
        exact ⟨pts.length, rfl, by rw [List.getElem?_append_right (Nat.le_refl _), Nat.sub_self]; rfl⟩
    · refine ⟨put3 (L.take mm) (pts.length : Int), pL2.mem_iff.mpr (by simp), ?_⟩
      rw [List.length_append, List.length_singleton]
      show (pts.length : Int) + 1 = _
      omega
    · rw [upd_ne (ne_of_none hb h.r0)]; exact s1214 _ _ (s512 _ _ (h.sm b o hb))
    · rcases List.mem_append.mp (pL2.mem_iff.mp he) with he | he
      · exact h.sz e (List.mem_of_mem_drop he)
      · rw [List.mem_singleton.mp he]; exact nnT
    · rw [sum3_perm pL2, sum3_app]
      have : sum3 [put3 (L.take mm) (pts.length : Int)] = sum3 (L.take mm) := by show (sum3 (L.take mm) + 0 : Int) = _; omega
      omega
    · rw [List.length_append, List.length_singleton]; omega
    · refine h.res R (.step hL1 (.refl _) h.nd h.od ?_)
      rw [List.length_append, List.length_singleton] at hR
      exact Fr.perm pL2.symm hR
  · have d' : ¬ (1 : Int) < (((refs ts).length : Nat) : Int) := fun z => d (decide_eq_true z)
    rw [refs_len] at d'
    obtain ⟨e, he, hla⟩ := h.la
    have hL1 : L.length = 1 := by have := List.length_pos_of_mem he; omega
    have eL : L = [e] := by
      cases L with
      | nil => cases he
      | cons x r =>
        have : r = [] := List.eq_nil_of_length_eq_zero (by simpa using hL1)
        subst this
        rw [List.mem_singleton.mp he]
    subst eL
    obtain ⟨j, ej, hj⟩ := h.ix e (by simp)
    obtain ⟨y, hy, ty⟩ := TVs.get h.tv hj
    have hlast : atI xs (-1) = some y := at_last (by rw [hxl, show pts.length - 1 = j by omega]; exact hy) (by omega)
    refine ⟨_, rfl, _, rfl, _, rfl, tr, _, _, _, rfl, rfl, SqL.of h.htr, hlast, (by show 2 ≤ sizeLine; decide), fun r hr0 => ?_⟩
    exact q r y c e.2.2 _ (h.sm.free hr0) upd_same (ty.mono fun a xs e => same_new hr0 _ _ _ e) (h.res _ .stop) (h.sm.trans (same_new hr0 _))
theorem many0_nat {n w : Nat} (hn : 2 ≤ n) (hw : 2 ≤ w) : many0 n w = 2 + (n - 2) % (w - 1) := by
  have h := many0_eq (n := n) hw
  rw [show ((n : Int) - 2) = ((n - 2 : Nat) : Int) by omega, show ((w : Int) - 1) = ((w - 1 : Nat) : Int) by omega, ← Int.natCast_emod] at h
  omega
theorem free_fit {ns : List Int} {wy : Nat} {C : Int} {t : PT} (w2 : 2 ≤ wy) (hn : ns.length ≤ 12) (h : Fr wy (start ns) (ns.length : Int) (many0 ns.length wy) 0 (C, t)) : C = tCo ns t ∧ tOk ns.length t ∧ tDp t < 13 ∧ tNo t ≤ 30 := by
  obtain ⟨a1, a2, a3, a4, a5⟩ := start_fit ns
  have hc := fr_cost h a1 a2
  obtain ⟨b1, b2, b3⟩ := fr_tree h (many0_ge w2) w2 a3 a4
  have c1 : tDp t + 1 ≤ tLf t := b2.1
  have c2 : tNo t + 1 ≤ 2 * tLf t := b2.2
  have c3 : tLf t = tLfs (trs (start ns)) := b3
  exact ⟨hc, b1, by omega, by omega⟩
theorem fr_hu {w : Nat} {E : List T3} {f : Int} {m : Nat} {c : Int} {R : Int × PT} (h : Fr w E f m c R) : ∃ C, R.1 = c + C ∧ Hf.Hu w (E.map (·.1)) m C := by
  induction h with
  | @stop e f m c => exact ⟨0, by simp, .stop⟩
  | @step E L f m c R hl pe nd od _ ih =>
    obtain ⟨C, hC, hu⟩ := ih
    refine ⟨C + sum3 (L.take m), by omega, ?_⟩
    have e1 : sum3 (L.take m) = ((L.map (·.1)).take m).sum := by unfold sum3; rw [List.map_take]
    rw [e1]
    refine .step (L := L.map (·.1)) (by simpa using hl) (pe.map _) (List.pairwise_map.mpr (od.imp fun {a b} h => ?_)) ?_
    · refine Int.not_lt.mp fun g => ?_
      have : lexB (k2 b) (k2 a) = true := by
        unfold k2
        rw [lexB_cons, if_neg (by intro z; injection z with z; omega)]
        exact decide_eq_true g
      rw [this] at h; cases h
    · rw [List.map_append, List.map_drop] at hu
      rw [← e1]
      exact hu
theorem start_sizes (ns : List Int) : (start ns).map (·.1) = ns := by
  unfold start
  rw [List.map_map]
  refine List.ext_getElem (by simp) fun i h1 h2 => ?_
  simp at h1
  simp [List.getD_eq_getElem?_getD, List.getElem?_eq_getElem h1]
theorem fits_of {n w : Nat} (hn : 1 ≤ n) (hw : 2 ≤ w) : Hf.Fits w n (many0 n w) := by
  have h1 := many0_ge (n := n) hw
  refine ⟨hw, h1, ?_, ?_⟩
  · have := many0_eq (n := n) hw
    have := Int.emod_lt_of_pos ((n : Int) - 2) (show (0 : Int) < (w : Int) - 1 by omega)
    omega
  · by_cases h : n = 1
    · exact .inl h
    · refine .inr ⟨(n - 2) / (w - 1), ?_⟩
      rw [many0_nat (by omega) hw]
      have := Nat.mod_add_div (n - 2) (w - 1)
      rw [Nat.mul_comm] at this
      omega
theorem free_hu {ns : List Int} {wy : Nat} {C : Int} {t : PT} (h : Fr wy (start ns) (ns.length : Int) (many0 ns.length wy) 0 (C, t)) : Hf.Hu wy ns (many0 ns.length wy) C := by
  obtain ⟨C', e, hu⟩ := fr_hu h
  rw [start_sizes] at hu
  have e : C = 0 + C' := e
  have : C = C' := by omega
  rw [this]; exact hu
theorem tLvs_perm {l l' : List PT} (h : l.Perm l') : (tLvs l).Perm (tLvs l') := by
  induction h with
  | nil => exact .refl _
  | cons x _ ih => exact ih.append_left _
  | swap x y l => show (tLv y ++ (tLv x ++ tLvs l)).Perm (tLv x ++ (tLv y ++ tLvs l)); rw [← List.append_assoc, ← List.append_assoc]; exact List.perm_append_comm.append_right _
  | trans _ _ h1 h2 => exact h1.trans h2
theorem tPls_iff (w : Nat) : ∀ l : List PT, tPls w l ↔ ∀ t ∈ l, tPl w t
  | [] => ⟨(fun _ t h => by cases h), fun _ => trivial⟩
  | t :: r => by show tPl w t ∧ tPls w r ↔ _; rw [tPls_iff w r]; simp
theorem fr_leaves {w : Nat} {E : List T3} {f : Int} {m : Nat} {c : Int} {R : Int × PT} (h : Fr w E f m c R) : 2 ≤ m → m ≤ w → tPls w (trs E) → tPl w R.2 ∧ (tLv R.2).Perm (tLvs (trs E)) := by
  induction h with
  | @stop e f m c => intro _ _ h1; exact ⟨h1.1, by show (tLv e.2.2).Perm (tLv e.2.2 ++ []); rw [List.append_nil]⟩
  | @step E L f m c R hl pe nd od _ ih =>
    intro hm hw h1
    have pL : (trs E).Perm (trs L) := pe.map _
    have h1L : tPls w (trs L) := (tPls_iff w _).mpr fun t ht => (tPls_iff w _).mp h1 t (pL.mem_iff.mpr ht)
    have e1 : trs L = trs (L.take m) ++ trs (L.drop m) := by unfold trs; rw [← List.map_append, List.take_append_drop]
    have e2 : trs (L.drop m ++ [put3 (L.take m) f]) = trs (L.drop m) ++ [.node (trs (L.take m))] := by unfold trs; rw [List.map_append]; rfl
    rw [e1, tPls_app] at h1L
    have lt : (trs (L.take m)).length = min m L.length := by unfold trs; rw [List.length_map, List.length_take]
    obtain ⟨a, b⟩ := ih (by omega) (Nat.le_refl _) (by rw [e2, tPls_app]; exact ⟨h1L.2, ⟨by omega, by omega, h1L.1⟩, trivial⟩)
    refine ⟨a, b.trans ?_⟩
    refine List.Perm.trans ?_ (tLvs_perm pL).symm
    rw [e2, tLvs_app, e1, tLvs_app]
    show (tLvs (trs (L.drop m)) ++ (tLvs (trs (L.take m)) ++ [])).Perm _
    rw [List.append_nil]
    exact List.perm_append_comm
theorem leaf_lvs : ∀ ks : List Int, tLvs (ks.map PT.leaf) = ks
  | [] => rfl
  | k :: r => by show [k] ++ tLvs (r.map PT.leaf) = k :: r; rw [leaf_lvs r]; rfl
theorem free_leaves {ns : List Int} {wy : Nat} {C : Int} {t : PT} (hn : 1 ≤ ns.length) (w2 : 2 ≤ wy) (h : Fr wy (start ns) (ns.length : Int) (many0 ns.length wy) 0 (C, t)) : tPl wy t ∧ (tLv t).Nodup ∧ (tLv t).length = ns.length := by
  have F := fits_of hn w2
  have e : trs (start ns) = ((List.range ns.length).map fun i : Nat => (i : Int)).map PT.leaf := by unfold trs start; rw [List.map_map, List.map_map]; rfl
  obtain ⟨a, b⟩ := fr_leaves h F.m2 F.mw (by
    rw [e]; refine (tPls_iff _ _).mpr fun t ht => ?_
    obtain ⟨k, _, rfl⟩ := List.mem_map.mp ht
    exact trivial)
  rw [e, leaf_lvs] at b
  refine ⟨a, b.nodup_iff.mpr ?_, by rw [b.length_eq]; simp⟩
  exact List.pairwise_map.mpr (List.nodup_range.imp fun h g => h (by omega))
theorem in_no {fs : List Int} {k : Int} (h : k ∉ fs) : ((fs.map PyData.int).any fun e => PyData.eqv e (.int k)) = false := by
  rw [List.any_eq_false]
  intro e he
  obtain ⟨x, hx, rfl⟩ := List.mem_map.mp he
  have : x ≠ k := fun z => h (z ▸ hx)
  simp [PyData.eqv, this]
def spFinds (K : PySem.W.Frag) (n : Nat) : Sp := fun vs H Q _ => ∃ (a fo : Addr) (ns fs : List Int) (wy : Nat) (x : V) (t : PT), vs = [.ref a, .int wy, x, .ref fo] ∧ H a = some (.lst (ns.map V.int)) ∧ H fo = some (.lst (fs.map V.int)) ∧ a ≠ fo ∧ ns.length ≤ 12 ∧ TV H x t ∧ tPl wy t ∧ tOk ns.length t ∧ tDp t < n ∧ wy ≤ 6 ∧ (fs ++ tLv t).Nodup ∧ (fs ++ tLv t).length ≤ 12 ∧
  ∀ H', H' fo = some (.lst ((fs ++ tLv t).map V.int)) → (∀ b o, H b = some o → b ≠ fo → H' b = some o) → Q (.bl true) H'
theorem ok_finds (T : Tops K mg) (f_is_number : Df P w K mg base 1 "is_number" ["thing"] spNum) : ∀ n : Nat, Df P w K mg base (n + 1) "finds_rows" ["sizes", "ways", "thing", "found"] (spFinds K n)
  | 0 => by
    refine T.t_finds_rows.df sc_finds_rows (fun vs H Q E h => ?_) (fun cdv f A outer s H vs Q E hr h => ?_)
    · obtain ⟨a, fo, ns, fs, wy, x, t, rfl, _⟩ := h
      rfl
    obtain ⟨a, fo, ns, fs, wy, x, t, rfl, hS, hF, naf, n12, hT, hpl, hok, hdp, q⟩ := h
    exact absurd hdp (by omega)
  | n + 1 => by
    have f_finds_rows := ok_finds T f_is_number n
    refine T.t_finds_rows.df sc_finds_rows (fun vs H Q E h => ?_) (fun cdv f A outer s H vs Q E hr h => ?_)
    · obtain ⟨a, fo, ns, fs, wy, x, t, rfl, _⟩ := h
      rfl
    obtain ⟨a, fo, ns, fs, wy, x, t, rfl, hS, hF, naf, n12, hT, hpl, hok, hdp, w6, nd, l12, q⟩ := h
    refine ⟨_, (@pss_cons _ _ _ _ _ (@ps_if _ _ _ _ _ _ _ _ (@pt_val _ _ _ (@pe_df _ _ _ _ _ _ _ _ _ _ _ f_is_number hr (@pa_cons _ _ _ _ _ (@pv _ 2 _ _ (by rfl) (Or.inl rfl) (by decide) (by decide)) (@pa_nil _) (by rfl)) (by first | decide | exact Nat.le_refl _ | omega) (by rfl) (by decide) (by rfl) (by rfl)) (by intro _; rfl)) (@pss_cons _ _ _ _ _ (@ps_if _ _ _ _ _ _ _ _ (@PW.pt _ _ _ (@pw_or _ _ _ _ _ _ _ (@pt_cmpR _ _ _ _ _ _ _ _ op_lt (@pv _ 2 _ _ (by rfl) (Or.inl rfl) (by decide) (by decide)) (@pe_int _ _ _ _) (nomark _)) (@pw_or _ _ _ _ _ _ _ (@pt_cmpR _ _ _ _ _ _ _ _ op_ge (@pv _ 2 _ _ (by rfl) (Or.inl rfl) (by decide) (by decide)) (@pe_callB _ _ _ _ _ _ _ _ _ (lenQ K) (by rfl) T.b.n_len PySem.boot_len (@pa_cons _ _ _ _ _ (@pv _ 0 _ _ (by rfl) (Or.inl rfl) (by decide) (by decide)) (@pa_nil _) (by rfl)) (by decide) (by decide) (by rfl) (by rfl)) (nomark _)) (@pw_or1 _ _ _ _ (@pt_cmpR _ _ _ _ _ _ _ _ (inD K hr) (@pv _ 2 _ _ (by rfl) (Or.inl rfl) (by decide) (by decide)) (@pv _ 3 _ _ (by rfl) (Or.inl rfl) (by decide) (by decide)) (by with_unfolding_all rfl)))))) (@pss_one _ _ _ (@ps_ret _ _ _ _ (@pe_bl _ _ _ _))) (@pss_nil _)) (@pss_cons _ _ _ _ _ (@ps_expr _ _ _ _ (@pe_bm _ _ _ _ _ _ _ _ _ _ _ _ PySem.F.plainAttrs_list PySem.F.slot_list_append PySem.F.type_list_append mt_append (@pv _ 3 _ _ (by rfl) (Or.inl rfl) (by decide) (by decide)) (@pa_cons _ _ _ _ _ (@pv _ 2 _ _ (by rfl) (Or.inl rfl) (by decide) (by decide)) (@pa_nil _) (by rfl)) (by rfl) (by rfl) (by rfl) (by rfl) (by rfl)) (by rfl)) (@pss_one _ _ _ (@ps_ret _ _ _ _ (@pe_bl _ _ _ _))))) (@pss_nil _)) (@pss_cons _ _ _ _ _ (@ps_if _ _ _ _ _ _ _ _ (@PW.pt _ _ _ (@pw_or _ _ _ _ _ _ _ (@pt_not _ _ _ _ (@pt_val _ _ _ (@pe_callB _ _ _ _ _ _ _ _ _ (isiQ K) (by rfl) T.b.n_isinstance boot_isinstance (@pa_cons _ _ _ _ _ (@pv _ 2 _ _ (by rfl) (Or.inl rfl) (by decide) (by decide)) (@pa_cons _ _ _ _ _ (@pe_ty _ _ _ _ T.b.n_tuple boot_tuple (by rfl) (by decide) (by decide)) (@pa_nil _) (by rfl)) (by rfl)) (by decide) (by decide) (by rfl) (by rfl)) (by intro _; rfl))) (@pw_or _ _ _ _ _ _ _ (@pt_cmpR _ _ _ _ _ _ _ _ op_lt (@pe_callB _ _ _ _ _ _ _ _ _ (lenQ K) (by rfl) T.b.n_len PySem.boot_len (@pa_cons _ _ _ _ _ (@pv _ 2 _ _ (by rfl) (Or.inl rfl) (by decide) (by decide)) (@pa_nil _) (by rfl)) (by decide) (by decide) (by rfl) (by rfl)) (@pe_int _ _ _ _) (nomark _)) (@pw_or1 _ _ _ _ (@pt_cmpR _ _ _ _ _ _ _ _ op_gt (@pe_callB _ _ _ _ _ _ _ _ _ (lenQ K) (by rfl) T.b.n_len PySem.boot_len (@pa_cons _ _ _ _ _ (@pv _ 2 _ _ (by rfl) (Or.inl rfl) (by decide) (by decide)) (@pa_nil _) (by rfl)) (by decide) (by decide) (by rfl) (by rfl)) (@pv _ 1 _ _ (by rfl) (Or.inl rfl) (by decide) (by decide)) (nomark _)))))) (@pss_one _ _ _ (@ps_ret _ _ _ _ (@pe_bl _ _ _ _))) (@pss_nil _)) (@pss_cons _ _ _ _ _ (@ps_for _ _ _ _ _ _ _ _ PassesOwn.never rfl (@iT _ K _ _ _ (@pv _ 2 _ _ (by rfl) (Or.inl rfl) (by decide) (by decide)) (by rfl)) (@pg_name _ _ 4 _ sc_finds_rows.nd rfl (Or.inl rfl) (by first | exact .inl rfl | exact .inr rfl)) (@pss_one _ _ _ (@ps_if _ _ _ _ _ _ _ _ (@pt_not _ _ _ _ (@pt_val _ _ _ (@pe_df _ _ _ _ _ _ _ _ _ _ _ f_finds_rows hr (@pa_cons _ _ _ _ _ (@pv _ 0 _ _ (by rfl) (Or.inl rfl) (by decide) (by decide)) (@pa_cons _ _ _ _ _ (@pv _ 1 _ _ (by rfl) (Or.inl rfl) (by decide) (by decide)) (@pa_cons _ _ _ _ _ (@pv _ 4 _ _ (by rfl) (Or.inl rfl) (by decide) (by decide)) (@pa_cons _ _ _ _ _ (@pv _ 3 _ _ (by rfl) (Or.inl rfl) (by decide) (by decide)) (@pa_nil _) (by rfl)) (by rfl)) (by rfl)) (by rfl)) (by first | decide | exact Nat.le_refl _ | omega) (by rfl) (by decide) (by rfl) (by rfl)) (by intro _; rfl))) (@pss_one _ _ _ (@ps_ret _ _ _ _ (@pe_bl _ _ _ _))) (@pss_nil _))) (by intro _; rfl)) (@pss_one _ _ _ (@ps_ret _ _ _ _ (@pe_bl _ _ _ _)))))), ?_⟩
    cases hT with
    | leaf k =>
      have nk : k ∉ fs := fun h => by
        have := (List.nodup_append.mp nd).2.2 k h k (by show k ∈ [k]; simp)
        exact this rfl
      have l1 : (fs ++ [k]).length ≤ 12 := l12
      have l1 : fs.length + 1 ≤ 12 := by simpa using l1
      have hok : 0 ≤ k ∧ k < (ns.length : Nat) := hok
      have hls : (((ns.map V.int).length : Nat) : Int) = (ns.length : Int) := by rw [List.length_map]
      refine ⟨_, rfl, .inl ⟨k, rfl, _, rfl, iteT ?_⟩⟩
      refine ⟨_, rfl, _, _, rfl, rfl, _, rfl, iteDN (by omega) ⟨_, rfl, _, rfl, a, _, rfl, .inl (SqL.of hS), _, _, rfl, rfl, _, rfl, iteDN (by rw [hls]; omega) ?_⟩⟩
      refine ⟨_, rfl, _, rfl, fo, _, fs.map PyData.int, .int k, rfl, SqL.of hF, dv_ints fs, .int k, lay_ints fs, (by simp [SeqAt.shaped, PyData.canLay0, PyData.depth]), (by simp [PyData.depth]), _, rfl, ?_⟩
      rw [in_no nk]
      refine iteF ⟨_, rfl, .inl ⟨rfl, _, SqL.of hF⟩, _, rfl, fo, _, _, rfl, rfl, hF, (by rw [List.length_map]; exact small1000 (by omega)), ?_⟩
      refine q _ ?_ fun b o hb nb => ?_
      · rw [upd_same, List.map_append]; rfl
      · rw [upd_ne nb]; exact hb
    | node h hs =>
      rename_i b xs l
      have hpl : 2 ≤ l.length ∧ l.length ≤ wy ∧ tPls wy l := hpl
      have hxl := hs.len
      refine ⟨_, rfl, .inr ⟨b, xs, rfl, h, _, rfl, iteF ?_⟩⟩
      refine ⟨_, rfl, _, "tuple", _, _, rfl, .tup h, k_tup_tup K, _, rfl, ?_⟩
      refine iteF ⟨_, rfl, b, _, rfl, .inr (SqT.of h), _, _, rfl, rfl, _, rfl, iteDN (by omega) ⟨_, rfl, b, _, rfl, .inr (SqT.of h), _, rfl, _, _, rfl, rfl, _, rfl, iteDN (by omega) ?_⟩⟩
      refine ⟨_, rfl, b, rfl, ⟨_, SqT.of h⟩, ?_⟩
      have hlv : tLv (.node l) = tLvs l := rfl
      rw [hlv] at nd l12 q
      refine for_tup (K := K) (a := b) (xs := xs) (fun i σ H2 => ∃ v : Option V, σ = [some (.ref a), some (.int wy), some (.ref b), some (.ref fo), v] ∧ i ≤ xs.length ∧ H2 fo = some (.lst ((fs ++ tLvs (l.take i)).map V.int)) ∧ (∀ c o, H c = some o → c ≠ fo → H2 c = some o)) ⟨_, rfl, Nat.zero_le _, ?_, fun c o hc _ => hc⟩ (fun _ _ _ _ ⟨_, _, _, _, k2⟩ => SqT.of (k2 _ _ h (ne_of h hF fun z => nomatch z))) ?_ ?_
      · rw [List.take_zero]; show H fo = some (.lst ((fs ++ []).map V.int)); rw [List.append_nil]; exact hF
      · rintro i x σ H2 hx ⟨v, rfl, hi, hF2, k2⟩
        obtain ⟨t, ht, hv⟩ := hs.at hx
        have hil := (List.getElem?_eq_some_iff.mp hx).1
        have hd' : tDps l + 1 < n + 1 := hdp
        have hd2 := tDps_at l i t ht
        have elv : tLvs (l.take (i + 1)) = tLvs (l.take i) ++ tLv t := by rw [List.take_add_one, ht, tLvs_app]; show _ ++ (tLv t ++ []) = _; rw [List.append_nil]
        have esp : tLvs l = tLvs (l.take (i + 1)) ++ tLvs (l.drop (i + 1)) := by rw [← tLvs_app, List.take_append_drop]
        rw [esp, elv, ← List.append_assoc, ← List.append_assoc] at nd l12
        have nd2 := (List.nodup_append.mp nd).1
        have l2 : (fs ++ tLvs (l.take i) ++ tLv t).length ≤ 12 := by rw [List.length_append] at l12; omega
        have tup2 : ∀ c ys, H c = some (.tup ys) → H2 c = some (.tup ys) := fun c ys hc => k2 c _ hc (ne_of hc hF fun z => nomatch z)
        refine ⟨_, rfl, _, rfl, _, rfl, _, rfl, a, fo, ns, fs ++ tLvs (l.take i), wy, x, t, rfl, k2 _ _ hS naf, hF2, naf, n12, hv.mono tup2, (tPls_iff _ _).mp hpl.2.2 t (List.mem_of_getElem? ht), tOks_at _ l i t hok ht, by omega, w6, nd2, l2, fun H3 hF3 k3 => ⟨_, rfl, ?_⟩⟩
        refine iteF ⟨_, rfl, hil, ?_, fun c o hc nc => k3 c o (k2 c o hc nc) nc⟩
        rw [elv, ← List.append_assoc]; exact hF3
      · rintro σ H2 ⟨v, rfl, hi, hF2, k2⟩
        rw [hxl, List.take_of_length_le (Nat.le_refl _)] at hF2
        exact q H2 hF2 k2
def spPlan (K : PySem.W.Frag) : Sp := fun vs H Q _ => ∃ (a : Addr) (ns : List Int) (wy : Nat) (x : V) (t : PT), vs = [.ref a, .int wy, x] ∧ H a = some (.lst (ns.map V.int)) ∧ ns.length ≤ 12 ∧ TV H x t ∧ tPl wy t ∧ tOk ns.length t ∧ tDp t < 13 ∧ wy ≤ 6 ∧ (tLv t).Nodup ∧ (tLv t).length = ns.length ∧ ∀ H', Same H H' → Q (.bl true) H'
theorem ok_plan (T : Tops K mg) (f_finds_rows : Df P w K mg base 14 "finds_rows" ["sizes", "ways", "thing", "found"] (spFinds K 13)) : Df P w K mg base 15 "is_plan" ["sizes", "ways", "thing"] (spPlan K) := by
  refine T.t_is_plan.df sc_is_plan (fun vs H Q E h => ?_) (fun cdv f A outer s H vs Q E hr h => ?_)
  · obtain ⟨a, ns, wy, x, t, rfl, _⟩ := h
    rfl
  obtain ⟨a, ns, wy, x, t, rfl, hS, n12, hT, hpl, hok, hdp, w6, nd, hl, q⟩ := h
  refine ⟨_, (@pss_cons _ _ _ _ _ (@ps_set _ _ 3 _ _ _ _ sc_is_plan.nd rfl (Or.inl rfl) (@pe_lst _ _ _ _ (@pa_nil _)) (by rfl) (by first | exact .inl rfl | exact .inr rfl)) (@pss_one _ _ _ (@ps_ret _ _ _ _ (@pe_and _ _ _ _ _ _ _ (@pe_df _ _ _ _ _ _ _ _ _ _ _ f_finds_rows hr (@pa_cons _ _ _ _ _ (@pv _ 0 _ _ (by rfl) (Or.inl rfl) (by decide) (by decide)) (@pa_cons _ _ _ _ _ (@pv _ 1 _ _ (by rfl) (Or.inl rfl) (by decide) (by decide)) (@pa_cons _ _ _ _ _ (@pv _ 2 _ _ (by rfl) (Or.inl rfl) (by decide) (by decide)) (@pa_cons _ _ _ _ _ (@pv _ 3 _ _ (by rfl) (Or.inl rfl) (by decide) (by decide)) (@pa_nil _) (by rfl)) (by rfl)) (by rfl)) (by rfl)) (by first | decide | exact Nat.le_refl _ | omega) (by rfl) (by decide) (by rfl) (by rfl)) (@pe_one _ _ _ _ _ (@pe_cmpR _ _ _ _ _ _ _ _ op_eq (@pe_callB _ _ _ _ _ _ _ _ _ (lenQ K) (by rfl) T.b.n_len PySem.boot_len (@pa_cons _ _ _ _ _ (@pv _ 3 _ _ (by rfl) (Or.inl rfl) (by decide) (by decide)) (@pa_nil _) (by rfl)) (by decide) (by decide) (by rfl) (by rfl)) (@pe_callB _ _ _ _ _ _ _ _ _ (lenQ K) (by rfl) T.b.n_len PySem.boot_len (@pa_cons _ _ _ _ _ (@pv _ 0 _ _ (by rfl) (Or.inl rfl) (by decide) (by decide)) (@pa_nil _) (by rfl)) (by decide) (by decide) (by rfl) (by rfl)) (nomark _))))))), ?_⟩
  refine ⟨(by show 0 ≤ sizeLine; decide), fun fo hfo => ?_⟩
  have s1 := same_new hfo (.lst [])
  have naf : a ≠ fo := ne_of_none hS hfo
  refine ⟨_, rfl, _, rfl, _, rfl, _, rfl, a, fo, ns, [], wy, x, t, rfl, s1 _ _ hS, upd_same, naf, n12, hT.mono (same_tup s1), hpl, hok, hdp, w6, by simpa using nd, by simpa using (by omega : (tLv t).length ≤ 12), fun H2 hF2 k2 => ⟨_, rfl, iteT ?_⟩⟩
  refine ⟨_, rfl, fo, _, rfl, .inl (SqL.of hF2), _, rfl, a, _, rfl, .inl (SqL.of (k2 _ _ (s1 _ _ hS) naf)), rfl, ?_⟩
  rw [decide_eq_true (by rw [List.nil_append, List.length_map, List.length_map, hl])]
  exact q H2 fun b o hb => k2 b o (s1 b o hb) (ne_of_none hb hfo)
theorem perm_sizes {ns ks : List Int} (h : ks.Perm ((List.range ns.length).map fun i : Nat => (i : Int))) : (ks.map fun k => ns.getD k.toNat 0).Perm ns := by
  refine (h.map _).trans ?_
  rw [List.map_map]
  have : (List.range ns.length).map ((fun k : Int => ns.getD k.toNat 0) ∘ fun i : Nat => (i : Int)) = ns := by
    refine List.ext_getElem (by simp) fun i h1 h2 => ?_
    simp [List.getD_eq_getElem?_getD, List.getElem?_eq_getElem h2]
  rw [this]
theorem getD_in {ns : List Int} {k : Int} (h : 0 ≤ k ∧ k < (ns.length : Nat)) : ns.getD k.toNat 0 ∈ ns := by
  have hk : k.toNat < ns.length := by omega
  rw [List.getD_eq_getElem?_getD, List.getElem?_eq_getElem hk]; exact List.getElem_mem hk
theorem kr_up {w E : Nat} {D : List Nat} (h : ∀ d ∈ D, d ≤ E) : ∀ j, Hf.kr w (E + j) D = w ^ j * Hf.kr w E D
  | 0 => by simp
  | j + 1 => by
    have h' : ∀ d ∈ D, d ≤ E + j := fun d hd => Nat.le_trans (h d hd) (Nat.le_add_right _ _)
    rw [← Nat.add_assoc, Hf.kr_down h', kr_up h j, Nat.pow_succ, Nat.mul_comm (w ^ j) w, Nat.mul_assoc]
theorem kr_succ (w E : Nat) : ∀ D : List Nat, Hf.kr w (E + 1) (D.map (· + 1)) = Hf.kr w E D
  | [] => rfl
  | d :: D => by
    rw [List.map_cons, Hf.kr_cons, Hf.kr_cons, kr_succ w E D]
    have : E + 1 - (d + 1) = E - d := by omega
    rw [this]
def deeper (P : Hf.PW) : Hf.PW := P.map fun p => (p.1, p.2 + 1)
theorem deeper_ws (P : Hf.PW) : Hf.ws (deeper P) = Hf.ws P := by unfold Hf.ws deeper; rw [List.map_map]; rfl
theorem deeper_ds (P : Hf.PW) : Hf.ds (deeper P) = (Hf.ds P).map (· + 1) := by unfold Hf.ds deeper; rw [List.map_map, List.map_map]; rfl
theorem deeper_val : ∀ P : Hf.PW, Hf.val (deeper P) = Hf.val P + (Hf.ws P).sum
  | [] => by simp [Hf.val, deeper, Hf.ws]
  | (x, d) :: P => by
    show Hf.val ((x, d + 1) :: deeper P) = Hf.val ((x, d) :: P) + (x :: Hf.ws P).sum
    rw [Hf.val_cons, Hf.val_cons, deeper_val P, List.sum_cons]
    have : ((d + 1 : Nat) : Int) = (d : Int) + 1 := by omega
    simp only [this, Int.mul_add, Int.mul_one]
    omega
def szOf (ns : List Int) (k : Int) : Int := ns.getD k.toNat 0
mutual
theorem tree_kr (ns : List Int) {w : Nat} (hw : 2 ≤ w) : ∀ t : PT, tPl w t → ∃ (z : Nat) (P : Hf.PW), (Hf.ws P).Perm ((tLv t).map (szOf ns) ++ Hf.zs z) ∧ (∃ E, (∀ d ∈ Hf.ds P, d ≤ E) ∧ Hf.kr w E (Hf.ds P) = w ^ E) ∧ Hf.val P = tCo ns t
  | .leaf k, _ => ⟨0, [(szOf ns k, 0)], .refl _, ⟨0, by simp [Hf.ds], by simp [Hf.kr, Hf.ds]⟩, by simp [Hf.val, tCo]⟩
  | .node l, h => by
    have h : 2 ≤ l.length ∧ l.length ≤ w ∧ tPls w l := h
    obtain ⟨z, P, hp, ⟨E, hb, hk⟩, hv⟩ := trees_kr ns hw l h.2.2
    have hsum : (Hf.ws P).sum = tSzs ns l := by
      rw [Hf.sumI_perm hp, List.sum_append, Hf.zs_sum, tSzs_lv, Int.add_zero]; rfl
    refine ⟨z + (w - l.length), deeper P ++ List.replicate (w - l.length) (0, 1), ?_, ⟨E + 1, fun d hd => ?_, ?_⟩, ?_⟩
    · have e1 : Hf.ws (deeper P ++ List.replicate (w - l.length) (0, 1)) = Hf.ws P ++ Hf.zs (w - l.length) := by
        rw [← deeper_ws P]; unfold Hf.ws Hf.zs; rw [List.map_append, List.map_replicate]
      rw [e1, ← Hf.zs_app, ← List.append_assoc]
      exact hp.append_right _
    · have e2 : Hf.ds (deeper P ++ List.replicate (w - l.length) (0, 1)) = (Hf.ds P).map (· + 1) ++ List.replicate (w - l.length) 1 := by
        rw [← deeper_ds P]; unfold Hf.ds; rw [List.map_append, List.map_replicate]
      rw [e2] at hd
      rcases List.mem_append.mp hd with hd | hd
      · obtain ⟨x, hx, rfl⟩ := List.mem_map.mp hd
        have := hb x hx; omega
      · rw [(List.mem_replicate.mp hd).2]; omega
    · have e2 : Hf.ds (deeper P ++ List.replicate (w - l.length) (0, 1)) = (Hf.ds P).map (· + 1) ++ List.replicate (w - l.length) 1 := by
        rw [← deeper_ds P]; unfold Hf.ds; rw [List.map_append, List.map_replicate]
      rw [e2, Hf.kr_app, kr_succ, Hf.kr_rep, hk, Nat.add_sub_cancel, ← Nat.add_mul, Nat.pow_succ, Nat.mul_comm (w ^ E)]
      congr 1; omega
    · rw [Hf.val_app, deeper_val, hv, hsum]
      have : Hf.val (List.replicate (w - l.length) ((0 : Int), 1)) = 0 := by
        unfold Hf.val
        rw [List.map_replicate]
        exact Hf.zs_sum _
      rw [this, Int.add_zero]
      rfl
theorem trees_kr (ns : List Int) {w : Nat} (hw : 2 ≤ w) : ∀ l : List PT, tPls w l → ∃ (z : Nat) (P : Hf.PW), (Hf.ws P).Perm ((tLvs l).map (szOf ns) ++ Hf.zs z) ∧ (∃ E, (∀ d ∈ Hf.ds P, d ≤ E) ∧ Hf.kr w E (Hf.ds P) = l.length * w ^ E) ∧ Hf.val P = tCos ns l
  | [], _ => ⟨0, [], .refl _, ⟨0, by simp [Hf.ds], by simp [Hf.kr, Hf.ds]⟩, by simp [Hf.val, tCos]⟩
  | t :: r, h => by
    obtain ⟨z1, P1, p1, ⟨E1, b1, k1⟩, v1⟩ := tree_kr ns hw t h.1
    obtain ⟨z2, P2, p2, ⟨E2, b2, k2⟩, v2⟩ := trees_kr ns hw r h.2
    refine ⟨z1 + z2, P1 ++ P2, ?_, ⟨E1 + E2, fun d hd => ?_, ?_⟩, ?_⟩
    · have e1 : Hf.ws (P1 ++ P2) = Hf.ws P1 ++ Hf.ws P2 := by unfold Hf.ws; rw [List.map_append]
      rw [e1, ← Hf.zs_app]
      show (Hf.ws P1 ++ Hf.ws P2).Perm ((tLv t ++ tLvs r).map (szOf ns) ++ _)
      rw [List.map_append]
      refine (p1.append p2).trans ?_
      rw [List.append_assoc, List.append_assoc]
      refine List.Perm.append_left _ ?_
      rw [← List.append_assoc, ← List.append_assoc]
      exact List.perm_append_comm.append_right _
    · unfold Hf.ds at hd
      rw [List.map_append] at hd
      rcases List.mem_append.mp hd with hd | hd
      · have := b1 d hd; omega
      · have := b2 d hd; omega
    · have e2 : Hf.ds (P1 ++ P2) = Hf.ds P1 ++ Hf.ds P2 := by unfold Hf.ds; rw [List.map_append]
      rw [e2, Hf.kr_app, kr_up b1, Nat.add_comm E1 E2, kr_up b2, k1, k2, List.length_cons, Nat.succ_mul, Nat.pow_add]
      rw [Nat.mul_left_comm (w ^ E1), Nat.mul_comm (w ^ E1) (w ^ E2)]
      omega
    · rw [Hf.val_app, v1, v2]; rfl
end
theorem free_least {ns : List Int} {wy m : Nat} {C : Int} (F : Hf.Fits wy ns.length m) (h0 : ∀ e ∈ ns, 0 ≤ e) (h : Hf.Hu wy ns m C) {t : PT} (hp : tPl wy t) (hl : ((tLv t).map (szOf ns)).Perm ns) : C ≤ tCo ns t := by
  obtain ⟨z, P, a, b, c⟩ := tree_kr ns F.w2 t hp
  have := Hf.opt F.w2 h F.m2 F.mw F.ok h0 z P (a.trans (hl.append_right _)) b
  rw [c] at this
  exact this
def pgStep (w : Nat) (n : Int) (parts : List (List Int)) : List (List (List Int)) :=
  ((List.range parts.length).map fun i => parts.take i ++ [parts.getD i [] ++ [n]] ++ parts.drop (i + 1)) ++ (if parts.length < w then [parts ++ [[n]]] else [])
def pgs (w : Nat) (S : List Int) : List (List (List Int)) := S.foldl (fun F n => F.flatMap (pgStep w n)) [[]]
theorem pgs_snoc (w : Nat) (S : List Int) (n : Int) : pgs w (S ++ [n]) = (pgs w S).flatMap (pgStep w n) := by unfold pgs; rw [List.foldl_append]; rfl
structure PgOk (w : Nat) (S : List Int) (parts : List (List Int)) : Prop where
  len : parts.length ≤ w
  ne : ∀ p ∈ parts, p ≠ []
  sub : ∀ p ∈ parts, p.Sublist S
  perm : parts.flatten.Perm S
theorem pg_step {w : Nat} {S : List Int} {n : Int} {parts q : List (List Int)} (h : PgOk w S parts) (hq : q ∈ pgStep w n parts) : PgOk w (S ++ [n]) q := by
  unfold pgStep at hq
  rcases List.mem_append.mp hq with hq | hq
  · obtain ⟨i, hi, rfl⟩ := List.mem_map.mp hq
    have hi : i < parts.length := List.mem_range.mp hi
    have eg : parts.getD i [] = parts[i] := by rw [List.getD_eq_getElem?_getD, List.getElem?_eq_getElem hi]; rfl
    have esp : parts = parts.take i ++ parts[i] :: parts.drop (i + 1) := by rw [← List.drop_eq_getElem_cons hi, List.take_append_drop]
    rw [eg]
    refine ⟨?_, fun p hp => ?_, fun p hp => ?_, ?_⟩
    · have := congrArg List.length esp
      rw [List.length_append, List.length_append, List.length_cons, List.length_nil]
      rw [List.length_append, List.length_cons] at this
      have := h.len
      omega
    · rcases List.mem_append.mp hp with hp | hp
      · rcases List.mem_append.mp hp with hp | hp
        · exact h.ne p (List.mem_of_mem_take hp)
        · rw [List.mem_singleton.mp hp]; simp
      · exact h.ne p (List.mem_of_mem_drop hp)
    · rcases List.mem_append.mp hp with hp | hp
      · rcases List.mem_append.mp hp with hp | hp
        · exact (h.sub p (List.mem_of_mem_take hp)).trans (List.sublist_append_left _ _)
        · rw [List.mem_singleton.mp hp]; exact (h.sub _ (List.getElem_mem hi)).append (List.Sublist.refl _)
      · exact (h.sub p (List.mem_of_mem_drop hp)).trans (List.sublist_append_left _ _)
    · have hp := h.perm
      rw [esp] at hp
      rw [List.flatten_append, List.flatten_cons] at hp
      rw [List.flatten_append, List.flatten_append, List.flatten_cons, List.flatten_nil, List.append_nil]
      refine List.Perm.trans ?_ (hp.append_right [n])
      rw [List.append_assoc, List.append_assoc, List.append_assoc, List.append_assoc]
      exact ((List.perm_append_comm (l₁ := [n])).append_left _).append_left _
  · split at hq
    · rename_i hlt
      rw [List.mem_singleton.mp hq]
      refine ⟨by rw [List.length_append]; exact hlt, fun p hp => ?_, fun p hp => ?_, ?_⟩
      · rcases List.mem_append.mp hp with hp | hp
        · exact h.ne p hp
        · rw [List.mem_singleton.mp hp]; simp
      · rcases List.mem_append.mp hp with hp | hp
        · exact (h.sub p hp).trans (List.sublist_append_left _ _)
        · rw [List.mem_singleton.mp hp]; exact List.sublist_append_right _ _
      · rw [List.flatten_append]; exact h.perm.append_right _
    · cases hq
theorem pgs_take (w : Nat) (S : List Int) {i : Nat} {n : Int} (h : S[i]? = some n) : pgs w (S.take (i + 1)) = (pgs w (S.take i)).flatMap (pgStep w n) := by
  rw [List.take_add_one, h, ← pgs_snoc]; rfl
theorem pgs_ok (w : Nat) (S : List Int) : ∀ i, i ≤ S.length → ∀ q ∈ pgs w (S.take i), PgOk w (S.take i) q
  | 0, _, q, hq => by
    rw [List.take_zero] at hq ⊢
    rw [List.mem_singleton.mp hq]
    exact ⟨Nat.zero_le _, (fun p hp => by cases hp), (fun p hp => by cases hp), .refl _⟩
  | i + 1, hi, q, hq => by
    have h := List.getElem?_eq_getElem (l := S) (i := i) (by omega)
    rw [pgs_take w S h] at hq
    obtain ⟨p, hp, hq⟩ := List.mem_flatMap.mp hq
    have := pg_step (pgs_ok w S i (by omega) p hp) hq
    rw [List.take_add_one, h]
    exact this
theorem pgs_all {w : Nat} {S : List Int} {q : List (List Int)} (h : q ∈ pgs w S) : PgOk w S q := by
  have := pgs_ok w S S.length (Nat.le_refl _) q (by rw [List.take_of_length_le (Nat.le_refl _)]; exact h)
  rw [List.take_of_length_le (Nat.le_refl _)] at this
  exact this
def cGd (col : Int → Nat) (S : List Int) (parts : List (List Int)) (cs : List Nat) : Prop :=
  cs.Nodup ∧ (∀ c, c ∈ cs ↔ ∃ x ∈ S, col x = c) ∧ parts = cs.map fun c => S.filter fun x => col x == c
theorem col_step {w : Nat} {col : Int → Nat} {S : List Int} {n : Int} {parts : List (List Int)} {cs : List Nat} (hw : ∀ x ∈ S ++ [n], col x < w) (h : cGd col S parts cs) : ∃ q ∈ pgStep w n parts, ∃ cs', cGd col (S ++ [n]) q cs' := by
  obtain ⟨nd, hc, rfl⟩ := h
  have keep : ∀ c, col n ≠ c → (S ++ [n]).filter (fun x => col x == c) = S.filter fun x => col x == c := fun c hne => by
    rw [List.filter_append, List.filter_cons_of_neg (by simpa using hne), List.filter_nil, List.append_nil]
  have own : (S ++ [n]).filter (fun x => col x == col n) = (S.filter fun x => col x == col n) ++ [n] := by
    rw [List.filter_append, List.filter_cons_of_pos (by simp), List.filter_nil]
  have iff' : ∀ c, (∃ x ∈ S ++ [n], col x = c) ↔ (∃ x ∈ S, col x = c) ∨ col n = c := fun c => by
    constructor
    · rintro ⟨x, hx, e⟩
      rcases List.mem_append.mp hx with hx | hx
      · exact .inl ⟨x, hx, e⟩
      · rw [List.mem_singleton.mp hx] at e; exact .inr e
    · rintro (⟨x, hx, e⟩ | e)
      · exact ⟨x, List.mem_append_left _ hx, e⟩
      · exact ⟨n, List.mem_append_right _ (List.mem_singleton.mpr rfl), e⟩
  by_cases hm : col n ∈ cs
  · obtain ⟨A, B, rfl⟩ := List.append_of_mem hm
    have nA : col n ∉ A := fun hA => (List.nodup_append.mp nd).2.2 _ hA _ (List.mem_cons_self ..) rfl
    have nB : col n ∉ B := (List.nodup_cons.mp (List.nodup_append.mp nd).2.1).1
    refine ⟨_, List.mem_append_left _ (List.mem_map.mpr ⟨A.length, List.mem_range.mpr (by simp), rfl⟩), A ++ col n :: B, nd, fun c => ?_, ?_⟩
    · rw [iff', hc c]
      constructor
      · exact .inl
      · rintro (h | rfl)
        · exact h
        · exact (hc _).mp hm
    · rw [List.map_append, List.map_cons, List.map_append, List.map_cons]
      have eA : A.map (fun c => S.filter fun x => col x == c) = A.map fun c => (S ++ [n]).filter fun x => col x == c := List.map_congr_left fun c hcA => (keep c fun e => nA (e ▸ hcA)).symm
      have eB : B.map (fun c => S.filter fun x => col x == c) = B.map fun c => (S ++ [n]).filter fun x => col x == c := List.map_congr_left fun c hcB => (keep c fun e => nB (e ▸ hcB)).symm
      have l1 : A.length = (A.map (fun c => S.filter fun x => col x == c)).length := by rw [List.length_map]
      rw [own, ← eA, ← eB]
      generalize A.map (fun c => S.filter fun x => col x == c) = U at l1
      generalize B.map (fun c => S.filter fun x => col x == c) = W
      generalize S.filter (fun x => col x == col n) = m
      rw [l1]
      have e1 : (U ++ m :: W).take U.length = U := by simp
      have e2 : (U ++ m :: W).getD U.length [] = m := by simp [List.getD_eq_getElem?_getD]
      have e3 : (U ++ m :: W).drop (U.length + 1) = W := by
        have : U.length + 1 = (U ++ [m]).length := by simp
        rw [this, show U ++ m :: W = (U ++ [m]) ++ W by simp, List.drop_left]
      rw [e1, e2, e3, List.append_assoc]; rfl
  · have hlt : cs.length < w := by
      have nd2 : (cs ++ [col n]).Nodup := List.nodup_append.mpr ⟨nd, by simp, fun a ha b hb e => hm (by rw [List.mem_singleton.mp hb] at e; exact e ▸ ha)⟩
      have := List.Nodup.length_le_of_subset nd2 (l₂ := List.range w) fun c hc' => List.mem_range.mpr (by
        rcases List.mem_append.mp hc' with hc' | hc'
        · obtain ⟨x, hx, e⟩ := (hc c).mp hc'
          rw [← e]; exact hw x (List.mem_append_left _ hx)
        · rw [List.mem_singleton.mp hc']; exact hw n (List.mem_append_right _ (List.mem_singleton.mpr rfl)))
      rw [List.length_append, List.length_range, List.length_singleton] at this
      exact this
    refine ⟨_, List.mem_append_right _ (by rw [List.length_map, if_pos hlt]; exact List.mem_singleton.mpr rfl), cs ++ [col n], List.nodup_append.mpr ⟨nd, by simp, fun a ha b hb e => hm (by rw [List.mem_singleton.mp hb] at e; exact e ▸ ha)⟩, fun c => ?_, ?_⟩
    · rw [iff', List.mem_append, hc c, List.mem_singleton]
      exact or_congr Iff.rfl ⟨fun h => h.symm, fun h => h.symm⟩
    · rw [List.map_append, List.map_cons, List.map_nil, own]
      have e0 : S.filter (fun x => col x == col n) = [] := List.filter_eq_nil_iff.mpr fun x hx e => hm ((hc _).mpr ⟨x, hx, by simpa using e⟩)
      rw [e0]
      refine congrArg (· ++ _) (List.map_congr_left fun c hcs => (keep c fun e => hm (e ▸ hcs)).symm)
theorem pgs_col {w : Nat} {col : Int → Nat} {S : List Int} (hw : ∀ x ∈ S, col x < w) : ∀ i, i ≤ S.length → ∃ q ∈ pgs w (S.take i), ∃ cs, cGd col (S.take i) q cs
  | 0, _ => ⟨[], by rw [List.take_zero]; exact List.mem_singleton.mpr rfl, [], List.nodup_nil, fun c => by simp, rfl⟩
  | i + 1, hi => by
    obtain ⟨q, hq, cs, hg⟩ := pgs_col hw i (by omega)
    have h := List.getElem?_eq_getElem (l := S) (i := i) (by omega)
    have et : S.take (i + 1) = S.take i ++ [S[i]] := by rw [List.take_add_one, h]; rfl
    obtain ⟨q2, hq2, cs2, hg2⟩ := col_step (w := w) (n := S[i]) (fun x hx => hw x (by rw [← et] at hx; exact List.mem_of_mem_take hx)) hg
    exact ⟨q2, by rw [pgs_take w S h]; exact List.mem_flatMap.mpr ⟨q, hq, hq2⟩, cs2, by rw [et]; exact hg2⟩
def colOf (x : Int) : List PT → Nat
  | [] => 0
  | t :: r => if x ∈ tLv t then 0 else colOf x r + 1
theorem colOf_at {x : Int} : ∀ {l : List PT} {c : Nat} {t : PT}, (tLvs l).Nodup → l[c]? = some t → x ∈ tLv t → colOf x l = c
  | [], c, t, _, h, _ => by simp at h
  | u :: r, 0, t, _, h, hx => by
    have : u = t := by simpa using h
    subst this
    exact if_pos hx
  | u :: r, c + 1, t, nd, h, hx => by
    have nd : (tLv u ++ tLvs r).Nodup := nd
    have h' : r[c]? = some t := by simpa using h
    have hr : x ∈ tLvs r := by
      obtain ⟨A, B, e⟩ := List.append_of_mem (List.mem_of_getElem? h')
      rw [e, tLvs_app]
      exact List.mem_append_right _ (List.mem_append_left _ hx)
    have nu : x ∉ tLv u := fun hu => (List.nodup_append.mp nd).2.2 x hu x hr rfl
    show (if x ∈ tLv u then 0 else colOf x r + 1) = c + 1
    rw [if_neg nu, colOf_at (List.nodup_append.mp nd).2.1 h' hx]
theorem colOf_in {x : Int} : ∀ {l : List PT}, x ∈ tLvs l → ∃ t, l[colOf x l]? = some t ∧ x ∈ tLv t
  | [], h => by cases h
  | u :: r, h => by
    have h : x ∈ tLv u ++ tLvs r := h
    by_cases hu : x ∈ tLv u
    · exact ⟨u, by show (u :: r)[if x ∈ tLv u then 0 else colOf x r + 1]? = _; rw [if_pos hu]; rfl, hu⟩
    · obtain ⟨t, ht, hx⟩ := colOf_in ((List.mem_append.mp h).resolve_left hu)
      exact ⟨t, by show (u :: r)[if x ∈ tLv u then 0 else colOf x r + 1]? = _; rw [if_neg hu]; simpa using ht, hx⟩
def Lst (ns : List Int) (w : Nat) (S : List Int) (v : Int) : Prop :=
  (∀ t, tPl w t → (tLv t).Perm S → v ≤ tCo ns t) ∧ ∃ t, tPl w t ∧ (tLv t).Perm S ∧ tCo ns t = v
theorem Lst.one {ns : List Int} {w : Nat} {S : List Int} {v u : Int} (h : Lst ns w S v) (g : Lst ns w S u) : v = u := by
  obtain ⟨t, a, b, rfl⟩ := h.2
  obtain ⟨t2, a2, b2, rfl⟩ := g.2
  exact Int.le_antisymm (h.1 t2 a2 b2) (g.1 t a b)
theorem lst_leaf (ns : List Int) (w : Nat) (k : Int) : Lst ns w [k] 0 := by
  refine ⟨fun t ht hp => ?_, .leaf k, trivial, .refl _, rfl⟩
  cases t with
  | leaf k' => exact Int.le_refl _
  | node l =>
    have h1 := tLvs_len w l ht.2.2
    have h2 : (tLvs l).length = 1 := hp.length_eq
    have h3 : 2 ≤ l.length := ht.1
    omega
theorem trees_of {ns : List Int} {w : Nat} {L : List Int → Int} : ∀ parts : List (List Int), (∀ p ∈ parts, Lst ns w p (L p)) → ∃ ts : List PT, ts.length = parts.length ∧ tPls w ts ∧ (tLvs ts).Perm parts.flatten ∧ tCos ns ts = (parts.map L).sum
  | [], _ => ⟨[], rfl, trivial, .refl _, rfl⟩
  | p :: r, h => by
    obtain ⟨ts, a, b, c, d⟩ := trees_of r fun q hq => h q (List.mem_cons_of_mem _ hq)
    obtain ⟨t, a', b', c'⟩ := (h p (List.mem_cons_self ..)).2
    refine ⟨t :: ts, by rw [List.length_cons, List.length_cons, a], ⟨a', b⟩, b'.append c, ?_⟩
    show tCo ns t + tCos ns ts = _
    rw [c', d, List.map_cons, List.sum_cons]
theorem perm_same {A B : List Int} (h1 : A.Nodup) (h2 : B.Nodup) (h : ∀ x, x ∈ A ↔ x ∈ B) : A.Perm B := (List.perm_ext_iff_of_nodup h1 h2).mpr h
theorem sum_le : ∀ {cs : List Nat} {f g : Nat → Int}, (∀ c ∈ cs, f c ≤ g c) → (cs.map f).sum ≤ (cs.map g).sum
  | [], _, _, _ => Int.le_refl _
  | c :: r, f, g, h => by
    rw [List.map_cons, List.map_cons, List.sum_cons, List.sum_cons]
    have h1 := h c (List.mem_cons_self ..)
    have h2 := sum_le (cs := r) fun c hc => h c (List.mem_cons_of_mem _ hc)
    omega
theorem cos_range (ns : List Int) (l : List PT) : ((List.range l.length).map fun c => tCo ns (l.getD c (.leaf 0))).sum = tCos ns l := by
  rw [← sum_tCo]
  congr 1
  refine List.ext_getElem (by simp) fun i h1 h2 => ?_
  simp at h1
  simp [List.getD_eq_getElem?_getD, List.getElem?_eq_getElem h1]
theorem lst_many {ns : List Int} {w : Nat} {S : List Int} {L : List Int → Int} {M : Int} (nd : S.Nodup) (h2 : 2 ≤ S.length) (hL : ∀ q ∈ pgs w S, 1 < q.length → ∀ p ∈ q, Lst ns w p (L p))
    (hin : ∃ q ∈ pgs w S, 1 < q.length ∧ M = (q.map L).sum) (hle : ∀ q ∈ pgs w S, 1 < q.length → M ≤ (q.map L).sum) : Lst ns w S ((S.map (szOf ns)).sum + M) := by
  constructor
  · intro t ht hp
    cases t with
    | leaf k => have : 1 = S.length := hp.length_eq; omega
    | node l =>
      have hp : (tLvs l).Perm S := hp
      have ht : 2 ≤ l.length ∧ l.length ≤ w ∧ tPls w l := ht
      have ndl : (tLvs l).Nodup := hp.nodup_iff.mpr nd
      have inl : ∀ x ∈ S, ∃ t, l[colOf x l]? = some t ∧ x ∈ tLv t := fun x hx => colOf_in (hp.mem_iff.mpr hx)
      have lt' : ∀ x ∈ S, colOf x l < l.length := fun x hx => by obtain ⟨t, ht, _⟩ := inl x hx; exact (List.getElem?_eq_some_iff.mp ht).1
      obtain ⟨q, hq, cs, nc, hc, rfl⟩ := pgs_col (w := w) (col := fun x => colOf x l) (S := S) (fun x hx => Nat.lt_of_lt_of_le (lt' x hx) ht.2.1) S.length (Nat.le_refl _)
      rw [List.take_of_length_le (Nat.le_refl _)] at hq hc
      have hcs : ∀ c, c ∈ cs ↔ c < l.length := fun c => by
        rw [hc c]
        constructor
        · rintro ⟨x, hx, rfl⟩; exact lt' x hx
        · intro hlt
          have hpl : tPl w l[c] := (tPls_iff w l).mp ht.2.2 _ (List.getElem_mem hlt)
          have h1 := tLv_pos w _ hpl
          obtain ⟨x, hx⟩ : ∃ x, x ∈ tLv l[c] := List.exists_mem_of_length_pos h1
          refine ⟨x, hp.mem_iff.mp ?_, colOf_at ndl (List.getElem?_eq_getElem hlt) hx⟩
          obtain ⟨A, B, e⟩ := List.append_of_mem (List.getElem_mem hlt)
          rw [e, tLvs_app]
          exact List.mem_append_right _ (List.mem_append_left _ hx)
      have pc : cs.Perm (List.range l.length) := (List.perm_ext_iff_of_nodup nc List.nodup_range).mpr fun c => by rw [hcs c, List.mem_range]
      have lc : cs.length = l.length := by rw [pc.length_eq, List.length_range]
      have hq1 : 1 < (cs.map fun c => S.filter fun x => colOf x l == c).length := by rw [List.length_map, lc]; omega
      have h3 : M ≤ (cs.map (L ∘ fun c => S.filter fun x => colOf x l == c)).sum := by have h := hle _ hq hq1; rw [List.map_map] at h; exact h
      have h4 := hL _ hq hq1
      have h5 : (cs.map (L ∘ fun c => S.filter fun x => colOf x l == c)).sum ≤ (cs.map fun c => tCo ns (l.getD c (.leaf 0))).sum := sum_le fun c hcc => by
        have hlt := (hcs c).mp hcc
        have eg : l.getD c (.leaf 0) = l[c] := by rw [List.getD_eq_getElem?_getD, List.getElem?_eq_getElem hlt]; rfl
        rw [eg]
        refine (h4 _ (List.mem_map.mpr ⟨c, hcc, rfl⟩)).1 _ ((tPls_iff w l).mp ht.2.2 _ (List.getElem_mem hlt)) (perm_same ?_ (nd.filter _) fun x => ?_)
        · obtain ⟨A, B, e⟩ := List.append_of_mem (List.getElem_mem hlt)
          rw [e, tLvs_app] at ndl
          exact (List.nodup_append.mp (List.nodup_append.mp ndl).2.1).1
        · rw [List.mem_filter]
          constructor
          · intro hx
            refine ⟨hp.mem_iff.mp ?_, by simpa using colOf_at ndl (List.getElem?_eq_getElem hlt) hx⟩
            obtain ⟨A, B, e⟩ := List.append_of_mem (List.getElem_mem hlt)
            rw [e, tLvs_app]
            exact List.mem_append_right _ (List.mem_append_left _ hx)
          · rintro ⟨hx, e⟩
            have e : colOf x l = c := by simpa using e
            obtain ⟨t, ht', hx'⟩ := inl x hx
            rw [e, List.getElem?_eq_getElem hlt] at ht'
            cases ht'
            exact hx'
      have h6 : (cs.map fun c => tCo ns (l.getD c (.leaf 0))).sum = tCos ns l := by rw [← cos_range]; exact perm_sum (pc.map _)
      have h7 : tSzs ns l = (S.map (szOf ns)).sum := by rw [tSzs_lv]; exact perm_sum (hp.map _)
      show _ ≤ tCos ns l + tSzs ns l
      omega
  · obtain ⟨q, hq, hq1, rfl⟩ := hin
    obtain ⟨ts, a, b, c, d⟩ := trees_of q (hL q hq hq1)
    have ok := pgs_all hq
    have pp := c.trans ok.perm
    refine ⟨.node ts, ⟨by omega, by rw [a]; exact ok.len, b⟩, pp, ?_⟩
    show tCos ns ts + tSzs ns ts = _
    rw [d, tSzs_lv, Int.add_comm]
    congr 1
    exact perm_sum (pp.map _)
mutual
theorem tCo_le {ns : List Int} {w : Nat} (h0 : ∀ v ∈ ns, 0 ≤ v) : ∀ t : PT, tPl w t → tCo ns t ≤ ((tLv t).length : Int) * tSz ns t
  | .leaf k, _ => by
    have := tSz_nn h0 (.leaf k)
    show (0 : Int) ≤ ((1 : Nat) : Int) * tSz ns (.leaf k)
    omega
  | .node l, h => by
    have h : 2 ≤ l.length ∧ l.length ≤ w ∧ tPls w l := h
    have h1 := tCos_le (w := w) h0 l h.2.2
    have h2 := tSzs_nn h0 l
    have h3 := tLvs_len w l h.2.2
    have h5 := h1 h.1
    show tCos ns l + tSzs ns l ≤ (((tLvs l).length : Nat) : Int) * tSzs ns l
    have e : (((tLvs l).length : Nat) : Int) * tSzs ns l = ((((tLvs l).length : Nat) : Int) - 1) * tSzs ns l + tSzs ns l := by rw [Int.sub_mul, Int.one_mul]; omega
    omega
theorem tCos_le {ns : List Int} {w : Nat} (h0 : ∀ v ∈ ns, 0 ≤ v) : ∀ l : List PT, tPls w l → 2 ≤ l.length → tCos ns l ≤ ((((tLvs l).length : Nat) : Int) - 1) * tSzs ns l
  | [], _, h => by simp at h
  | [t], _, h => by simp at h
  | t :: u :: r, hp, _ => by
    have a1 := tCo_le (w := w) h0 t hp.1
    have p1 := tLv_pos w t hp.1
    have p2 := tLvs_len w (u :: r) hp.2
    rw [List.length_cons] at p2
    have s1 := tSz_nn h0 t
    have s2 := tSzs_nn h0 (u :: r)
    have e1 : tCos ns (t :: u :: r) = tCo ns t + tCos ns (u :: r) := rfl
    have e2 : tSzs ns (t :: u :: r) = tSz ns t + tSzs ns (u :: r) := rfl
    have e3 : (tLvs (t :: u :: r)).length = (tLv t).length + (tLvs (u :: r)).length := by show (tLv t ++ tLvs (u :: r)).length = _; rw [List.length_append]
    have a2 : tCos ns (u :: r) ≤ (((tLvs (u :: r)).length : Nat) : Int) * tSzs ns (u :: r) := by
      cases r with
      | nil =>
        have := tCo_le (w := w) h0 u hp.2.1
        have e4 : tCos ns [u] = tCo ns u := by show tCo ns u + 0 = _; omega
        have e5 : tSzs ns [u] = tSz ns u := by show tSz ns u + 0 = _; omega
        have e6 : tLvs [u] = tLv u := by show tLv u ++ [] = _; rw [List.append_nil]
        rw [e4, e5, e6]; exact this
      | cons v r =>
        have a3 := tCos_le (w := w) h0 (u :: v :: r) hp.2 (by simp)
        refine Int.le_trans a3 (Int.mul_le_mul_of_nonneg_right (by omega) s2)
    rw [e1, e2, e3]
    have b1 : ((tLv t).length : Int) * tSz ns t ≤ ((((tLv t).length + (tLvs (u :: r)).length : Nat) : Int) - 1) * tSz ns t := Int.mul_le_mul_of_nonneg_right (by omega) s1
    have b2 : (((tLvs (u :: r)).length : Nat) : Int) * tSzs ns (u :: r) ≤ ((((tLv t).length + (tLvs (u :: r)).length : Nat) : Int) - 1) * tSzs ns (u :: r) := Int.mul_le_mul_of_nonneg_right (by omega) s2
    rw [Int.mul_add]
    omega
end
theorem Lst.bd {ns : List Int} {w : Nat} {S : List Int} {v : Int} (h0 : ∀ e ∈ ns, 0 ≤ e ∧ e ≤ 1000000000) (h : Lst ns w S v) (hl : S.length ≤ 5) : 0 ≤ v ∧ v ≤ 100000000000 := by
  obtain ⟨t, a, b, rfl⟩ := h.2
  have n0 : ∀ e ∈ ns, 0 ≤ e := fun e he => (h0 e he).1
  refine ⟨tCo_nn n0 t, ?_⟩
  have h1 := tCo_le n0 t a
  have h2 := tSz_nn n0 t
  have h3 : tSz ns t ≤ ((tLv t).length : Int) * 1000000000 := by
    rw [tSz_lv]
    generalize tLv t = l
    induction l with
    | nil => exact Int.le_refl _
    | cons k r ih =>
      rw [List.map_cons, List.sum_cons, List.length_cons]
      have : ns.getD k.toNat 0 ≤ 1000000000 := by
        rw [List.getD_eq_getElem?_getD]
        cases h : ns[k.toNat]? with
        | none => exact (by decide)
        | some e => exact (h0 e (List.mem_of_getElem? h)).2
      omega
  have h4 : (tLv t).length ≤ 5 := by rw [b.length_eq]; exact hl
  have h5 : tSz ns t ≤ 5000000000 := by omega
  have h6 : ((tLv t).length : Int) * tSz ns t ≤ 5 * tSz ns t := Int.mul_le_mul_of_nonneg_right (by omega) h2
  omega
def pT (p : List Int) : PT := .node (p.map PT.leaf)
def pP (q : List (List Int)) : PT := .node (q.map pT)
theorem TVs.ints {H : Hp} : ∀ {xs : List V} {p : List Int}, TVs H xs (p.map PT.leaf) → xs = p.map V.int
  | _, [], h => by cases h; rfl
  | _, k :: p, h => by
    cases h with
    | cons h hs => cases h; rw [TVs.ints hs]; rfl
theorem ints_TVs {H : Hp} : ∀ p : List Int, TVs H (p.map V.int) (p.map PT.leaf)
  | [] => .nil
  | k :: p => .cons (.leaf k) (ints_TVs p)
theorem TV.part {H : Hp} {x : V} {p : List Int} (h : TV H x (pT p)) : ∃ b, x = .ref b ∧ H b = some (.tup (p.map V.int)) := by
  unfold pT at h
  cases h with
  | node h hs => rw [hs.ints] at h; exact ⟨_, rfl, h⟩
theorem part_TV {H : Hp} {b : Addr} {p : List Int} (h : H b = some (.tup (p.map V.int))) : TV H (.ref b) (pT p) := .node h (ints_TVs p)
theorem TV.pp {H : Hp} {x : V} {q : List (List Int)} (h : TV H x (pP q)) : ∃ b zs, x = .ref b ∧ H b = some (.tup zs) ∧ TVs H zs (q.map pT) := by
  unfold pP at h
  cases h with
  | node h hs => exact ⟨_, _, rfl, h, hs⟩
theorem flat_len {w : Nat} {n : Int} : ∀ {F : List (List (List Int))}, (∀ q ∈ F, q.length ≤ w) → (F.flatMap (pgStep w n)).length ≤ (w + 1) * F.length
  | [], _ => Nat.zero_le _
  | q :: F, h => by
    rw [List.flatMap_cons, List.length_append, List.length_cons, Nat.mul_succ]
    have h1 := flat_len (n := n) (F := F) fun q hq => h q (List.mem_cons_of_mem _ hq)
    have h2 := h q (List.mem_cons_self ..)
    have h3 : (pgStep w n q).length ≤ q.length + 1 := by
      unfold pgStep
      rw [List.length_append, List.length_map, List.length_range]
      split <;> simp
    omega
theorem pgs_len {w : Nat} {S : List Int} : ∀ i, i ≤ S.length → (pgs w (S.take i)).length ≤ (w + 1) ^ i
  | 0, _ => by rw [List.take_zero]; exact Nat.le_refl _
  | i + 1, hi => by
    have h := List.getElem?_eq_getElem (l := S) (i := i) (by omega)
    rw [pgs_take w S h, Nat.pow_succ, Nat.mul_comm]
    refine Nat.le_trans (flat_len fun q hq => (pgs_ok w S i (by omega) q hq).len) (Nat.mul_le_mul_left _ (pgs_len i (by omega)))
theorem pow_small {w i : Nat} (hw : w ≤ 6) (hi : i ≤ 5) : (w + 1) ^ i ≤ 16807 := Nat.le_trans (Nat.pow_le_pow_left (by omega) i) (Nat.le_trans (Nat.pow_le_pow_right (n := 7) (by omega) hi) (by decide))
def spParts : Sp := fun vs H Q _ => ∃ (a : Addr) (S : List Int) (wy : Nat), vs = [.ref a, .int wy] ∧ H a = some (.tup (S.map V.int)) ∧ S.length ≤ 5 ∧ 1 ≤ wy ∧ wy ≤ 6 ∧
  ∀ (r : Addr) (xs : List V) (H' : Hp), H' r = some (.lst xs) → TVs H' xs ((pgs wy S).map pP) → Same H H' → Q (.ref r) H'
theorem sl_not1 {n d : Nat} (h : d < n) : ¬ (HT.sIx n 0 none = 0 ∧ HT.sIx n n (some (d : Int)) = n) := by
  rw [HT.sIx_nat, HT.sIx_none]; omega
theorem sl_not2 {n d : Nat} (h : d < n) : ¬ (HT.sIx n 0 (some ((d : Int) + 1)) = 0 ∧ HT.sIx n n none = n) := by
  have e : (d : Int) + 1 = ((d + 1 : Nat) : Int) := by omega
  rw [e, HT.sIx_nat, HT.sIx_none]; omega
theorem ok_parts (T : Tops K mg) : Df P w K mg base 1 "_law_partings" ["_law_some", "_law_ways_here"] spParts := by
  refine T.t_l_partings.df sc_l_partings (fun vs H Q E h => ?_) (fun cdv f A outer s H vs Q E hr h => ?_)
  · obtain ⟨a, S, wy, rfl, _⟩ := h
    rfl
  obtain ⟨a, S, wy, rfl, hS, hl5, w1, w6, q⟩ := h
  refine ⟨_, (@pss_cons _ _ _ _ _ (@ps_set _ _ 2 _ _ _ _ sc_l_partings.nd rfl (Or.inl rfl) (@pe_lst _ _ _ _ (@pa_cons _ _ _ _ _ (@pe_tup _ _ _ _ _ (@pa_nil _)) (@pa_nil _) (by rfl))) (by rfl) (by first | exact .inl rfl | exact .inr rfl)) (@pss_cons _ _ _ _ _ (@ps_for _ _ _ _ _ _ _ _ PassesOwn.never rfl (@iT _ K _ _ _ (@pv _ 0 _ _ (by rfl) (Or.inl rfl) (by decide) (by decide)) (by rfl)) (@pg_name _ _ 3 _ sc_l_partings.nd rfl (Or.inr rfl) (by first | exact .inl rfl | exact .inr rfl)) (@pss_cons _ _ _ _ _ (@ps_set _ _ 4 _ _ _ _ sc_l_partings.nd rfl (Or.inl rfl) (@pe_lst _ _ _ _ (@pa_nil _)) (by rfl) (by first | exact .inl rfl | exact .inr rfl)) (@pss_cons _ _ _ _ _ (@ps_for _ _ _ _ _ _ _ _ PassesOwn.never rfl (@iL _ K _ _ _ (@pv _ 2 _ _ (by rfl) (Or.inl rfl) (by decide) (by decide)) (by rfl)) (@pg_name _ _ 5 _ sc_l_partings.nd rfl (Or.inr rfl) (by first | exact .inl rfl | exact .inr rfl)) (@pss_cons _ _ _ _ _ (@ps_expr _ _ _ _ (@pe_bm _ _ _ _ _ _ _ _ _ _ _ _ PySem.F.plainAttrs_list PySem.F.slot_list_extend PySem.F.type_list_extend mt_extend (@pv _ 4 _ _ (by rfl) (Or.inl rfl) (by decide) (by decide)) (@pa_cons _ _ _ _ _ (@pe_comp _ _ _ _ _ _ _ _ _ _ _ _ _ _ cs_4 rfl rfl rfl (@pi_range1 _ _ _ _ _ _ rfl T.b.n_range (@pa_cons _ _ _ _ _ (@pe_callB _ _ _ _ _ _ _ _ _ (lenQ K) (by rfl) T.b.n_len PySem.boot_len (@pa_cons _ _ _ _ _ (@pv _ 5 _ _ (by rfl) (Or.inr (Or.inl rfl)) (by decide) (by decide)) (@pa_nil _) (by rfl)) (by decide) (by decide) (by rfl) (by rfl)) (@pa_nil _) (by rfl)) (by rfl)) (fun _ _ _ _ => (@cg _ _ _ _ _ _ _ _ _ _ _ 6 cs_4 rfl (by decide +kernel) (by rfl))) (fun _ _ _ _ => (@pts_nil _)) (fun _ _ _ _ => (@pe_op _ _ _ _ _ _ _ _ (@catA _ K (by rfl)) (@pe_op _ _ _ _ _ _ _ _ (@catA _ K (by rfl)) (@pe_slice _ _ _ _ _ _ _ _ _ _ (slT K) (@cv _ _ _ _ _ _ _ _ _ _ _ 5 cs_4 rfl (by decide +kernel) (by rfl) (by decide) (by decide)) (@po_none _) (@po_some _ _ _ (@cw _ _ _ _ _ _ _ _ _ _ _ 6 cs_4 rfl (by decide +kernel) (by rfl) (by decide) (by decide)))) (@pe_tup _ _ _ _ _ (@pa_cons _ _ _ _ _ (@pe_op _ _ _ _ _ _ _ _ (@catA _ K (by rfl)) (@pe_ix _ _ _ _ _ _ _ (ixT K) (@cv _ _ _ _ _ _ _ _ _ _ _ 5 cs_4 rfl (by decide +kernel) (by rfl) (by decide) (by decide)) (@cw _ _ _ _ _ _ _ _ _ _ _ 6 cs_4 rfl (by decide +kernel) (by rfl) (by decide) (by decide)) (fun _ _ => rfl)) (@pe_tup _ _ _ _ _ (@pa_cons _ _ _ _ _ (@cv _ _ _ _ _ _ _ _ _ _ _ 3 cs_4 rfl (by decide +kernel) (by rfl) (by decide) (by decide)) (@pa_nil _) (by rfl)))) (@pa_nil _) (by rfl)))) (@pe_slice _ _ _ _ _ _ _ _ _ _ (slT K) (@cv _ _ _ _ _ _ _ _ _ _ _ 5 cs_4 rfl (by decide +kernel) (by rfl) (by decide) (by decide)) (@po_some _ _ _ (@pe_op _ _ _ _ _ _ _ _ op_add (@cw _ _ _ _ _ _ _ _ _ _ _ 6 cs_4 rfl (by decide +kernel) (by rfl) (by decide) (by decide)) (@pe_int _ _ _ _))) (@po_none _)))) (by intro _; rfl)) (@pa_nil _) (by rfl)) (by rfl) (by rfl) (by rfl) (by rfl) (by rfl)) (by rfl)) (@pss_one _ _ _ (@ps_if _ _ _ _ _ _ _ _ (@pt_cmpR _ _ _ _ _ _ _ _ op_lt (@pe_callB _ _ _ _ _ _ _ _ _ (lenQ K) (by rfl) T.b.n_len PySem.boot_len (@pa_cons _ _ _ _ _ (@pv _ 5 _ _ (by rfl) (Or.inr (Or.inl rfl)) (by decide) (by decide)) (@pa_nil _) (by rfl)) (by decide) (by decide) (by rfl) (by rfl)) (@pv _ 1 _ _ (by rfl) (Or.inl rfl) (by decide) (by decide)) (nomark _)) (@pss_one _ _ _ (@ps_expr _ _ _ _ (@pe_bm _ _ _ _ _ _ _ _ _ _ _ _ PySem.F.plainAttrs_list PySem.F.slot_list_append PySem.F.type_list_append mt_append (@pv _ 4 _ _ (by rfl) (Or.inl rfl) (by decide) (by decide)) (@pa_cons _ _ _ _ _ (@pe_op _ _ _ _ _ _ _ _ (@catA _ K (by rfl)) (@pv _ 5 _ _ (by rfl) (Or.inr (Or.inl rfl)) (by decide) (by decide)) (@pe_tup _ _ _ _ _ (@pa_cons _ _ _ _ _ (@pe_tup _ _ _ _ _ (@pa_cons _ _ _ _ _ (@pv _ 3 _ _ (by rfl) (Or.inr (Or.inl rfl)) (by decide) (by decide)) (@pa_nil _) (by rfl))) (@pa_nil _) (by rfl)))) (@pa_nil _) (by rfl)) (by rfl) (by rfl) (by rfl) (by rfl) (by rfl)) (by rfl))) (@pss_nil _)))) (by intro _; rfl)) (@pss_one _ _ _ (@ps_set _ _ 2 _ _ _ _ sc_l_partings.nd rfl (Or.inl rfl) (@pv _ 4 _ _ (by rfl) (Or.inl rfl) (by decide) (by decide)) (by rfl) (by first | exact .inl rfl | exact .inr rfl))))) (by intro _; rfl)) (@pss_one _ _ _ (@ps_ret _ _ _ _ (@pv _ 2 _ _ (by rfl) (Or.inl rfl) (by decide) (by decide)))))), ?_⟩
  refine ⟨(by show 0 ≤ sizeLine; decide), fun e0 he0 => ⟨(by show 1 ≤ sizeLine; decide), fun r0 hr0 => ?_⟩⟩
  have s0 := same_new he0 (.tup [])
  have s1 := same_new hr0 (.lst [.ref e0])
  have nn : e0 ≠ r0 := ne_of_none (o := .tup []) upd_same hr0
  refine ⟨_, rfl, a, rfl, ⟨_, SqT.of (s1 _ _ (s0 _ _ hS))⟩, ?_⟩
  refine for_tup (K := K) (a := a) (xs := S.map V.int) (fun i σ H2 => ∃ (r : Addr) (xs : List V) (v3 v4 v5 : Option V), σ = [some (.ref a), some (.int wy), some (.ref r), v3, v4, v5] ∧ H2 r = some (.lst xs) ∧ TVs H2 xs ((pgs wy (S.take i)).map pP) ∧ i ≤ S.length ∧ Same H H2) ⟨r0, [.ref e0], none, none, none, rfl, upd_same, ?_, Nat.zero_le _, s0.trans s1⟩ (fun _ _ _ _ ⟨_, _, _, _, _, _, _, _, _, k2⟩ => SqT.of (k2 _ _ hS)) ?_ ?_
  · rw [List.take_zero]
    exact .cons (.node (xs := []) (by rw [upd_ne nn]; exact upd_same) .nil) .nil
  · rintro i x σ H2 hx ⟨r, xs, v3, v4, v5, rfl, hr2, hT, hi, s2⟩
    rw [List.getElem?_map] at hx
    cases hn : S[i]? with
    | none => rw [hn] at hx; cases hx
    | some n =>
    rw [hn] at hx
    cases hx
    have hil := (List.getElem?_eq_some_iff.mp hn).1
    refine ⟨(by show 0 ≤ sizeLine; decide), fun l hl => ?_⟩
    have s3 := same_new hl (.lst [])
    have nrl : r ≠ l := ne_of_none hr2 hl
    have lF : (pgs wy (S.take i)).length ≤ 16807 := Nat.le_trans (pgs_len i hi) (pow_small w6 (by omega))
    have lX : xs.length = (pgs wy (S.take i)).length := by rw [hT.len, List.length_map]
    refine ⟨_, rfl, r, rfl, ⟨_, SqL.of (s3 _ _ hr2)⟩, ?_⟩
    refine for_list (K := K) (a := r) (xs := xs) (fun j σ H3 => ∃ (ys : List V) (v5 : Option V), σ = [some (.ref a), some (.int wy), some (.ref r), some (.int n), some (.ref l), v5] ∧ H3 l = some (.lst ys) ∧ TVs H3 ys ((((pgs wy (S.take i)).take j).flatMap (pgStep wy n)).map pP) ∧ j ≤ xs.length ∧ Same H2 H3) ⟨[], v5, rfl, upd_same, ?_, Nat.zero_le _, s3⟩ (fun _ _ _ _ ⟨_, _, _, _, _, _, k3⟩ => SqL.of (k3 _ _ hr2)) ?_ ?_
    · rw [List.take_zero]; exact .nil
    · rintro j x σ H3 hx ⟨ys, v5, rfl, hl3, hY, hj, k3⟩
      obtain ⟨t, ht, hv⟩ := hT.at hx
      have hjl := (List.getElem?_eq_some_iff.mp hx).1
      rw [List.getElem?_map] at ht
      cases hq : (pgs wy (S.take i))[j]? with
      | none => rw [hq] at ht; cases ht
      | some qq =>
      rw [hq] at ht
      cases ht
      obtain ⟨b, zs, rfl, hb2, hZ2⟩ := hv.pp
      have hb3 := k3 _ _ hb2
      have hZ3 := hZ2.mono (same_tup k3)
      have hzl : zs.length = qq.length := by rw [hZ2.len, List.length_map]
      have okq := pgs_ok wy S i hi qq (List.mem_of_getElem? hq)
      have hq6 := okq.len
      refine ⟨_, rfl, .inl ⟨rfl, _, SqL.of hl3⟩, _, rfl, b, _, rfl, .inr (SqT.of hb3), _, rfl, by omega, by omega, fun D hD => ?_⟩
      have nlD : l ≠ D := ne_of_none hl3 hD
      refine comp_range (fun m us σ H4 => (∃ v : Option V, σ = [some (.ref a), some (.int wy), some (.ref r), some (.int n), some (.ref l), some (.ref b), v]) ∧ H4 D = some (.lst us) ∧ us.length = m ∧ m ≤ zs.length ∧ TVs H4 us (((List.range m).map fun i => qq.take i ++ [qq.getD i [] ++ [n]] ++ qq.drop (i + 1)).map pP) ∧ Same H3 H4) ⟨⟨none, rfl⟩, upd_same, rfl, Nat.zero_le _, .nil, same_new hD _⟩ ?_ ?_
      · rintro m us σ H4 hm ⟨⟨v, rfl⟩, hD4, hul, _, hU, k4⟩
        have hm' : m < zs.length := by omega
        have hb4 := k4 _ _ hb3
        have hZ4 := hZ3.mono (same_tup k4)
        have hmq : m < qq.length := by omega
        have em : (0 : Int) + (m : Int) = (m : Int) := by omega
        refine ⟨_, rfl, _, rfl, _, rfl, b, zs, rfl, SqT.of hb4, by rw [em]; exact sl_not1 hm', fun p1 hp1 => ?_⟩
        have s5 := same_new hp1 (.tup (cutV zs none (some (0 + (m : Int)))))
        have h5 : (upd H4 p1 (.tup (cutV zs none (some (0 + (m : Int)))))) p1 = some (.tup (cutV zs none (some (0 + (m : Int))))) := upd_same
        generalize upd H4 p1 (.tup (cutV zs none (some (0 + (m : Int))))) = H5 at s5 h5 ⊢
        rw [em, cutV_to] at h5
        obtain ⟨z, hz, hv⟩ := hZ4.get (i := m) (t := pT qq[m]) (by rw [List.getElem?_map, List.getElem?_eq_getElem hmq]; rfl)
        obtain ⟨c, rfl, hc⟩ := hv.part
        refine ⟨_, rfl, _, rfl, b, zs, _, _, rfl, rfl, SqT.of (s5 _ _ hb4), by rw [em]; exact atI_nat hz, _, rfl, (by show 1 ≤ sizeLine; decide), fun p2 hp2 => ?_⟩
        have s6 := same_new hp2 (.tup [.int n])
        have h6 : (upd H5 p2 (.tup [.int n])) p2 = some (.tup [.int n]) := upd_same
        generalize upd H5 p2 (.tup [.int n]) = H6 at s6 h6 ⊢
        have hpl : qq[m].length ≤ 5 := Nat.le_trans (okq.sub _ (List.getElem_mem hmq)).length_le (by rw [List.length_take]; omega)
        refine catA_go (s6 _ _ (s5 _ _ hc)) h6 (by rw [List.length_map, List.length_singleton, sizeLine_eq]; omega) fun r3 H7 s7 h7 => ⟨(by show 1 ≤ sizeLine; decide), fun p4 hp4 => ?_⟩
        have s8 := same_new hp4 (.tup [.ref r3])
        have h8 : (upd H7 p4 (.tup [.ref r3])) p4 = some (.tup [.ref r3]) := upd_same
        generalize upd H7 p4 (.tup [.ref r3]) = H8 at s8 h8 ⊢
        have s58 : Same H5 H8 := fun x o hx => s8 x o (s7 x o (s6 x o hx))
        refine catA_go (s58 _ _ h5) h8 (by rw [List.length_take, List.length_singleton, sizeLine_eq]; omega) fun r5 H9 s9 h9 => ?_
        have s49 : Same H4 H9 := fun x o hx => s9 x o (s58 x o (s5 x o hx))
        refine ⟨_, rfl, _, rfl, _, _, rfl, rfl, _, rfl, b, zs, rfl, SqT.of (s49 _ _ hb4), by rw [em]; exact sl_not2 hm', fun p6 hp6 => ?_⟩
        have s10 := same_new hp6 (.tup (cutV zs (some (0 + (m : Int) + 1)) none))
        have h10 : (upd H9 p6 (.tup (cutV zs (some (0 + (m : Int) + 1)) none))) p6 = some (.tup (cutV zs (some (0 + (m : Int) + 1)) none)) := upd_same
        generalize upd H9 p6 (.tup (cutV zs (some (0 + (m : Int) + 1)) none)) = H10 at s10 h10 ⊢
        rw [show (0 : Int) + (m : Int) + 1 = ((m + 1 : Nat) : Int) by omega, cutV_fr] at h10
        refine catA_go (s10 _ _ h9) h10 (by rw [List.length_append, List.length_take, List.length_drop, List.length_singleton, sizeLine_eq]; omega) fun r7 H11 s11 h11 => ?_
        have s4e : Same H4 H11 := fun x o hx => s11 x o (s10 x o (s49 x o hx))
        have hD11 := s4e _ _ hD4
        refine ⟨hD11, by rw [hul]; exact small1000 (by omega), ⟨_, rfl⟩, upd_same, by rw [List.length_append, hul]; rfl, hm', ?_, fun x o hx => ?_⟩
        · rw [List.range_succ, List.map_append, List.map_append]
          have tt : ∀ {x : V} {t : PT}, TV H11 x t → TV (upd H11 D (.lst (us ++ [.ref r7]))) x t := fun h => h.mono (tup_upd hD11 _)
          refine TVs.app ((hU.mono (same_tup s4e)).mono (tup_upd hD11 _)) (.cons (tt (.node h11 ?_)) .nil)
          rw [List.map_append, List.map_append, List.map_take, List.map_drop]
          refine TVs.app (TVs.app ((hZ4.take m).mono (same_tup s4e)) (.cons (part_TV (p := qq.getD m [] ++ [n]) ?_) .nil)) ((hZ4.drop (m + 1)).mono (same_tup s4e))
          have h7' := s11 _ _ (s10 _ _ (s9 _ _ (s8 _ _ h7)))
          rw [List.map_append, List.getD_eq_getElem?_getD, List.getElem?_eq_getElem hmq]
          exact h7'
        · rw [upd_ne (ne_of_none hx hD)]; exact s4e _ _ (k4 x o hx)
      · rintro us σ H4 ⟨⟨v, rfl⟩, hD4, hul, _, hU, k4⟩
        have hl4 := k4 _ _ hl3
        have hyl : ys.length ≤ 120000 := by
          rw [hY.len, List.length_map]
          refine Nat.le_trans (flat_len (w := wy) fun q hq => (pgs_ok wy S i hi q (List.mem_of_mem_take hq)).len) ?_
          rw [List.length_take]
          have : (wy + 1) * min j (pgs wy (S.take i)).length ≤ 7 * j := Nat.mul_le_mul (by omega) (Nat.min_le_left _ _)
          omega
        have hyu : ys.length + us.length ≤ sizeLine := by rw [sizeLine_eq]; omega
        refine ⟨l, D, ys, us, rfl, rfl, hl4, hD4, hyu, ?_⟩
        have k5 : ∀ x o, H3 x = some o → x ≠ l → (upd H4 l (.lst (ys ++ us))) x = some o := fun x o hx nx => by rw [upd_ne nx]; exact k4 x o hx
        have hl5 : (upd H4 l (.lst (ys ++ us))) l = some (.lst (ys ++ us)) := upd_same
        have t5 := tup_upd hl4 (.lst (ys ++ us))
        generalize upd H4 l (.lst (ys ++ us)) = H5 at k5 hl5 t5 ⊢
        have hb5 := k5 _ _ hb3 (fun z => by rw [z, hl3] at hb3; cases hb3)
        have t35 : ∀ x zs, H3 x = some (.tup zs) → H5 x = some (.tup zs) := fun x zs hx => t5 _ _ (k4 x _ hx)
        have efl : ((pgs wy (S.take i)).take (j + 1)).flatMap (pgStep wy n) = ((pgs wy (S.take i)).take j).flatMap (pgStep wy n) ++ pgStep wy n qq := by
          rw [List.take_add_one, hq, List.flatMap_append]; show _ ++ (pgStep wy n qq ++ []) = _; rw [List.append_nil]
        have hY5 : TVs H5 (ys ++ us) ((((pgs wy (S.take i)).take j).flatMap (pgStep wy n) ++ ((List.range qq.length).map fun i => qq.take i ++ [qq.getD i [] ++ [n]] ++ qq.drop (i + 1))).map pP) := by
          rw [List.map_append]
          refine TVs.app (hY.mono t35) ?_
          rw [← hzl]
          simp only [Int.toNat_natCast] at hU
          exact hU.mono t5
        refine ⟨_, rfl, b, _, rfl, .inr (SqT.of hb5), _, rfl, _, _, rfl, rfl, _, rfl, ?_⟩
        have s25 : ∀ x o, H2 x = some o → H5 x = some o := fun x o hx => k5 x o (k3 x o hx) (ne_of_none hx hl)
        refine ite2 (fun hlt => ?_) (fun hge => ?_)
        · have hlt : qq.length < wy := by have z := of_decide_eq_true hlt; omega
          refine ⟨_, rfl, .inl ⟨rfl, _, SqL.of hl5⟩, _, rfl, _, rfl, (by show 1 ≤ sizeLine; decide), fun p1 hp1 => ⟨(by show 1 ≤ sizeLine; decide), fun p2 hp2 => ?_⟩⟩
          have s6 := same_new hp1 (.tup [.int n])
          have h6 : (upd H5 p1 (.tup [.int n])) p1 = some (.tup [.int n]) := upd_same
          generalize upd H5 p1 (.tup [.int n]) = H6 at s6 h6 hp2 ⊢
          have s7 := same_new hp2 (.tup [.ref p1])
          have h7 : (upd H6 p2 (.tup [.ref p1])) p2 = some (.tup [.ref p1]) := upd_same
          generalize upd H6 p2 (.tup [.ref p1]) = H7 at s7 h7 ⊢
          refine catA_go (s7 _ _ (s6 _ _ hb5)) h7 (by rw [List.length_singleton, sizeLine_eq]; omega) fun r8 H8 s8 h8 => ?_
          have s58 : Same H5 H8 := fun x o hx => s8 x o (s7 x o (s6 x o hx))
          have hl8 := s58 _ _ hl5
          refine ⟨l, _, _, rfl, rfl, hl8, by rw [List.length_append, sizeLine_eq]; omega, _, _, rfl, upd_same, ?_, hjl, fun x o hx => ?_⟩
          · have eg : pgStep wy n qq = ((List.range qq.length).map fun i => qq.take i ++ [qq.getD i [] ++ [n]] ++ qq.drop (i + 1)) ++ [qq ++ [[n]]] := by unfold pgStep; rw [if_pos hlt]
            rw [efl, eg, ← List.append_assoc, List.map_append]
            have tt := tup_upd hl8 (.lst (ys ++ us ++ [.ref r8]))
            refine TVs.app ((hY5.mono (same_tup s58)).mono tt) (.cons (TV.mono tt (.node h8 ?_)) .nil)
            rw [List.map_append]
            exact TVs.app ((hZ3.mono t35).mono (same_tup s58)) (.cons (part_TV (p := [n]) (s8 _ _ (s7 _ _ h6))) .nil)
          · rw [upd_ne (ne_of_none hx hl)]; exact s58 _ _ (s25 x o hx)
        · have hge : ¬ qq.length < wy := fun z => hge (decide_eq_true (by omega))
          refine ⟨_, _, rfl, hl5, ?_, hjl, s25⟩
          have eg : pgStep wy n qq = ((List.range qq.length).map fun i => qq.take i ++ [qq.getD i [] ++ [n]] ++ qq.drop (i + 1)) := by unfold pgStep; rw [if_neg hge, List.append_nil]
          rw [efl, eg]; exact hY5
    · rintro σ H3 ⟨ys, v5, rfl, hl3, hY, hj, k3⟩
      refine ⟨_, rfl, l, ys, _, _, _, rfl, hl3, ?_, hil, s2.trans k3⟩
      rw [lX, List.take_of_length_le (Nat.le_refl _)] at hY
      rw [pgs_take wy S hn]; exact hY
  · rintro σ H2 ⟨r, xs, v3, v4, v5, rfl, hr2, hT, hi, s2⟩
    rw [List.length_map, List.take_of_length_le (Nat.le_refl _)] at hT
    exact ⟨_, rfl, q r xs H2 hr2 hT s2⟩
def setsN : Nat → List (List Int)
  | 0 => [[]]
  | m + 1 => setsN m ++ (setsN m).map (· ++ [(m : Int)])
theorem setsN_len : ∀ m, (setsN m).length = 2 ^ m
  | 0 => rfl
  | m + 1 => by show (setsN m ++ (setsN m).map _).length = _; rw [List.length_append, List.length_map, setsN_len m, Nat.pow_succ]; omega
def rngI (m : Nat) : List Int := (List.range m).map fun i : Nat => (i : Int)
theorem rngI_succ (m : Nat) : rngI (m + 1) = rngI m ++ [(m : Int)] := by unfold rngI; rw [List.range_succ, List.map_append]; rfl
theorem rngI_nd (m : Nat) : (rngI m).Nodup := List.pairwise_map.mpr (List.nodup_range.imp fun h g => h (by omega))
theorem rngI_lt {m : Nat} {x : Int} (h : x ∈ rngI m) : 0 ≤ x ∧ x < m := by
  obtain ⟨i, hi, rfl⟩ := List.mem_map.mp h
  have := List.mem_range.mp hi
  omega
theorem setsN_sub : ∀ {m : Nat} {S : List Int}, S ∈ setsN m → S.Sublist (rngI m)
  | 0, S, h => by rw [List.mem_singleton.mp h]; exact List.Sublist.refl _
  | m + 1, S, h => by
    rw [rngI_succ]
    rcases List.mem_append.mp h with h | h
    · exact (setsN_sub h).trans (List.sublist_append_left _ _)
    · obtain ⟨S', h', rfl⟩ := List.mem_map.mp h
      exact (setsN_sub h').append (List.Sublist.refl _)
theorem sub_setsN : ∀ {m : Nat} {S : List Int}, S.Sublist (rngI m) → S ∈ setsN m
  | 0, S, h => by have : S = [] := List.sublist_nil.mp h; rw [this]; exact List.mem_singleton.mpr rfl
  | m + 1, S, h => by
    rw [rngI_succ] at h
    obtain ⟨A, B, rfl, hA, hB⟩ := List.sublist_append_iff.mp h
    have h1 := sub_setsN hA
    rcases List.sublist_cons_iff.mp hB with hB | ⟨r, e, hr⟩
    · have : B = [] := List.sublist_nil.mp hB
      rw [this, List.append_nil]; exact List.mem_append_left _ h1
    · have : r = [] := List.sublist_nil.mp hr
      rw [this] at e
      rw [e]; exact List.mem_append_right _ (List.mem_map_of_mem (f := (· ++ [(m : Int)])) h1)
theorem setsN_nd : ∀ m, (setsN m).Nodup
  | 0 => by simp [setsN]
  | m + 1 => by
    refine List.nodup_append.mpr ⟨setsN_nd m, List.pairwise_map.mpr ((setsN_nd m).imp fun {a b} h g => h (List.append_cancel_right g)), fun a ha b hb e => ?_⟩
    obtain ⟨c, hc, rfl⟩ := List.mem_map.mp hb
    have hm : (m : Int) ∈ a := by rw [e]; simp
    have := rngI_lt ((setsN_sub ha).subset hm)
    omega
theorem parts_TL {H : Hp} : ∀ {xs : List V} {SS : List (List Int)}, TVs H xs (SS.map pT) → ∃ ts : TL, xs = tRefs ts ∧ (∀ t ∈ ts, H t.1 = some (.tup t.2)) ∧ ts.map (·.2) = SS.map (·.map V.int)
  | _, [], h => by cases h; exact ⟨[], rfl, (fun t ht => by cases ht), rfl⟩
  | _, S :: SS, h => by
    cases h with
    | cons h hs =>
      obtain ⟨b, rfl, hb⟩ := h.part
      obtain ⟨ts, rfl, ha, e⟩ := parts_TL hs
      refine ⟨(b, S.map V.int) :: ts, rfl, fun t ht => ?_, by rw [List.map_cons, List.map_cons, e]⟩
      rcases List.mem_cons.mp ht with rfl | ht
      · exact hb
      · exact ha t ht
theorem TL_parts {H : Hp} : ∀ {ts : TL} {SS : List (List Int)}, (∀ t ∈ ts, H t.1 = some (.tup t.2)) → ts.map (·.2) = SS.map (·.map V.int) → TVs H (tRefs ts) (SS.map pT)
  | [], [], _, _ => .nil
  | [], S :: SS, _, e => by cases e
  | t :: ts, [], _, e => by cases e
  | t :: ts, S :: SS, h, e => by
    rw [List.map_cons, List.map_cons] at e
    injection e with e1 e2
    refine .cons (part_TV (p := S) ?_) (TL_parts (fun t ht => h t (List.mem_cons_of_mem _ ht)) e2)
    rw [← e1]; exact h t (List.mem_cons_self ..)
def spSets : Sp := fun vs H Q _ => ∃ (m : Nat), vs = [.int m] ∧ m ≤ 5 ∧
  ∀ (r : Addr) (xs : List V) (SS : List (List Int)) (H' : Hp), H' r = some (.lst xs) → TVs H' xs (SS.map pT) → SS.Perm ((setsN m).filter fun S => !S.isEmpty) → SS.Pairwise (fun a b => a.length ≤ b.length) → Same H H' → Q (.ref r) H'
theorem ne_nilT (A : List Int) : (if true = true then !PyData.eqv (.tuple (A.map PyData.int)) (.tuple []) else PyData.eqv (.tuple (A.map PyData.int)) (.tuple [])) = !A.isEmpty := by
  cases A with
  | nil => decide +kernel
  | cons t r => simp [PyData.eqv, PyData.eqvAll]
theorem shapedT {A : List Int} : SeqAt.shaped (.tuple (A.map PyData.int)) = true := by
  have h : ∀ A : List Int, PyData.canLayAll0 (A.map PyData.int) = true ∧ PyData.depthAll (A.map PyData.int) = 0 := fun A => by
    induction A with
    | nil => exact ⟨rfl, rfl⟩
    | cons a r ih => simp [PyData.canLayAll0, PyData.canLay0, PyData.depthAll, PyData.depth, ih.1, ih.2]
  simp [SeqAt.shaped, PyData.canLay0, PyData.depth, (h A).1, (h A).2]
theorem shapedL {A : List Int} : SeqAt.shaped (.list (A.map PyData.int)) = true := by
  have h : ∀ A : List Int, PyData.canLayAll0 (A.map PyData.int) = true ∧ PyData.depthAll (A.map PyData.int) = 0 := fun A => by
    induction A with
    | nil => exact ⟨rfl, rfl⟩
    | cons a r ih => simp [PyData.canLayAll0, PyData.canLay0, PyData.depthAll, PyData.depth, ih.1, ih.2]
  simp [SeqAt.shaped, PyData.canLay0, PyData.depth, (h A).1, (h A).2]
theorem ok_sets (T : Tops K mg) : Df P w K mg base 1 "_law_sets" ["_law_many_here"] spSets := by
  refine T.t_l_sets.df sc_l_sets (fun vs H Q E h => ?_) (fun cdv f A outer s H vs Q E hr h => ?_)
  · obtain ⟨m, rfl, _⟩ := h
    rfl
  obtain ⟨m, rfl, hm5, q⟩ := h
  refine ⟨_, (@pss_cons _ _ _ _ _ (@ps_set _ _ 1 _ _ _ _ sc_l_sets.nd rfl (Or.inl rfl) (@pe_lst _ _ _ _ (@pa_cons _ _ _ _ _ (@pe_tup _ _ _ _ _ (@pa_nil _)) (@pa_nil _) (by rfl))) (by rfl) (by first | exact .inl rfl | exact .inr rfl)) (@pss_cons _ _ _ _ _ (@ps_for _ _ _ _ _ _ _ _ PassesOwn.never rfl (@pi_range1 _ _ _ _ _ _ rfl T.b.n_range (@pa_cons _ _ _ _ _ (@pv _ 0 _ _ (by rfl) (Or.inl rfl) (by decide) (by decide)) (@pa_nil _) (by rfl)) (by rfl)) (@pg_name _ _ 2 _ sc_l_sets.nd rfl (Or.inr rfl) (by first | exact .inl rfl | exact .inr rfl)) (@pss_one _ _ _ (@ps_set _ _ 1 _ _ _ _ sc_l_sets.nd rfl (Or.inl rfl) (@pe_op _ _ _ _ _ _ _ _ op_cat (@pv _ 1 _ _ (by rfl) (Or.inl rfl) (by decide) (by decide)) (@pe_comp _ _ _ _ _ _ _ _ _ _ _ _ _ _ cs_5 rfl rfl rfl (@iL _ K _ _ _ (@pv _ 1 _ _ (by rfl) (Or.inl rfl) (by decide) (by decide)) (by rfl)) (fun _ _ _ _ => (@cg _ _ _ _ _ _ _ _ _ _ _ 3 cs_5 rfl (by decide +kernel) (by rfl))) (fun _ _ _ _ => (@pts_nil _)) (fun _ _ _ _ => (@pe_op _ _ _ _ _ _ _ _ (@catA _ K (by rfl)) (@cw _ _ _ _ _ _ _ _ _ _ _ 3 cs_5 rfl (by decide +kernel) (by rfl) (by decide) (by decide)) (@pe_tup _ _ _ _ _ (@pa_cons _ _ _ _ _ (@cv _ _ _ _ _ _ _ _ _ _ _ 2 cs_5 rfl (by decide +kernel) (by rfl) (by decide) (by decide)) (@pa_nil _) (by rfl))))) (by intro _; rfl))) (by rfl) (by first | exact .inl rfl | exact .inr rfl))) (by intro _; rfl)) (@pss_one _ _ _ (@ps_ret _ _ _ _ (@pe_srtLen _ _ _ _ _ _ _ _ K hr (by rfl) T.b.n_sorted (by rfl) T.b.n_len (@pa_cons _ _ _ _ _ (@pe_comp _ _ _ _ _ _ _ _ _ _ _ _ _ _ cs_6 rfl rfl rfl (@iL _ K _ _ _ (@pv _ 1 _ _ (by rfl) (Or.inl rfl) (by decide) (by decide)) (by rfl)) (fun _ _ _ _ => (@cg _ _ _ _ _ _ _ _ _ _ _ 3 cs_6 rfl (by decide +kernel) (by rfl))) (fun _ _ _ _ => (@pts_one _ _ _ (@pt_cmpR _ _ _ _ _ _ _ _ (@neD _ K _ hr (by rfl)) (@cw _ _ _ _ _ _ _ _ _ _ _ 3 cs_6 rfl (by decide +kernel) (by rfl) (by decide) (by decide)) (@pe_tup _ _ _ _ _ (@pa_nil _)) (nomark _)))) (fun _ _ _ _ => (@cw _ _ _ _ _ _ _ _ _ _ _ 3 cs_6 rfl (by decide +kernel) (by rfl) (by decide) (by decide))) (by intro _; rfl)) (@pa_nil _) (by rfl)) (by rfl) (by rfl) (by rfl)))))), ?_⟩
  refine ⟨(by show 0 ≤ sizeLine; decide), fun e0 he0 => ⟨(by show 1 ≤ sizeLine; decide), fun r0 hr0 => ?_⟩⟩
  have s0 := same_new he0 (.tup [])
  have s1 := same_new hr0 (.lst [.ref e0])
  have nn : e0 ≠ r0 := ne_of_none (o := .tup []) upd_same hr0
  refine ⟨_, rfl, _, rfl, by omega, by omega, ?_⟩
  have p32 : ∀ i, i ≤ 5 → (setsN i).length ≤ 32 := fun i hi => by rw [setsN_len]; exact Nat.le_trans (Nat.pow_le_pow_right (n := 2) (by omega) hi) (by decide)
  refine for_range (fun i σ H2 => ∃ (r : Addr) (xs : List V) (v2 : Option V), σ = [some (.int m), some (.ref r), v2] ∧ H2 r = some (.lst xs) ∧ TVs H2 xs ((setsN i).map pT) ∧ i ≤ m ∧ Same H H2) ⟨r0, [.ref e0], none, rfl, upd_same, ?_, Nat.zero_le _, s0.trans s1⟩ ?_ ?_
  · exact .cons (part_TV (p := []) (by rw [upd_ne nn]; exact upd_same)) .nil
  · rintro i σ H2 hi ⟨r, xs, v2, rfl, hr2, hT, hi', s2⟩
    have him : i < m := by omega
    have lX : xs.length = (setsN i).length := by rw [hT.len, List.length_map]
    have l32 := p32 i (by omega)
    refine ⟨_, rfl, _, rfl, r, rfl, ⟨_, SqL.of hr2⟩, fun D hD => ?_⟩
    refine comp_list (K := K) (a := r) (xs := xs) (fun j us σ H4 => (∃ v : Option V, σ = [some (.int m), some (.ref r), some (.int (0 + (i : Int))), v]) ∧ H4 D = some (.lst us) ∧ us.length = j ∧ j ≤ xs.length ∧ TVs H4 us (((setsN i).take j).map fun S => pT (S ++ [(i : Int)])) ∧ Same H2 H4) ⟨⟨none, rfl⟩, upd_same, rfl, Nat.zero_le _, .nil, same_new hD _⟩ (fun _ _ _ _ h => SqL.of (h.2.2.2.2.2 _ _ hr2)) ?_ ?_
    · rintro j x us σ H4 hx ⟨⟨v, rfl⟩, hD4, hul, _, hU, k4⟩
      obtain ⟨t, ht, hv⟩ := hT.at hx
      have hjl := (List.getElem?_eq_some_iff.mp hx).1
      rw [List.getElem?_map] at ht
      cases hq : (setsN i)[j]? with
      | none => rw [hq] at ht; cases ht
      | some S =>
      rw [hq] at ht
      cases ht
      obtain ⟨b, rfl, hb⟩ := hv.part
      have hb4 := k4 _ _ hb
      have hSl : S.length ≤ 5 := by
        have := (setsN_sub (List.mem_of_getElem? hq)).length_le
        unfold rngI at this
        rw [List.length_map, List.length_range] at this
        omega
      refine ⟨_, rfl, _, rfl, (by show 1 ≤ sizeLine; decide), fun p2 hp2 => ?_⟩
      have s6 := same_new hp2 (.tup [.int (0 + (i : Int))])
      have h6 : (upd H4 p2 (.tup [.int (0 + (i : Int))])) p2 = some (.tup [.int (0 + (i : Int))]) := upd_same
      generalize upd H4 p2 (.tup [.int (0 + (i : Int))]) = H6 at s6 h6 ⊢
      refine catA_go (s6 _ _ hb4) h6 (by rw [List.length_map, List.length_singleton, sizeLine_eq]; omega) fun r3 H7 s7 h7 => ?_
      have s47 : Same H4 H7 := fun x o hx => s7 x o (s6 x o hx)
      have hD7 := s47 _ _ hD4
      refine ⟨hD7, by rw [hul, sizeLine_eq]; omega, ⟨_, rfl⟩, upd_same, by rw [List.length_append, hul]; rfl, hjl, ?_, fun x o hx => ?_⟩
      · rw [List.take_add_one, hq, List.map_append]
        refine TVs.app ((hU.mono (same_tup s47)).mono (tup_upd hD7 _)) (.cons (part_TV (p := S ++ [(i : Int)]) (tup_upd hD7 _ _ _ ?_)) .nil)
        rw [List.map_append, h7, Int.zero_add]; rfl
      · rw [upd_ne (ne_of_none hx hD)]; exact s47 _ _ (k4 x o hx)
    · rintro us σ H4 ⟨⟨v, rfl⟩, hD4, hul, _, hU, k4⟩
      have hr4 := k4 _ _ hr2
      refine ⟨r, D, xs, us, rfl, rfl, hr4, hD4, by rw [hul, sizeLine_eq]; omega, fun p hp => ?_⟩
      have s5 := same_new hp (.lst (xs ++ us))
      refine ⟨p, _, _, rfl, upd_same, ?_, by omega, fun x o hx => s5 _ _ (k4 _ _ (s2 x o hx))⟩
      show TVs _ _ ((setsN i ++ (setsN i).map (· ++ [(i : Int)])).map pT)
      rw [List.map_append]
      rw [lX, List.take_of_length_le (Nat.le_refl _)] at hU
      refine TVs.app ((hT.mono (same_tup k4)).mono (same_tup s5)) ?_
      rw [List.map_map]
      exact hU.mono (same_tup s5)
  · rintro σ H2 ⟨r, xs, v2, rfl, hr2, hT, hi', s2⟩
    rw [Int.toNat_natCast] at hT
    have lX : xs.length = (setsN m).length := by rw [hT.len, List.length_map]
    have l32 := p32 m hm5
    refine ⟨_, rfl, r, rfl, ⟨_, SqL.of hr2⟩, fun D hD => ?_⟩
    refine comp_listF (K := K) (a := r) (xs := xs) (fun j us σ H4 => (∃ (v2 v : Option V), σ = [some (.int m), some (.ref r), v2, v]) ∧ H4 D = some (.lst us) ∧ us.length ≤ j ∧ j ≤ xs.length ∧ TVs H4 us ((((setsN m).take j).filter fun S => !S.isEmpty).map pT) ∧ Same H2 H4) ⟨⟨_, none, rfl⟩, upd_same, Nat.le_refl _, Nat.zero_le _, .nil, same_new hD _⟩ (fun _ _ _ _ h => SqL.of (h.2.2.2.2.2 _ _ hr2)) ?_ ?_
    · rintro j x us σ H4 hx ⟨⟨v2, v, rfl⟩, hD4, hul, _, hU, k4⟩
      obtain ⟨t, ht, hv⟩ := hT.at hx
      have hjl := (List.getElem?_eq_some_iff.mp hx).1
      rw [List.getElem?_map] at ht
      cases hq : (setsN m)[j]? with
      | none => rw [hq] at ht; cases ht
      | some S =>
      rw [hq] at ht
      cases ht
      obtain ⟨b, rfl, hb⟩ := hv.part
      have hb4 := k4 _ _ hb
      refine ⟨_, rfl, (by show 0 ≤ sizeLine; decide), fun e he => ?_⟩
      have se := same_new he (.tup [])
      refine ⟨.tuple (S.map PyData.int), .tuple [], .tup (SqT.of (se _ _ hb4)) (dv_intsK S), .tup (SqT.of upd_same) .nil, shapedT, (by decide +kernel), _, rfl, ?_⟩
      rw [ne_nilT]
      have k5 : Same H2 (upd H4 e (.tup [])) := fun x o hx => se _ _ (k4 x o hx)
      have hD5 := se _ _ hD4
      have hb5 := se _ _ hb4
      have hU5 := hU.mono (same_tup se)
      generalize upd H4 e (.tup []) = H5 at k5 hD5 hb5 hU5 ⊢
      have ef : ((setsN m).take (j + 1)).filter (fun S => !S.isEmpty) = ((setsN m).take j).filter (fun S => !S.isEmpty) ++ (if !S.isEmpty then [S] else []) := by
        rw [List.take_add_one, hq, List.filter_append]
        congr 1
        show List.filter _ [S] = _
        rw [List.filter_cons, List.filter_nil]
      cases hS : S.isEmpty with
      | true =>
        refine iteF ⟨⟨_, _, rfl⟩, hD5, by omega, hjl, ?_, k5⟩
        rw [ef, hS]; simpa using hU5
      | false =>
        refine iteT ⟨_, rfl, hD5, by rw [sizeLine_eq]; omega, ⟨_, _, rfl⟩, upd_same, by rw [List.length_append, List.length_singleton]; omega, hjl, ?_, fun x o hx => ?_⟩
        · rw [ef, hS, List.map_append]
          exact TVs.app (hU5.mono (tup_upd hD5 _)) (.cons (part_TV (tup_upd hD5 _ _ _ hb5)) .nil)
        · rw [upd_ne (ne_of_none hx hD)]; exact k5 _ _ hx
    · rintro us σ H4 ⟨⟨v2, v, rfl⟩, hD4, hul, _, hU, k4⟩
      rw [lX, List.take_of_length_le (Nat.le_refl _)] at hU
      obtain ⟨ts, rfl, hat, ets⟩ := parts_TL hU
      have hlt : ts.length < 64 := by
        have : (tRefs ts).length = ts.length := by unfold tRefs; rw [List.length_map]
        omega
      refine ⟨D, ts, rfl, SqL.of hD4, fun t ht => SqT.of (hat t ht), hlt, fun l ts' hl pm pw => ?_⟩
      have s5 := same_new hl (.lst (tRefs ts'))
      have hp2 : (ts'.map (·.2)).Perm (((setsN m).filter fun S => !S.isEmpty).map (·.map V.int)) := by rw [← ets]; exact pm.map _
      obtain ⟨SS, pSS, eSS⟩ := perm_map2 _ hp2
      refine q l _ SS _ upd_same (TL_parts (fun t ht => s5 _ _ (hat t (pm.mem_iff.mp ht))) eSS) pSS ?_ fun x o hx => s5 _ _ (k4 _ _ (s2 x o hx))
      have : (ts'.map (·.2)).Pairwise (fun a b => a.length ≤ b.length) := List.pairwise_map.mpr pw
      rw [eSS, List.pairwise_map] at this
      exact this.imp fun {a b} h => by simpa using h
theorem comp_tup {K : PySem.W.Frag} {a : Addr} {xs : List V} {k : Nat} {D : Addr} {σ : L2.St} {H1 : Hp} {g : TG} {te : TE} {Q : VK} (Pv : Nat → List V → L2.St → Hp → Prop) (h0 : Pv 0 [] (σ ++ List.replicate k none) (upd H1 D (.lst [])))
    (hl : ∀ i ys σ H, Pv i ys σ H → SqT K H a xs)
    (hs : ∀ i x ys σ H, xs[i]? = some x → Pv i ys σ H → g x σ H fun σ4 H4 => te σ4 H4 fun y H6 => H6 D = some (.lst ys) ∧ ys.length < sizeLine ∧ Pv (i + 1) (ys ++ [y]) σ4 (upd H6 D (.lst (ys ++ [y]))))
    (hd : ∀ ys σ H, Pv xs.length ys σ H → Q (.ref D) H) : CompGo (Itt K a) D k σ H1 g tYes te Q := by
  refine ⟨fun i m ys σ H => m = xs.length - i ∧ i ≤ xs.length ∧ Pv i ys σ H, ⟨xs.length, by simp, Nat.zero_le _, h0⟩, ?_⟩
  rintro i m ys σ H ⟨rfl, hi, p⟩
  have q1 := hl i ys σ H p
  by_cases hlt : i < xs.length
  · refine .inr ⟨⟨xs, xs[i], q1, List.getElem?_eq_getElem hlt⟩, Pv (i + 1), fun ys' σ' H' p' => ⟨xs.length - (i + 1), by omega, rfl, hlt, p'⟩, fun x H' y => ?_⟩
    obtain ⟨rfl, e⟩ := y
    simp only [tYes, ↓reduceIte]
    exact hs i x ys σ _ (e xs q1) p
  · have e : i = xs.length := by omega
    exact .inl ⟨⟨xs, q1, by omega⟩, hd ys σ H (e ▸ p)⟩
theorem ne_nilI (A : List Int) : (if true = true then !PyData.eqv (.list (A.map PyData.int)) (.list []) else PyData.eqv (.list (A.map PyData.int)) (.list [])) = !A.isEmpty := by
  cases A with
  | nil => decide +kernel
  | cons t r => simp [PyData.eqv, PyData.eqvAll]
def keyT (S : List Int) : List Key := S.map Sum.inl
theorem keyT_V (S : List Int) : (keyT S).map kV = S.map V.int := by unfold keyT; rw [List.map_map]; rfl
theorem keyT_inj {S U : List Int} (h : keyT S = keyT U) : S = U := by
  induction S generalizing U with
  | nil => cases U with
    | nil => rfl
    | cons u U => cases h
  | cons x S ih => cases U with
    | nil => cases h
    | cons u U =>
      have h : (Sum.inl x :: keyT S : List Key) = Sum.inl u :: keyT U := h
      injection h with h1 h2
      injection h1 with h1
      rw [h1, ih h2]
theorem look_map {f : List Int → V} : ∀ {l : List (List Int)} {p : List Int}, p ∈ l → lookK (l.map fun S => (keyT S, f S)) (keyT p) = some (f p)
  | [], p, h => by cases h
  | S :: l, p, h => by
    unfold lookK
    rw [List.map_cons, List.find?_cons]
    by_cases e : S = p
    · subst e
      simp
    · have : ¬ keyT S = keyT p := fun z => e (keyT_inj z)
      simp only [this, decide_false]
      exact look_map ((List.mem_cons.mp h).resolve_left fun z => e z.symm)
theorem look_map_no {f : List Int → V} : ∀ {l : List (List Int)} {p : List Int}, p ∉ l → lookK (l.map fun S => (keyT S, f S)) (keyT p) = none
  | [], p, _ => rfl
  | S :: l, p, h => by
    unfold lookK
    rw [List.map_cons, List.find?_cons]
    have : ¬ keyT S = keyT p := fun z => h (by rw [keyT_inj z]; exact List.mem_cons_self ..)
    simp only [this, decide_false]
    exact look_map_no fun z => h (List.mem_cons_of_mem _ z)
open Classical in
noncomputable def lstV (ns : List Int) (w : Nat) (S : List Int) : Int := if h : ∃ v, Lst ns w S v then h.choose else 0
theorem lstV_of {ns : List Int} {w : Nat} {S : List Int} {v : Int} (h : Lst ns w S v) : lstV ns w S = v := by
  unfold lstV
  rw [dif_pos ⟨v, h⟩]
  exact (Exists.choose_spec (⟨v, h⟩ : ∃ v, Lst ns w S v)).one h
theorem lstV_is {ns : List Int} {w : Nat} {S : List Int} (h : ∃ v, Lst ns w S v) : Lst ns w S (lstV ns w S) := by
  obtain ⟨v, h⟩ := h
  rw [lstV_of h]; exact h
theorem flat_ge : ∀ {q : List (List Int)}, (∀ p ∈ q, p ≠ []) → q.length ≤ q.flatten.length
  | [], _ => Nat.le_refl _
  | p :: q, h => by
    rw [List.flatten_cons, List.length_append, List.length_cons]
    have h1 := flat_ge (q := q) fun p hp => h p (List.mem_cons_of_mem _ hp)
    have h2 := List.length_pos_iff.mpr (h p (List.mem_cons_self ..))
    omega
theorem part_lt {q : List (List Int)} {p : List Int} (h : ∀ p ∈ q, p ≠ []) (h1 : 1 < q.length) (hp : p ∈ q) : p.length < q.flatten.length := by
  obtain ⟨A, B, rfl⟩ := List.append_of_mem hp
  have hA := flat_ge (q := A) fun p hp => h p (List.mem_append_left _ hp)
  have hB := flat_ge (q := B) fun p hp => h p (List.mem_append_right _ (List.mem_cons_of_mem _ hp))
  rw [List.flatten_append, List.flatten_cons, List.length_append, List.length_append]
  rw [List.length_append, List.length_cons] at h1
  omega
theorem two_parts {w : Nat} {S : List Int} (nd : S.Nodup) (hw : 2 ≤ w) (h2 : 2 ≤ S.length) : ∃ q ∈ pgs w S, 1 < q.length := by
  cases S with
  | nil => simp at h2
  | cons x r =>
    cases r with
    | nil => simp at h2
    | cons y r =>
      obtain ⟨q, hq, cs, nc, hc, rfl⟩ := pgs_col (w := w) (col := fun z => if z = x then 0 else 1) (S := x :: y :: r) (fun z _ => by show (if z = x then 0 else 1) < w; split <;> omega) (x :: y :: r).length (Nat.le_refl _)
      rw [List.take_of_length_le (Nat.le_refl _)] at hq hc
      refine ⟨_, hq, ?_⟩
      rw [List.length_map]
      have nxy : y ≠ x := fun e => (List.nodup_cons.mp nd).1 (by rw [e]; exact List.mem_cons_self ..)
      have h0 : 0 ∈ cs := (hc 0).mpr ⟨x, List.mem_cons_self .., if_pos rfl⟩
      have h1 : 1 ∈ cs := (hc 1).mpr ⟨y, List.mem_cons_of_mem _ (List.mem_cons_self ..), if_neg nxy⟩
      have := List.Nodup.length_le_of_subset (l₁ := [0, 1]) (l₂ := cs) (by decide) fun c hc' => by
        rcases List.mem_cons.mp hc' with rfl | hc'
        · exact h0
        · rw [List.mem_singleton.mp hc']; exact h1
      exact this
theorem sum_bd {ns : List Int} {w : Nat} {q : List (List Int)} (h0 : ∀ e ∈ ns, 0 ≤ e ∧ e ≤ 1000000000) (h : ∀ p ∈ q, Lst ns w p (lstV ns w p) ∧ p.length ≤ 5) : ∀ v ∈ q.map (lstV ns w), 0 ≤ v ∧ v ≤ 10000000000000 := fun v hv => by
  obtain ⟨p, hp, rfl⟩ := List.mem_map.mp hv
  have := (h p hp).1.bd h0 (h p hp).2
  omega
noncomputable def costsOf (ns : List Int) (w : Nat) (F : List (List (List Int))) : List Int := (F.filter fun q => decide (1 < q.length)).map fun q => (q.map (lstV ns w)).sum
theorem costs_snoc (ns : List Int) (w : Nat) {F : List (List (List Int))} {j : Nat} {q : List (List Int)} (h : F[j]? = some q) : costsOf ns w (F.take (j + 1)) = costsOf ns w (F.take j) ++ (if 1 < q.length then [(q.map (lstV ns w)).sum] else []) := by
  unfold costsOf
  rw [List.take_add_one, h, List.filter_append, List.map_append]
  congr 1
  show List.map _ (List.filter _ [q]) = _
  rw [List.filter_cons, List.filter_nil]
  by_cases h1 : 1 < q.length
  · rw [if_pos (decide_eq_true h1), if_pos h1]; rfl
  · rw [if_neg (by rw [decide_eq_false h1]; exact Bool.false_ne_true), if_neg h1]; rfl
def spLeast : Sp := fun vs H Q _ => ∃ (sz : Addr) (ns : List Int) (wy : Nat), vs = [.ref sz, .int wy] ∧ H sz = some (.lst (ns.map V.int)) ∧ ns.length ≤ 5 ∧ (∀ v ∈ ns, 0 ≤ v ∧ v ≤ 1000000000) ∧ 2 ≤ wy ∧ wy ≤ 6 ∧
  ∀ (d : Addr) (kvs : List (List Key × V)) (H' : Hp), H' d = some (.dT kvs) → (∀ S, S.Sublist (rngI ns.length) → S ≠ [] → ∃ v, Lst ns wy S v ∧ lookK kvs (keyT S) = some (.int v)) → Same H H' → Q (.ref d) H'
theorem ok_least (T : Tops K mg) (f_l_sets : Df P w K mg base 1 "_law_sets" ["_law_many_here"] spSets) (f_l_partings : Df P w K mg base 1 "_law_partings" ["_law_some", "_law_ways_here"] spParts) : Df P w K mg base 2 "_law_least" ["_law_sizes_here", "_law_ways_here"] spLeast := by
  refine T.t_l_least.df sc_l_least (fun vs H Q E h => ?_) (fun cdv f A outer s H vs Q E hr h => ?_)
  · obtain ⟨sz, ns, wy, rfl, _⟩ := h
    rfl
  obtain ⟨sz, ns, wy, rfl, hS, n5, hns, w2, w6, q⟩ := h
  refine ⟨_, (@pss_cons _ _ _ _ _ (@ps_set _ _ 2 _ _ _ _ sc_l_least.nd rfl (Or.inr rfl) (@pe_newT _ _) (by rfl) (by first | exact .inl rfl | exact .inr rfl)) (@pss_cons _ _ _ _ _ (@ps_for _ _ _ _ _ _ _ _ PassesOwn.never rfl (@iL _ K _ _ _ (@pe_df _ _ _ _ _ _ _ _ _ _ _ f_l_sets hr (@pa_cons _ _ _ _ _ (@pe_callB _ _ _ _ _ _ _ _ _ (lenQ K) (by rfl) T.b.n_len PySem.boot_len (@pa_cons _ _ _ _ _ (@pv _ 0 _ _ (by rfl) (Or.inr (Or.inl rfl)) (by decide) (by decide)) (@pa_nil _) (by rfl)) (by decide) (by decide) (by rfl) (by rfl)) (@pa_nil _) (by rfl)) (by first | decide | exact Nat.le_refl _ | omega) (by rfl) (by decide) (by rfl) (by rfl)) (by rfl)) (@pg_name _ _ 3 _ sc_l_least.nd rfl (Or.inl rfl) (by first | exact .inl rfl | exact .inr rfl)) (@pss_cons _ _ _ _ _ (@ps_set _ _ 4 _ _ _ _ sc_l_least.nd rfl (Or.inl rfl) (@pe_lst _ _ _ _ (@pa_nil _)) (by rfl) (by first | exact .inl rfl | exact .inr rfl)) (@pss_cons _ _ _ _ _ (@ps_for _ _ _ _ _ _ _ _ PassesOwn.never rfl (@iL _ K _ _ _ (@pe_df _ _ _ _ _ _ _ _ _ _ _ f_l_partings hr (@pa_cons _ _ _ _ _ (@pv _ 3 _ _ (by rfl) (Or.inl rfl) (by decide) (by decide)) (@pa_cons _ _ _ _ _ (@pv _ 1 _ _ (by rfl) (Or.inl rfl) (by decide) (by decide)) (@pa_nil _) (by rfl)) (by rfl)) (by first | decide | exact Nat.le_refl _ | omega) (by rfl) (by decide) (by rfl) (by rfl)) (by rfl)) (@pg_name _ _ 5 _ sc_l_least.nd rfl (Or.inl rfl) (by first | exact .inl rfl | exact .inr rfl)) (@pss_one _ _ _ (@ps_if _ _ _ _ _ _ _ _ (@pt_cmpR _ _ _ _ _ _ _ _ op_gt (@pe_callB _ _ _ _ _ _ _ _ _ (lenQ K) (by rfl) T.b.n_len PySem.boot_len (@pa_cons _ _ _ _ _ (@pv _ 5 _ _ (by rfl) (Or.inl rfl) (by decide) (by decide)) (@pa_nil _) (by rfl)) (by decide) (by decide) (by rfl) (by rfl)) (@pe_int _ _ _ _) (nomark _)) (@pss_one _ _ _ (@ps_expr _ _ _ _ (@pe_bm _ _ _ _ _ _ _ _ _ _ _ _ PySem.F.plainAttrs_list PySem.F.slot_list_append PySem.F.type_list_append mt_append (@pv _ 4 _ _ (by rfl) (Or.inl rfl) (by decide) (by decide)) (@pa_cons _ _ _ _ _ (@pe_callB _ _ _ _ _ _ _ _ _ (sumC K) (by rfl) T.b.n_sum boot_sum (@pa_cons _ _ _ _ _ (@pe_comp _ _ _ _ _ _ _ _ _ _ _ _ _ _ cs_7 rfl rfl rfl (@iT _ K _ _ _ (@pv _ 5 _ _ (by rfl) (Or.inl rfl) (by decide) (by decide)) (by rfl)) (fun _ _ _ _ => (@cg _ _ _ _ _ _ _ _ _ _ _ 6 cs_7 rfl (by decide +kernel) (by rfl))) (fun _ _ _ _ => (@pts_nil _)) (fun _ _ _ _ => (@pe_ix _ _ _ _ _ _ _ (ixD hr) (@cv _ _ _ _ _ _ _ _ _ _ _ 2 cs_7 rfl (by decide +kernel) (by rfl) (by decide) (by decide)) (@cw _ _ _ _ _ _ _ _ _ _ _ 6 cs_7 rfl (by decide +kernel) (by rfl) (by decide) (by decide)) (fun _ _ => rfl))) (by intro _; rfl)) (@pa_nil _) (by rfl)) (by decide) (by decide) (by rfl) (by rfl)) (@pa_nil _) (by rfl)) (by rfl) (by rfl) (by rfl) (by rfl) (by rfl)) (by rfl))) (@pss_nil _))) (by intro _; rfl)) (@pss_one _ _ _ (@ps_asg _ _ _ _ _ _ (@pe_ifExp _ _ _ _ _ _ _ _ (@pt_cmpR _ _ _ _ _ _ _ _ (@neD _ K _ hr (by rfl)) (@pv _ 4 _ _ (by rfl) (Or.inl rfl) (by decide) (by decide)) (@pe_lst _ _ _ _ (@pa_nil _)) (nomark _)) (@pe_op _ _ _ _ _ _ _ _ op_add (@pe_callB _ _ _ _ _ _ _ _ _ (sumC K) (by rfl) T.b.n_sum boot_sum (@pa_cons _ _ _ _ _ (@pe_comp _ _ _ _ _ _ _ _ _ _ _ _ _ _ cs_8 rfl rfl rfl (@iT _ K _ _ _ (@pv _ 3 _ _ (by rfl) (Or.inl rfl) (by decide) (by decide)) (by rfl)) (fun _ _ _ _ => (@cg _ _ _ _ _ _ _ _ _ _ _ 6 cs_8 rfl (by decide +kernel) (by rfl))) (fun _ _ _ _ => (@pts_nil _)) (fun _ _ _ _ => (@pe_ix _ _ _ _ _ _ _ (ixL K) (@cv _ _ _ _ _ _ _ _ _ _ _ 0 cs_8 rfl (by decide +kernel) (by rfl) (by decide) (by decide)) (@cw _ _ _ _ _ _ _ _ _ _ _ 6 cs_8 rfl (by decide +kernel) (by rfl) (by decide) (by decide)) (fun _ _ => rfl))) (by intro _; rfl)) (@pa_nil _) (by rfl)) (by decide) (by decide) (by rfl) (by rfl)) (@pe_callB _ _ _ _ _ _ _ _ _ (minL K) (by rfl) T.b.n_min boot_min (@pa_cons _ _ _ _ _ (@pv _ 4 _ _ (by rfl) (Or.inl rfl) (by decide) (by decide)) (@pa_nil _) (by rfl)) (by decide) (by decide) (by rfl) (by rfl))) (@pe_int _ _ _ _)) (@pg_sub _ _ _ _ _ _ _ (@pv _ 2 _ _ (by rfl) (Or.inr (Or.inl rfl)) (by decide) (by decide)) (@pv _ 3 _ _ (by rfl) (Or.inl rfl) (by decide) (by decide)) (setD hr) (by intro _; rfl)) (by rfl) (by rfl) (by rfl))))) (by intro _; rfl)) (@pss_one _ _ _ (@ps_ret _ _ _ _ (@pv _ 2 _ _ (by rfl) (Or.inr (Or.inl rfl)) (by decide) (by decide)))))), ?_⟩
  intro d hd
  have s1 := same_new hd (.dT [])
  have hd1 : (upd H d (.dT [])) d = some (.dT []) := upd_same
  generalize upd H d (.dT []) = H1 at s1 hd1 ⊢
  have hls : (((ns.map V.int).length : Nat) : Int) = (ns.length : Int) := by rw [List.length_map]
  refine ⟨_, rfl, sz, _, rfl, .inl (SqL.of (s1 _ _ hS)), ns.length, by rw [hls]; rfl, n5, fun r xs SS H2 hr2 hT2 pSS oSS s2 => ?_⟩
  refine ⟨r, rfl, ⟨_, SqL.of hr2⟩, ?_⟩
  have hd2 := s2 _ _ hd1
  have s02 := s1.trans s2
  have lX : xs.length = SS.length := by rw [hT2.len, List.length_map]
  have inSS : ∀ S, S ∈ SS ↔ S.Sublist (rngI ns.length) ∧ S ≠ [] := fun S => by
    rw [pSS.mem_iff, List.mem_filter]
    constructor
    · rintro ⟨a, b⟩; exact ⟨setsN_sub a, fun e => by rw [e] at b; exact absurd b (by decide)⟩
    · rintro ⟨a, b⟩; exact ⟨sub_setsN a, by cases S with
        | nil => exact absurd rfl b
        | cons x y => rfl⟩
  have ndSS : SS.Nodup := pSS.nodup_iff.mpr ((setsN_nd _).filter _)
  have l32 : SS.length ≤ 32 := by
    rw [pSS.length_eq]
    refine Nat.le_trans (List.length_filter_le _ _) ?_
    rw [setsN_len]; exact Nat.le_trans (Nat.pow_le_pow_right (n := 2) (by omega) n5) (by decide)
  refine for_list (K := K) (a := r) (xs := xs) (fun i σ H3 => ∃ (v3 v4 v5 : Option V), σ = [some (.ref sz), some (.int wy), some (.ref d), v3, v4, v5] ∧ H3 d = some (.dT ((SS.take i).map fun S => (keyT S, V.int (lstV ns wy S)))) ∧ (∀ S ∈ SS.take i, ∃ v, Lst ns wy S v) ∧ i ≤ SS.length ∧ (∀ x o, H2 x = some o → x ≠ d → H3 x = some o))
    ⟨none, none, none, rfl, hd2, (fun S hS => by rw [List.take_zero] at hS; cases hS), Nat.zero_le _, fun x o hx _ => hx⟩ (fun _ _ _ _ ⟨_, _, _, _, _, _, _, k3⟩ => SqL.of (k3 _ _ hr2 (fun z => by rw [z, hd2] at hr2; cases hr2))) ?_ ?_
  · rintro i x σ H3 hx ⟨v3, v4, v5, rfl, hd3, hL3, _, k3⟩
    obtain ⟨t, ht, hv⟩ := hT2.at hx
    have hil : i < SS.length := by have := (List.getElem?_eq_some_iff.mp hx).1; omega
    have hq : SS[i]? = some SS[i] := List.getElem?_eq_getElem hil
    rw [List.getElem?_map, hq] at ht
    cases ht
    obtain ⟨b, rfl, hb⟩ := hv.part
    generalize hSi : SS[i] = S at hb hq hv
    have hSin := (inSS S).mp (List.mem_of_getElem? hq)
    have hSl : S.length ≤ 5 := by
      have := hSin.1.length_le
      unfold rngI at this
      rw [List.length_map, List.length_range] at this
      omega
    have ndS : S.Nodup := hSin.1.nodup (rngI_nd _)
    have hb3 := k3 _ _ hb (fun z => by rw [z, hd2] at hb; cases hb)
    have notin : S ∉ SS.take i := fun hm => by
      obtain ⟨j, hj, e⟩ := List.getElem_of_mem hm
      rw [List.length_take] at hj
      rw [List.getElem_take] at e
      have hne := List.pairwise_iff_getElem.mp ndSS j i (by omega) hil (by omega)
      rw [e, hSi] at hne
      exact hne rfl
    have small : ∀ p, p.Sublist S → p ≠ [] → p.length < S.length → p ∈ SS.take i := fun p hp hne hlt => by
      have hm := (inSS p).mpr ⟨hp.trans hSin.1, hne⟩
      obtain ⟨j, hj, e⟩ := List.getElem_of_mem hm
      have hji : j < i := by
        refine Nat.lt_of_not_le fun hle => ?_
        rcases Nat.lt_or_eq_of_le hle with h | h
        · have := List.pairwise_iff_getElem.mp oSS i j hil hj h
          rw [hSi, e] at this
          omega
        · subst h
          rw [hSi] at e
          rw [e] at hlt
          omega
      rw [← e, List.mem_iff_getElem]
      exact ⟨j, by rw [List.length_take]; omega, List.getElem_take ..⟩
    have hparts : ∀ q ∈ pgs wy S, 1 < q.length → ∀ p ∈ q, p ∈ SS.take i ∧ Lst ns wy p (lstV ns wy p) ∧ p.length ≤ 5 := fun q hq h1 p hp => by
      have ok := pgs_all hq
      have hlt := part_lt ok.ne h1 hp
      rw [ok.perm.length_eq] at hlt
      have hm := small p (ok.sub p hp) (ok.ne p hp) hlt
      exact ⟨hm, lstV_is (hL3 p hm), by omega⟩
    refine ⟨(by show 0 ≤ sizeLine; decide), fun c hc => ?_⟩
    have s4 := same_new hc (.lst [])
    have hc4 : (upd H3 c (.lst [])) c = some (.lst []) := upd_same
    generalize upd H3 c (.lst []) = H4 at s4 hc4 ⊢
    have ndc : d ≠ c := ne_of_none hd3 hc
    refine ⟨_, rfl, _, rfl, b, S, wy, rfl, s4 _ _ hb3, hSl, by omega, w6, fun r2 xs2 H5 hr5 hT5 s5 => ⟨r2, rfl, ⟨_, SqL.of hr5⟩, ?_⟩⟩
    have hc5 := s5 _ _ hc4
    have hd5 := s5 _ _ (s4 _ _ hd3)
    have s35 := s4.trans s5
    have lX2 : xs2.length = (pgs wy S).length := by rw [hT5.len, List.length_map]
    have lP : (pgs wy S).length ≤ 16807 := by
      have h1 := pgs_len (w := wy) (S := S) S.length (Nat.le_refl _)
      rw [List.take_of_length_le (Nat.le_refl _)] at h1
      exact Nat.le_trans h1 (pow_small w6 hSl)
    have nr2c : r2 ≠ c := fun z => by
      rw [z, hc5] at hr5
      have e : ([] : List V) = xs2 := by injection hr5 with h; injection h
      rw [← e] at lX2
      have h1 : 0 < (pgs wy S).length := by
        cases hp : pgs wy S with
        | nil =>
          obtain ⟨q, hq, _⟩ := pgs_col (w := wy) (col := fun _ => 0) (S := S) (fun _ _ => by omega) S.length (Nat.le_refl _)
          rw [List.take_of_length_le (Nat.le_refl _), hp] at hq; cases hq
        | cons u v => simp
      rw [← lX2] at h1; simp at h1
    refine for_list (K := K) (a := r2) (xs := xs2) (fun j σ H6 => ∃ (v5 : Option V), σ = [some (.ref sz), some (.int wy), some (.ref d), some (.ref b), some (.ref c), v5] ∧ H6 c = some (.lst ((costsOf ns wy ((pgs wy S).take j)).map V.int)) ∧ j ≤ (pgs wy S).length ∧ (∀ x o, H5 x = some o → x ≠ c → H6 x = some o))
      ⟨v5, rfl, hc5, Nat.zero_le _, fun x o hx _ => hx⟩ (fun _ _ _ _ ⟨_, _, _, _, k6⟩ => SqL.of (k6 _ _ hr5 nr2c)) ?_ ?_
    · rintro j x σ H6 hx ⟨v5, rfl, hc6, _, k6⟩
      obtain ⟨t, ht, hv⟩ := hT5.at hx
      have hjl : j < (pgs wy S).length := by have := (List.getElem?_eq_some_iff.mp hx).1; omega
      have hqj : (pgs wy S)[j]? = some (pgs wy S)[j] := List.getElem?_eq_getElem hjl
      rw [List.getElem?_map, hqj] at ht
      cases ht
      generalize (pgs wy S)[j] = qq at hqj hv
      obtain ⟨b2, zs, rfl, hb5, hZ5⟩ := hv.pp
      have hqin := List.mem_of_getElem? hqj
      have okq := pgs_all hqin
      have hq6 := okq.len
      have hzl : zs.length = qq.length := by rw [hZ5.len, List.length_map]
      have t56 : ∀ x zs, H5 x = some (.tup zs) → H6 x = some (.tup zs) := fun x zs hx => k6 _ _ hx (fun z => by rw [z, hc5] at hx; cases hx)
      have hb6 := t56 _ _ hb5
      have hZ6 := hZ5.mono t56
      have hd6 := k6 _ _ hd5 ndc
      refine ⟨_, rfl, b2, _, rfl, .inr (SqT.of hb6), _, _, rfl, rfl, _, rfl, ite2 (fun hgt => ?_) (fun hle => ?_)⟩
      · have h1 : 1 < qq.length := by have z := of_decide_eq_true hgt; omega
        have hpp := hparts qq hqin h1
        refine ⟨_, rfl, .inl ⟨rfl, _, SqL.of hc6⟩, _, rfl, b2, rfl, ⟨_, SqT.of hb6⟩, fun D hD => ?_⟩
        have nDc : c ≠ D := ne_of_none hc6 hD
        refine comp_tup (K := K) (a := b2) (xs := zs) (fun m us σ H7 => (∃ v : Option V, σ = [some (.ref sz), some (.int wy), some (.ref d), some (.ref b), some (.ref c), some (.ref b2), v]) ∧ us = ((qq.take m).map (lstV ns wy)).map V.int ∧ H7 D = some (.lst us) ∧ m ≤ zs.length ∧ Same H6 H7) ⟨⟨none, rfl⟩, rfl, upd_same, Nat.zero_le _, same_new hD _⟩ (fun _ _ _ _ h => SqT.of (h.2.2.2.2 _ _ hb6)) ?_ ?_
        · rintro m z us σ H7 hz ⟨⟨v, rfl⟩, rfl, hD7, _, k7⟩
          obtain ⟨t, ht, hv⟩ := hZ6.at hz
          have hml : m < qq.length := by have := (List.getElem?_eq_some_iff.mp hz).1; omega
          have hqm : qq[m]? = some qq[m] := List.getElem?_eq_getElem hml
          rw [List.getElem?_map, hqm] at ht
          cases ht
          obtain ⟨b3, rfl, hb3'⟩ := hv.part
          have hp := hpp _ (List.getElem_mem hml)
          refine ⟨_, rfl, _, rfl, d, _, b3, keyT qq[m], _, rfl, rfl, k7 _ _ hd6, by rw [keyT_V]; exact k7 _ _ hb3', look_map (f := fun S => V.int (lstV ns wy S)) hp.1, hD7, by rw [List.length_map, List.length_map, List.length_take, sizeLine_eq]; omega, ⟨_, rfl⟩, ?_, upd_same, by omega, fun x o hx => ?_⟩
          · rw [List.take_add_one, hqm, List.map_append, List.map_append]; rfl
          · rw [upd_ne (ne_of_none hx hD)]; exact k7 x o hx
        · rintro us σ H7 ⟨⟨v, rfl⟩, rfl, hD7, _, k7⟩
          rw [hzl, List.take_of_length_le (Nat.le_refl _)] at hD7
          have hc7 := k7 _ _ hc6
          refine ⟨D, _, rfl, SqL.of hD7, by rw [List.length_map]; omega, sum_bd hns fun p hp => (hpp p hp).2, c, _, _, rfl, rfl, hc7, ?_, _, rfl, ?_, hjl, fun x o hx nx => ?_⟩
          · rw [List.length_map, sizeLine_eq]
            unfold costsOf
            rw [List.length_map]
            have := List.length_filter_le (fun q : List (List Int) => decide (1 < q.length)) ((pgs wy S).take j)
            rw [List.length_take] at this
            omega
          · rw [upd_same, costs_snoc ns wy hqj, if_pos h1, List.map_append]; rfl
          · rw [upd_ne nx]; exact k7 _ _ (k6 x o hx nx)
      · have h1 : ¬ 1 < qq.length := fun z => hle (decide_eq_true (by omega))
        refine ⟨_, rfl, ?_, hjl, k6⟩
        rw [costs_snoc ns wy hqj, if_neg h1, List.append_nil]; exact hc6
    · rintro σ H6 ⟨v5, rfl, hc6, _, k6⟩
      rw [lX2, List.take_of_length_le (Nat.le_refl _)] at hc6
      have hd6 := k6 _ _ hd5 ndc
      have hb6 := k6 _ _ (s35 _ _ hb3) (fun z => by rw [z] at hb3; exact absurd hb3 (by rw [hc]; exact fun h => nomatch h))
      have hsz6 := k6 _ _ (s35 _ _ (k3 _ _ (s02 _ _ hS) (ne_of_none hS hd))) (fun z => by
        have h9 := k3 _ _ (s02 _ _ hS) (ne_of_none hS hd)
        rw [z] at h9; exact absurd h9 (by rw [hc]; exact fun h => nomatch h))
      have keepAll : ∀ x o, H2 x = some o → x ≠ d → H6 x = some o := fun x o hx nx => by
        have h9 := k3 x o hx nx
        exact k6 _ _ (s35 _ _ h9) (ne_of_none h9 hc)
      have done : ∀ (v : Int) (H7 : Hp), Lst ns wy S v → Same H6 H7 → ∃ (u3 u4 u5 : Option V), [some (.ref sz), some (.int wy), some (.ref d), some (.ref b), some (.ref c), v5] = [some (.ref sz), some (.int wy), some (.ref d), u3, u4, u5] ∧ (upd H7 d (.dT (((SS.take i).map fun S => (keyT S, V.int (lstV ns wy S))) ++ [(keyT S, V.int v)]))) d = some (.dT ((SS.take (i + 1)).map fun S => (keyT S, V.int (lstV ns wy S)))) ∧ (∀ S ∈ SS.take (i + 1), ∃ v, Lst ns wy S v) ∧ i + 1 ≤ SS.length ∧ (∀ x o, H2 x = some o → x ≠ d → (upd H7 d (.dT (((SS.take i).map fun S => (keyT S, V.int (lstV ns wy S))) ++ [(keyT S, V.int v)]))) x = some o) := fun v H7 hv s7 => by
        refine ⟨_, _, v5, rfl, ?_, fun U hU => ?_, hil, fun x o hx nx => ?_⟩
        · rw [upd_same, List.take_add_one, hq, List.map_append, ← lstV_of hv]; rfl
        · rw [List.take_add_one, hq] at hU
          rcases List.mem_append.mp hU with hU | hU
          · exact hL3 U hU
          · have : U = S := by simpa using hU
            rw [this]; exact ⟨v, hv⟩
        · rw [upd_ne nx]; exact s7 _ _ (keepAll x o hx nx)
      have setit : ∀ (v : Int) (H7 : Hp), Same H6 H7 → H7 d = some (.dT ((SS.take i).map fun S => (keyT S, V.int (lstV ns wy S)))) ∧ H7 b = some (.tup ((keyT S).map kV)) ∧ lookK ((SS.take i).map fun S => (keyT S, V.int (lstV ns wy S))) (keyT S) = none ∧ ((SS.take i).map fun S => (keyT S, V.int (lstV ns wy S))).length < sizeLine := fun v H7 s7 =>
        ⟨s7 _ _ hd6, by rw [keyT_V]; exact s7 _ _ hb6, look_map_no (f := fun S => V.int (lstV ns wy S)) notin, by rw [List.length_map, List.length_take, sizeLine_eq]; omega⟩
      refine ⟨_, rfl, (by show 0 ≤ sizeLine; decide), fun e he => ?_⟩
      have se := same_new he (.lst [])
      refine ⟨.list ((costsOf ns wy (pgs wy S)).map PyData.int), .list [], .lst (SqL.of (se _ _ hc6)) (dv_intsK _), .lst (SqL.of upd_same) .nil, shapedL, (by decide +kernel), _, rfl, ?_⟩
      rw [ne_nilI]
      have hc7 := se _ _ hc6
      have hb7 := se _ _ hb6
      have hsz7 := se _ _ hsz6
      have hd7 := se _ _ hd6
      generalize upd H6 e (.lst []) = H7 at se hc7 hb7 hsz7 hd7 ⊢
      have inC : ∀ v, v ∈ costsOf ns wy (pgs wy S) ↔ ∃ q ∈ pgs wy S, 1 < q.length ∧ v = (q.map (lstV ns wy)).sum := fun v => by
        unfold costsOf
        rw [List.mem_map]
        constructor
        · rintro ⟨q, hq, rfl⟩
          obtain ⟨a, b⟩ := List.mem_filter.mp hq
          exact ⟨q, a, of_decide_eq_true b, rfl⟩
        · rintro ⟨q, a, b, rfl⟩
          exact ⟨q, List.mem_filter.mpr ⟨a, decide_eq_true b⟩, rfl⟩
      cases hE : (costsOf ns wy (pgs wy S)).isEmpty with
      | true =>
        have hE := List.isEmpty_iff.mp hE
        have h1 : S.length = 1 := by
          have h0 := List.length_pos_iff.mpr hSin.2
          refine Nat.le_antisymm (Nat.le_of_not_lt fun h2 => ?_) h0
          obtain ⟨q, hq, hq1⟩ := two_parts (w := wy) ndS w2 h2
          have := (inC _).mpr ⟨q, hq, hq1, rfl⟩
          rw [hE] at this; cases this
        obtain ⟨k, rfl⟩ := List.length_eq_one_iff.mp h1
        obtain ⟨a1, a2, a3, a4⟩ := setit 0 H7 se
        exact iteF ⟨_, rfl, _, rfl, d, _, b, _, rfl, rfl, a1, a2, a3, a4, done 0 H7 (lst_leaf ns wy k) se⟩
      | false =>
        have hE : costsOf ns wy (pgs wy S) ≠ [] := fun z => by rw [z] at hE; cases hE
        refine iteT ⟨_, rfl, b, rfl, ⟨_, SqT.of hb7⟩, fun D hD => ?_⟩
        have okS : ∀ k ∈ S, 0 ≤ k ∧ k < (ns.length : Nat) := fun k hk => rngI_lt (hSin.1.subset hk)
        refine comp_tup (K := K) (a := b) (xs := S.map V.int) (fun m us σ H8 => (∃ v : Option V, σ = [some (.ref sz), some (.int wy), some (.ref d), some (.ref b), some (.ref c), v5, v]) ∧ us = ((S.take m).map (szOf ns)).map V.int ∧ H8 D = some (.lst us) ∧ m ≤ S.length ∧ Same H7 H8) ⟨⟨none, rfl⟩, rfl, upd_same, Nat.zero_le _, same_new hD _⟩ (fun _ _ _ _ h => SqT.of (h.2.2.2.2 _ _ hb7)) ?_ ?_
        · rintro m z us σ H8 hz ⟨⟨v, rfl⟩, rfl, hD8, _, k8⟩
          rw [List.getElem?_map] at hz
          cases hk : S[m]? with
          | none => rw [hk] at hz; cases hz
          | some k =>
          rw [hk] at hz
          cases hz
          have hml := (List.getElem?_eq_some_iff.mp hk).1
          refine ⟨_, rfl, _, rfl, sz, _, k, _, rfl, rfl, SqL.of (k8 _ _ hsz7), tOk_at (okS k (List.mem_of_getElem? hk)), hD8, by rw [List.length_map, List.length_map, List.length_take, sizeLine_eq]; omega, ⟨_, rfl⟩, ?_, upd_same, hml, fun x o hx => ?_⟩
          · rw [List.take_add_one, hk, List.map_append, List.map_append]; rfl
          · rw [upd_ne (ne_of_none hx hD)]; exact k8 x o hx
        · rintro us σ H8 ⟨⟨v, rfl⟩, rfl, hD8, _, k8⟩
          rw [List.length_map, List.take_of_length_le (Nat.le_refl _)] at hD8
          refine ⟨D, _, rfl, SqL.of hD8, by rw [List.length_map]; omega, fun v hv => ?_, _, rfl, c, _, rfl, SqL.of (k8 _ _ hc7), List.length_pos_iff.mpr hE, fun M hM hle => ⟨_, _, rfl, rfl, ?_⟩⟩
          · obtain ⟨k, hk, rfl⟩ := List.mem_map.mp hv
            have := hns _ (getD_in (okS k hk))
            show 0 ≤ ns.getD k.toNat 0 ∧ ns.getD k.toNat 0 ≤ _
            omega
          · obtain ⟨a1, a2, a3, a4⟩ := setit 0 H8 (se.trans k8)
            obtain ⟨q, hq, hq1, eM⟩ := (inC M).mp hM
            have h2 : 2 ≤ S.length := by
              have ok := pgs_all hq
              have := flat_ge ok.ne
              rw [ok.perm.length_eq] at this
              omega
            exact ⟨_, rfl, _, rfl, d, _, b, _, rfl, rfl, a1, a2, a3, a4, done _ H8 (lst_many ndS h2 (fun q hq h1 p hp => (hparts q hq h1 p hp).2.1) ⟨q, hq, hq1, eM⟩ (fun q hq h1 => hle _ ((inC _).mpr ⟨q, hq, h1, rfl⟩))) (se.trans k8)⟩
  · rintro σ H3 ⟨v3, v4, v5, rfl, hd3, hL3, _, k3⟩
    rw [lX, List.take_of_length_le (Nat.le_refl _)] at hd3 hL3
    refine ⟨_, rfl, q d _ H3 hd3 (fun S hsub hne => ?_) fun x o hx => k3 _ _ (s02 x o hx) (ne_of_none hx hd)⟩
    have hm := (inSS S).mpr ⟨hsub, hne⟩
    exact ⟨_, lstV_is (hL3 S hm), look_map (f := fun S => V.int (lstV ns wy S)) hm⟩
theorem upsI_rng (n : Nat) : upsI 0 n = rngI n := by unfold upsI rngI; exact List.map_congr_left fun k _ => by rw [Int.zero_add]
theorem sz_perm {ns S : List Int} (h : S.Perm (rngI ns.length)) : (S.map (szOf ns)).Perm ns := perm_sizes h
theorem free_perm {ns : List Int} {wy : Nat} {C : Int} {t : PT} (hn : 1 ≤ ns.length) (w2 : 2 ≤ wy) (h : Fr wy (start ns) (ns.length : Int) (many0 ns.length wy) 0 (C, t)) : (tLv t).Perm (rngI ns.length) := by
  have F := fits_of hn w2
  have e : trs (start ns) = ((List.range ns.length).map fun i : Nat => (i : Int)).map PT.leaf := by unfold trs start; rw [List.map_map, List.map_map]; rfl
  obtain ⟨a, b⟩ := fr_leaves h F.m2 F.mw (by
    rw [e]; refine (tPls_iff _ _).mpr fun t ht => ?_
    obtain ⟨k, _, rfl⟩ := List.mem_map.mp ht
    exact trivial)
  rw [e, leaf_lvs] at b
  exact b
theorem ok_law {f : Addr} {fd : FuncData} (F : Fun K "law" "law" st_law f fd) (T : Tops K mg) : FnOk P w K mg base CX0 16 f fd ["_law_script"] (spLaw K) := by
  have f_l_mix : Df P w K mg base 1 "_law_mix" ["_law_cell", "_law_k"] spMix := ok_mix T
  have f_l_left : Df P w K mg base 1 "_law_left" ["_law_script", "_law_k"] (spLeft K) := ok_left T
  have f_l_pick : Df P w K mg base 2 "_law_pick" ["_law_left_here", "_law_many_here"] spPick := ok_pick T f_l_mix
  have f_l_sizes : Df P w K mg base 4 "_law_sizes" ["_law_left_here", "_law_most"] spSizes := ok_sizes T f_l_pick (ok_many T f_l_pick)
  have f_l_ways : Df P w K mg base 3 "_law_ways" ["_law_left_here"] spWays := ok_ways T f_l_pick
  have f_l_same : Df P w K mg base 3 "_law_same" ["_law_found", "_law_due"] (spSame 2) := ok_same T 2
  have f_l_least : Df P w K mg base 2 "_law_least" ["_law_sizes_here", "_law_ways_here"] spLeast := ok_least T (ok_sets T) (ok_parts T)
  have f_free_plan : Df P w K mg base 1 "free_plan" ["sizes", "ways"] (spFree K) := ok_free T
  have f_is_plan : Df P w K mg base 15 "is_plan" ["sizes", "ways", "thing"] (spPlan K) := ok_plan T (ok_finds T (ok_num T) 13)
  have f_cost_of : Df P w K mg base 15 "cost_of" ["sizes", "tree"] (spCostOf K 13) := ok_costof T (ok_sc T (ok_num T) 13)
  refine F.ok sc_law (fun vs H Q E h => ?_) (fun cdv A outer s H vs Q E hr h => ?_)
  · obtain ⟨a, ns, rfl, _⟩ := h
    rfl
  obtain ⟨a, sc, rfl, hS, h63, q⟩ := h
  refine ⟨_, (@pss_cons _ _ _ _ _ (@ps_for _ _ _ _ _ _ _ _ PassesOwn.never rfl (@pi_range1 _ _ _ _ _ _ rfl T.b.n_range (@pa_cons _ _ _ _ _ (@pe_op _ _ _ _ _ _ _ _ op_add (@pe_int _ _ _ _) (@pe_callB _ _ _ _ _ _ _ _ _ (call_min2 rfl) (by rfl) T.b.n_min boot_min (@pa_cons _ _ _ _ _ (@pe_int _ _ _ _) (@pa_cons _ _ _ _ _ (@pe_callB _ _ _ _ _ _ _ _ _ (lenQ K) (by rfl) T.b.n_len PySem.boot_len (@pa_cons _ _ _ _ _ (@pv _ 0 _ _ (by rfl) (Or.inl rfl) (by decide) (by decide)) (@pa_nil _) (by rfl)) (by decide) (by decide) (by rfl) (by rfl)) (@pa_nil _) (by rfl)) (by rfl)) (by decide) (by decide) (by rfl) (by rfl))) (@pa_nil _) (by rfl)) (by rfl)) (@pg_name _ _ 1 _ sc_law.nd rfl (Or.inl rfl) (by first | exact .inl rfl | exact .inr rfl)) (@pss_cons _ _ _ _ _ (@ps_set _ _ 2 _ _ _ _ sc_law.nd rfl (Or.inl rfl) (@pe_df _ _ _ _ _ _ _ _ _ _ _ f_l_left hr (@pa_cons _ _ _ _ _ (@pv _ 0 _ _ (by rfl) (Or.inl rfl) (by decide) (by decide)) (@pa_cons _ _ _ _ _ (@pv _ 1 _ _ (by rfl) (Or.inl rfl) (by decide) (by decide)) (@pa_nil _) (by rfl)) (by rfl)) (by first | decide | exact Nat.le_refl _ | omega) (by rfl) (by decide) (by rfl) (by rfl)) (by rfl) (by first | exact .inl rfl | exact .inr rfl)) (@pss_cons _ _ _ _ _ (@ps_par _ _ 3 4 _ _ _ _ _ _ _ _ _ _ _ rfl sc_law.nd rfl rfl (by decide) rfl rfl (@pa_cons _ _ _ _ _ (@pe_df _ _ _ _ _ _ _ _ _ _ _ f_l_sizes hr (@pa_cons _ _ _ _ _ (@pv _ 2 _ _ (by rfl) (Or.inl rfl) (by decide) (by decide)) (@pa_cons _ _ _ _ _ (@pe_int _ _ _ _) (@pa_nil _) (by rfl)) (by rfl)) (by first | decide | exact Nat.le_refl _ | omega) (by rfl) (by decide) (by rfl) (by rfl)) (@pa_cons _ _ _ _ _ (@pe_df _ _ _ _ _ _ _ _ _ _ _ f_l_ways hr (@pa_cons _ _ _ _ _ (@pv _ 2 _ _ (by rfl) (Or.inl rfl) (by decide) (by decide)) (@pa_nil _) (by rfl)) (by first | decide | exact Nat.le_refl _ | omega) (by rfl) (by decide) (by rfl) (by rfl)) (@pa_nil _) (by rfl)) (by rfl)) rfl (by rfl)) (@pss_cons _ _ _ _ _ (@ps_set _ _ 5 _ _ _ _ sc_law.nd rfl (Or.inl rfl) (@pe_ix _ _ _ _ _ _ _ (ixD hr) (@pe_df _ _ _ _ _ _ _ _ _ _ _ f_l_least hr (@pa_cons _ _ _ _ _ (@pv _ 3 _ _ (by rfl) (Or.inl rfl) (by decide) (by decide)) (@pa_cons _ _ _ _ _ (@pv _ 4 _ _ (by rfl) (Or.inl rfl) (by decide) (by decide)) (@pa_nil _) (by rfl)) (by rfl)) (by first | decide | exact Nat.le_refl _ | omega) (by rfl) (by decide) (by rfl) (by rfl)) (@pe_callTy _ _ _ _ _ _ _ _ _ tupR (by rfl) T.b.n_tuple boot_tuple (@pa_cons _ _ _ _ _ (@pe_callTy _ _ _ _ _ _ _ _ _ rng1 (by rfl) T.b.n_range boot_range (@pa_cons _ _ _ _ _ (@pe_callB _ _ _ _ _ _ _ _ _ (lenQ K) (by rfl) T.b.n_len PySem.boot_len (@pa_cons _ _ _ _ _ (@pv _ 3 _ _ (by rfl) (Or.inl rfl) (by decide) (by decide)) (@pa_nil _) (by rfl)) (by decide) (by decide) (by rfl) (by rfl)) (@pa_nil _) (by rfl)) (by decide) (by decide) (by rfl) (by rfl)) (@pa_nil _) (by rfl)) (by decide) (by decide) (by rfl) (by rfl)) (fun _ _ => rfl)) (by rfl) (by first | exact .inl rfl | exact .inr rfl)) (@pss_cons _ _ _ _ _ (@ps_asg _ _ _ _ _ _ (@pe_df _ _ _ _ _ _ _ _ _ _ _ f_free_plan hr (@pa_cons _ _ _ _ _ (@pv _ 3 _ _ (by rfl) (Or.inl rfl) (by decide) (by decide)) (@pa_cons _ _ _ _ _ (@pv _ 4 _ _ (by rfl) (Or.inl rfl) (by decide) (by decide)) (@pa_nil _) (by rfl)) (by rfl)) (by first | decide | exact Nat.le_refl _ | omega) (by rfl) (by decide) (by rfl) (by rfl)) (@gT _ K _ _ _ 2 _ (@pgs_cons _ _ _ _ _ (@pg_name _ _ 6 _ sc_law.nd rfl (Or.inl rfl) (by first | exact .inl rfl | exact .inr rfl)) (@pgs_cons _ _ _ _ _ (@pg_name _ _ 7 _ sc_law.nd rfl (Or.inl rfl) (by first | exact .inl rfl | exact .inr rfl)) (@pgs_nil _) (by rfl)) (by rfl)) (by rfl) (by rfl) (by rfl) (by rfl)) (by rfl) (by rfl) (by rfl)) (@pss_one _ _ _ (@ps_if _ _ _ _ _ _ _ _ (@PW.pt _ _ _ (@pw_or _ _ _ _ _ _ _ (@pt_not _ _ _ _ (@pt_val _ _ _ (@pe_df _ _ _ _ _ _ _ _ _ _ _ f_l_same hr (@pa_cons _ _ _ _ _ (@pv _ 6 _ _ (by rfl) (Or.inl rfl) (by decide) (by decide)) (@pa_cons _ _ _ _ _ (@pv _ 5 _ _ (by rfl) (Or.inl rfl) (by decide) (by decide)) (@pa_nil _) (by rfl)) (by rfl)) (by first | decide | exact Nat.le_refl _ | omega) (by rfl) (by decide) (by rfl) (by rfl)) (by intro _; rfl))) (@pw_or _ _ _ _ _ _ _ (@pt_not _ _ _ _ (@pt_val _ _ _ (@pe_df _ _ _ _ _ _ _ _ _ _ _ f_is_plan hr (@pa_cons _ _ _ _ _ (@pv _ 3 _ _ (by rfl) (Or.inl rfl) (by decide) (by decide)) (@pa_cons _ _ _ _ _ (@pv _ 4 _ _ (by rfl) (Or.inl rfl) (by decide) (by decide)) (@pa_cons _ _ _ _ _ (@pv _ 7 _ _ (by rfl) (Or.inl rfl) (by decide) (by decide)) (@pa_nil _) (by rfl)) (by rfl)) (by rfl)) (by first | decide | exact Nat.le_refl _ | omega) (by rfl) (by decide) (by rfl) (by rfl)) (by intro _; rfl))) (@pw_or1 _ _ _ _ (@pt_cmpR _ _ _ _ _ _ _ _ op_ne (@pe_df _ _ _ _ _ _ _ _ _ _ _ f_cost_of hr (@pa_cons _ _ _ _ _ (@pv _ 3 _ _ (by rfl) (Or.inl rfl) (by decide) (by decide)) (@pa_cons _ _ _ _ _ (@pv _ 7 _ _ (by rfl) (Or.inl rfl) (by decide) (by decide)) (@pa_nil _) (by rfl)) (by rfl)) (by first | decide | exact Nat.le_refl _ | omega) (by rfl) (by decide) (by rfl) (by rfl)) (@pv _ 5 _ _ (by rfl) (Or.inl rfl) (by decide) (by decide)) (nomark _)))))) (@pss_one _ _ _ (@ps_ret _ _ _ _ (@pe_bl _ _ _ _))) (@pss_nil _))))))) (by intro _; rfl)) (@pss_one _ _ _ (@ps_ret _ _ _ _ (@pe_bl _ _ _ _)))), ?_⟩
  have hlen : (((sc.map V.int).length : Nat) : Int) = (sc.length : Int) := by rw [List.length_map]
  refine ⟨_, rfl, a, _, rfl, .inl hS, _, _, rfl, _, _, rfl, rfl, _, rfl, ?_, ?_, ?_⟩
  · split <;> omega
  · split <;> omega
  refine for_range (fun i σ H2 => ∃ v1 v2 v3 v4 v5 v6 v7 : Option V, σ = [some (.ref a), v1, v2, v3, v4, v5, v6, v7] ∧ Same H H2) ⟨_, _, _, _, _, _, _, rfl, Same.refl H⟩ ?_ ?_
  · rintro i σ H2 hi ⟨v1, v2, v3, v4, v5, v6, v7, rfl, s2⟩
    have hi9 : (i : Int) < 100 := by
      have : (i : Int) < (1 + (if (((sc.map V.int).length : Nat) : Int) < 6 then (((sc.map V.int).length : Nat) : Int) else 6)).toNat := by omega
      split at this <;> omega
    refine ⟨_, rfl, _, rfl, a, sc, _, rfl, s2.seq hS, h63, by omega, by omega, fun p H3 hp L3 s3 => ?_⟩
    have nHp : H p = none := s2.free hp
    have keep : ∀ {H5 H6 : Hp}, Same H H5 → But p H5 H6 → Same H H6 := fun {H5 H6} s b x o e => b x o (s x o e) (ne_of_none e nHp)
    refine ⟨_, rfl, p, 0, rfl, L3, by omega, fun sz ms c5 H5 hs0 hs5 m1 m5 hms L5 a1 a2 B5 => ?_⟩
    have nps : p ≠ sz := by obtain ⟨o, ho⟩ := L3.here; exact ne_of_none ho hs0
    refine ⟨_, rfl, p, c5, rfl, L5, by omega, fun wy H6 w2 w6 L6 B6 => ?_⟩
    obtain ⟨wn, rfl⟩ : ∃ wn : Nat, wy = (wn : Int) := ⟨wy.toNat, by omega⟩
    have hs6 := B6 sz _ hs5 nps.symm
    have s6 : Same H H6 := keep (keep (s2.trans s3) B5) B6
    have h0 : ∀ e ∈ ms, 0 ≤ e := fun e he => (hms e he).1
    have hls : (((ms.map V.int).length : Nat) : Int) = (ms.length : Int) := by rw [List.length_map]
    refine ⟨_, _, rfl, ?_⟩
    refine ⟨_, rfl, _, rfl, sz, ms, wn, rfl, hs6, m5, hms, by omega, by omega, fun d kvs H7 hd7 hk7 s7 => ?_⟩
    have hs7 := s7 _ _ hs6
    refine ⟨_, rfl, sz, _, rfl, .inl (SqL.of hs7), ?_⟩
    refine ⟨_, rfl, fun rg hrg => ⟨rg, 0, _, rfl, upd_same, by omega, by omega, by rw [hls]; omega, by rw [hls]; omega, by rw [hls]; omega, fun tp htp => ?_⟩⟩
    have s8 := (same_new hrg (.rng 0 (((ms.map V.int).length : Nat) : Int))).trans (same_new htp (.tup ((upsI 0 ((((ms.map V.int).length : Nat) : Int) - 0).toNat).map V.int)))
    have htp8 : (upd (upd H7 rg (.rng 0 (((ms.map V.int).length : Nat) : Int))) tp (.tup ((upsI 0 ((((ms.map V.int).length : Nat) : Int) - 0).toNat).map V.int))) tp = some (.tup ((upsI 0 ((((ms.map V.int).length : Nat) : Int) - 0).toNat).map V.int)) := upd_same
    generalize upd (upd H7 rg (.rng 0 (((ms.map V.int).length : Nat) : Int))) tp (.tup ((upsI 0 ((((ms.map V.int).length : Nat) : Int) - 0).toNat).map V.int)) = H8 at s8 htp8 ⊢
    rw [show ((((ms.map V.int).length : Nat) : Int) - 0).toNat = ms.length by rw [hls]; omega, upsI_rng] at htp8
    obtain ⟨v, hv, hlook⟩ := hk7 (rngI ms.length) (List.Sublist.refl _) (fun z => by
      have h9 : (rngI ms.length).length = 0 := by rw [z]; rfl
      unfold rngI at h9
      rw [List.length_map, List.length_range] at h9
      omega)
    refine ⟨d, kvs, tp, keyT (rngI ms.length), _, rfl, rfl, s8 _ _ hd7, by rw [keyT_V]; exact htp8, hlook, ?_⟩
    have hs8 := s8 _ _ hs7
    have s08 := (s6.trans s7).trans s8
    refine ⟨_, rfl, _, rfl, sz, ms, wn, rfl, SqL.of hs8, m1, by omega, hms, by omega, by omega, fun r x C t H9 hr0 hr9 tx9 hF s9 => ?_⟩
    have F1 := fits_of m1 (show 2 ≤ wn by omega)
    obtain ⟨f1, f2, f3, f4⟩ := free_fit (show 2 ≤ wn by omega) (show ms.length ≤ 12 by omega) hF
    have hu := free_hu hF
    obtain ⟨g1, g2, g3⟩ := free_leaves m1 (show 2 ≤ wn by omega) hF
    have hperm : (tLv t).Perm (rngI ms.length) := free_perm m1 (show 2 ≤ wn by omega) hF
    have eC : C = v := by
      obtain ⟨t2, b1, b2, b3⟩ := hv.2
      have h1 := hv.1 t g1 hperm
      have h2 := free_least F1 h0 hu b1 (sz_perm b2)
      omega
    have s09 := s08.trans s9
    have hs9 := s9 _ _ hs8
    refine ⟨r, _, rfl, SqT.of hr9, rfl, _, _, rfl, _, _, rfl, rfl, ?_⟩
    refine ⟨_, rfl, _, rfl, _, _, rfl, ?_, fun H10 s10 => ⟨_, rfl, iteF ?_⟩⟩
    · rw [eC]; exact flat_int _ _
    have hs10 := s10 _ _ hs9
    have tx10 := tx9.mono (same_tup s10)
    refine ⟨_, rfl, _, rfl, _, rfl, sz, ms, wn, x, t, rfl, hs10, by omega, tx10, g1, f2, by omega, by omega, g2, g3, fun H11 s11 => ⟨_, rfl, iteF ?_⟩⟩
    refine ⟨_, rfl, _, rfl, sz, ms, x, t, rfl, SqL.of (s11 _ _ hs10), tx10.mono (same_tup s11), f2, by omega, fun H12 s12 => ⟨_, rfl, rfl, _, rfl, iteNE ?_ ?_⟩⟩
    · rw [← f1, eC]
    · exact ⟨_, _, _, _, _, _, _, rfl, (s09.trans s10).trans (s11.trans s12)⟩
  · rintro σ H2 ⟨v1, v2, v3, v4, v5, v6, v7, rfl, s2⟩
    exact q H2
end
theorem top_mk {K : PySem.W.Frag} {h : Heap} {mg : Str → Option Value} {x : Str} {st : Stmt} {ps : List Str} {f : Addr} {od an : Option Addr} {sl : Array (Option Value)} {oc kV dc pm cd ct : Value} (X : K.In h) (G : h.Ns mainGlobals mg)
    (a : PySem.W.nsIn K mainGlobals x = some (some (.ref f))) (l : K.lookup f = some ⟨oc, od, .func (PySem.W.fnOf x x (defArgs st) (defBody st) (defScope st) .none kV dc pm an cd ct), sl⟩) (c : PySem.W.codeIn K cd x = true) (k : PySem.W.keepIn K (.ref f) = true)
    (hb : ∀ (kV doc pm : Value) (an : Option Addr) (cdv ct : Value) (us : List Value), us.length = ps.length → bindArgs (PySem.W.fnOf x x (defArgs st) (defBody st) (defScope st) .none kV doc pm an cdv ct) ⟨us, []⟩ = pure (ps.zip us)) : Top K mg x st ps :=
  ⟨_, _, fun_mk (st := st) l c k, PySem.W.mg_of X G a, (fun_mk (st := st) l c k).binds hb⟩
theorem us_c {n : Nat} {us : List Value} (h : us.length = n + 1) : ∃ a r, us = a :: r ∧ r.length = n := by
  obtain ⟨a, r, rfl⟩ := List.exists_cons_of_length_eq_add_one h
  exact ⟨a, r, rfl, Nat.succ.inj h⟩
theorem us_1 (us : List Value) (h : us.length = 1) : ∃ a0, us = [a0] := List.length_eq_one_iff.mp h
theorem us_2 (us : List Value) (h : us.length = 2) : ∃ a0 a1, us = [a0, a1] := by
  obtain ⟨a, r, rfl, g⟩ := us_c h
  obtain ⟨b0, rfl⟩ := us_1 r g
  exact ⟨a, b0, rfl⟩
theorem us_3 (us : List Value) (h : us.length = 3) : ∃ a0 a1 a2, us = [a0, a1, a2] := by
  obtain ⟨a, r, rfl, g⟩ := us_c h
  obtain ⟨b0, b1, rfl⟩ := us_2 r g
  exact ⟨a, b0, b1, rfl⟩
theorem us_4 (us : List Value) (h : us.length = 4) : ∃ a0 a1 a2 a3, us = [a0, a1, a2, a3] := by
  obtain ⟨a, r, rfl, g⟩ := us_c h
  obtain ⟨b0, b1, b2, rfl⟩ := us_3 r g
  exact ⟨a, b0, b1, b2, rfl⟩
theorem all_mk {l : PySem.W.OpenLaw} {w : World} {K : PySem.W.Frag} {h : Heap} {mg : Str → Option Value} {fa : Addr} (X : K.In h) (G : h.Ns mainGlobals mg) (hfa : mg "law" = some (.ref fa))
    {f0 : Addr} {od0 an0 : Option Addr} {sl0 : Array (Option Value)} {oc0 kV0 dc0 pm0 cd0 ct0 : Value}
    {f1 : Addr} {od1 an1 : Option Addr} {sl1 : Array (Option Value)} {oc1 kV1 dc1 pm1 cd1 ct1 : Value}
    {f2 : Addr} {od2 an2 : Option Addr} {sl2 : Array (Option Value)} {oc2 kV2 dc2 pm2 cd2 ct2 : Value}
    {f3 : Addr} {od3 an3 : Option Addr} {sl3 : Array (Option Value)} {oc3 kV3 dc3 pm3 cd3 ct3 : Value}
    {f4 : Addr} {od4 an4 : Option Addr} {sl4 : Array (Option Value)} {oc4 kV4 dc4 pm4 cd4 ct4 : Value}
    {f5 : Addr} {od5 an5 : Option Addr} {sl5 : Array (Option Value)} {oc5 kV5 dc5 pm5 cd5 ct5 : Value}
    {f6 : Addr} {od6 an6 : Option Addr} {sl6 : Array (Option Value)} {oc6 kV6 dc6 pm6 cd6 ct6 : Value}
    {f7 : Addr} {od7 an7 : Option Addr} {sl7 : Array (Option Value)} {oc7 kV7 dc7 pm7 cd7 ct7 : Value}
    {f8 : Addr} {od8 an8 : Option Addr} {sl8 : Array (Option Value)} {oc8 kV8 dc8 pm8 cd8 ct8 : Value}
    {f9 : Addr} {od9 an9 : Option Addr} {sl9 : Array (Option Value)} {oc9 kV9 dc9 pm9 cd9 ct9 : Value}
    {f10 : Addr} {od10 an10 : Option Addr} {sl10 : Array (Option Value)} {oc10 kV10 dc10 pm10 cd10 ct10 : Value}
    {f11 : Addr} {od11 an11 : Option Addr} {sl11 : Array (Option Value)} {oc11 kV11 dc11 pm11 cd11 ct11 : Value}
    {f12 : Addr} {od12 an12 : Option Addr} {sl12 : Array (Option Value)} {oc12 kV12 dc12 pm12 cd12 ct12 : Value}
    {f13 : Addr} {od13 an13 : Option Addr} {sl13 : Array (Option Value)} {oc13 kV13 dc13 pm13 cd13 ct13 : Value}
    {f14 : Addr} {od14 an14 : Option Addr} {sl14 : Array (Option Value)} {oc14 kV14 dc14 pm14 cd14 ct14 : Value}
    {f15 : Addr} {od15 an15 : Option Addr} {sl15 : Array (Option Value)} {oc15 kV15 dc15 pm15 cd15 ct15 : Value}
    {f16 : Addr} {od16 an16 : Option Addr} {sl16 : Array (Option Value)} {oc16 kV16 dc16 pm16 cd16 ct16 : Value}
    (a0 : PySem.W.nsIn K mainGlobals "is_number" = some (some (.ref f0))) (l0 : K.lookup f0 = some ⟨oc0, od0, .func (PySem.W.fnOf "is_number" "is_number" (defArgs st_is_number) (defBody st_is_number) (defScope st_is_number) .none kV0 dc0 pm0 an0 cd0 ct0), sl0⟩) (c0 : PySem.W.codeIn K cd0 "is_number" = true) (k0 : PySem.W.keepIn K (.ref f0) = true)
    (a1 : PySem.W.nsIn K mainGlobals "is_plan" = some (some (.ref f1))) (l1 : K.lookup f1 = some ⟨oc1, od1, .func (PySem.W.fnOf "is_plan" "is_plan" (defArgs st_is_plan) (defBody st_is_plan) (defScope st_is_plan) .none kV1 dc1 pm1 an1 cd1 ct1), sl1⟩) (c1 : PySem.W.codeIn K cd1 "is_plan" = true) (k1 : PySem.W.keepIn K (.ref f1) = true)
    (a2 : PySem.W.nsIn K mainGlobals "finds_rows" = some (some (.ref f2))) (l2 : K.lookup f2 = some ⟨oc2, od2, .func (PySem.W.fnOf "finds_rows" "finds_rows" (defArgs st_finds_rows) (defBody st_finds_rows) (defScope st_finds_rows) .none kV2 dc2 pm2 an2 cd2 ct2), sl2⟩) (c2 : PySem.W.codeIn K cd2 "finds_rows" = true) (k2 : PySem.W.keepIn K (.ref f2) = true)
    (a3 : PySem.W.nsIn K mainGlobals "cost_of" = some (some (.ref f3))) (l3 : K.lookup f3 = some ⟨oc3, od3, .func (PySem.W.fnOf "cost_of" "cost_of" (defArgs st_cost_of) (defBody st_cost_of) (defScope st_cost_of) .none kV3 dc3 pm3 an3 cd3 ct3), sl3⟩) (c3 : PySem.W.codeIn K cd3 "cost_of" = true) (k3 : PySem.W.keepIn K (.ref f3) = true)
    (a4 : PySem.W.nsIn K mainGlobals "size_and_cost" = some (some (.ref f4))) (l4 : K.lookup f4 = some ⟨oc4, od4, .func (PySem.W.fnOf "size_and_cost" "size_and_cost" (defArgs st_size_and_cost) (defBody st_size_and_cost) (defScope st_size_and_cost) .none kV4 dc4 pm4 an4 cd4 ct4), sl4⟩) (c4 : PySem.W.codeIn K cd4 "size_and_cost" = true) (k4 : PySem.W.keepIn K (.ref f4) = true)
    (a5 : PySem.W.nsIn K mainGlobals "free_plan" = some (some (.ref f5))) (l5 : K.lookup f5 = some ⟨oc5, od5, .func (PySem.W.fnOf "free_plan" "free_plan" (defArgs st_free_plan) (defBody st_free_plan) (defScope st_free_plan) .none kV5 dc5 pm5 an5 cd5 ct5), sl5⟩) (c5 : PySem.W.codeIn K cd5 "free_plan" = true) (k5 : PySem.W.keepIn K (.ref f5) = true)
    (a6 : PySem.W.nsIn K mainGlobals "_law_mix" = some (some (.ref f6))) (l6 : K.lookup f6 = some ⟨oc6, od6, .func (PySem.W.fnOf "_law_mix" "_law_mix" (defArgs st_l_mix) (defBody st_l_mix) (defScope st_l_mix) .none kV6 dc6 pm6 an6 cd6 ct6), sl6⟩) (c6 : PySem.W.codeIn K cd6 "_law_mix" = true) (k6 : PySem.W.keepIn K (.ref f6) = true)
    (a7 : PySem.W.nsIn K mainGlobals "_law_left" = some (some (.ref f7))) (l7 : K.lookup f7 = some ⟨oc7, od7, .func (PySem.W.fnOf "_law_left" "_law_left" (defArgs st_l_left) (defBody st_l_left) (defScope st_l_left) .none kV7 dc7 pm7 an7 cd7 ct7), sl7⟩) (c7 : PySem.W.codeIn K cd7 "_law_left" = true) (k7 : PySem.W.keepIn K (.ref f7) = true)
    (a8 : PySem.W.nsIn K mainGlobals "_law_pick" = some (some (.ref f8))) (l8 : K.lookup f8 = some ⟨oc8, od8, .func (PySem.W.fnOf "_law_pick" "_law_pick" (defArgs st_l_pick) (defBody st_l_pick) (defScope st_l_pick) .none kV8 dc8 pm8 an8 cd8 ct8), sl8⟩) (c8 : PySem.W.codeIn K cd8 "_law_pick" = true) (k8 : PySem.W.keepIn K (.ref f8) = true)
    (a9 : PySem.W.nsIn K mainGlobals "_law_many" = some (some (.ref f9))) (l9 : K.lookup f9 = some ⟨oc9, od9, .func (PySem.W.fnOf "_law_many" "_law_many" (defArgs st_l_many) (defBody st_l_many) (defScope st_l_many) .none kV9 dc9 pm9 an9 cd9 ct9), sl9⟩) (c9 : PySem.W.codeIn K cd9 "_law_many" = true) (k9 : PySem.W.keepIn K (.ref f9) = true)
    (a10 : PySem.W.nsIn K mainGlobals "_law_sizes" = some (some (.ref f10))) (l10 : K.lookup f10 = some ⟨oc10, od10, .func (PySem.W.fnOf "_law_sizes" "_law_sizes" (defArgs st_l_sizes) (defBody st_l_sizes) (defScope st_l_sizes) .none kV10 dc10 pm10 an10 cd10 ct10), sl10⟩) (c10 : PySem.W.codeIn K cd10 "_law_sizes" = true) (k10 : PySem.W.keepIn K (.ref f10) = true)
    (a11 : PySem.W.nsIn K mainGlobals "_law_ways" = some (some (.ref f11))) (l11 : K.lookup f11 = some ⟨oc11, od11, .func (PySem.W.fnOf "_law_ways" "_law_ways" (defArgs st_l_ways) (defBody st_l_ways) (defScope st_l_ways) .none kV11 dc11 pm11 an11 cd11 ct11), sl11⟩) (c11 : PySem.W.codeIn K cd11 "_law_ways" = true) (k11 : PySem.W.keepIn K (.ref f11) = true)
    (a12 : PySem.W.nsIn K mainGlobals "_law_same" = some (some (.ref f12))) (l12 : K.lookup f12 = some ⟨oc12, od12, .func (PySem.W.fnOf "_law_same" "_law_same" (defArgs st_l_same) (defBody st_l_same) (defScope st_l_same) .none kV12 dc12 pm12 an12 cd12 ct12), sl12⟩) (c12 : PySem.W.codeIn K cd12 "_law_same" = true) (k12 : PySem.W.keepIn K (.ref f12) = true)
    (a13 : PySem.W.nsIn K mainGlobals "_law_partings" = some (some (.ref f13))) (l13 : K.lookup f13 = some ⟨oc13, od13, .func (PySem.W.fnOf "_law_partings" "_law_partings" (defArgs st_l_partings) (defBody st_l_partings) (defScope st_l_partings) .none kV13 dc13 pm13 an13 cd13 ct13), sl13⟩) (c13 : PySem.W.codeIn K cd13 "_law_partings" = true) (k13 : PySem.W.keepIn K (.ref f13) = true)
    (a14 : PySem.W.nsIn K mainGlobals "_law_sets" = some (some (.ref f14))) (l14 : K.lookup f14 = some ⟨oc14, od14, .func (PySem.W.fnOf "_law_sets" "_law_sets" (defArgs st_l_sets) (defBody st_l_sets) (defScope st_l_sets) .none kV14 dc14 pm14 an14 cd14 ct14), sl14⟩) (c14 : PySem.W.codeIn K cd14 "_law_sets" = true) (k14 : PySem.W.keepIn K (.ref f14) = true)
    (a15 : PySem.W.nsIn K mainGlobals "_law_least" = some (some (.ref f15))) (l15 : K.lookup f15 = some ⟨oc15, od15, .func (PySem.W.fnOf "_law_least" "_law_least" (defArgs st_l_least) (defBody st_l_least) (defScope st_l_least) .none kV15 dc15 pm15 an15 cd15 ct15), sl15⟩) (c15 : PySem.W.codeIn K cd15 "_law_least" = true) (k15 : PySem.W.keepIn K (.ref f15) = true)
    (a16 : PySem.W.nsIn K mainGlobals "law" = some (some (.ref f16))) (l16 : K.lookup f16 = some ⟨oc16, od16, .func (PySem.W.fnOf "law" "law" (defArgs st_law) (defBody st_law) (defScope st_law) .none kV16 dc16 pm16 an16 cd16 ct16), sl16⟩) (c16 : PySem.W.codeIn K cd16 "law" = true) (k16 : PySem.W.keepIn K (.ref f16) = true)
    (z0 : PySem.W.nsIn K mainGlobals "abs" = some none) (z1 : PySem.W.nsIn K mainGlobals "all" = some none) (z2 : PySem.W.nsIn K mainGlobals "bool" = some none) (z3 : PySem.W.nsIn K mainGlobals "enumerate" = some none) (z4 : PySem.W.nsIn K mainGlobals "int" = some none) (z5 : PySem.W.nsIn K mainGlobals "isinstance" = some none) (z6 : PySem.W.nsIn K mainGlobals "len" = some none) (z7 : PySem.W.nsIn K mainGlobals "list" = some none) (z8 : PySem.W.nsIn K mainGlobals "max" = some none) (z9 : PySem.W.nsIn K mainGlobals "min" = some none) (z10 : PySem.W.nsIn K mainGlobals "range" = some none) (z11 : PySem.W.nsIn K mainGlobals "sorted" = some none) (z12 : PySem.W.nsIn K mainGlobals "str" = some none) (z13 : PySem.W.nsIn K mainGlobals "sum" = some none) (z14 : PySem.W.nsIn K mainGlobals "tuple" = some none) (z15 : PySem.W.nsIn K mainGlobals "zip" = some none) :
    ∃ fd : FuncData, (∀ (s : Shared) (v : Value), BindsTo s fd ⟨[v], []⟩ [("_law_script", v)]) ∧ ∀ base : Heap, K.In base → base.Ns mainGlobals mg → FnOk l.prog w K mg base CX0 16 fa fd ["_law_script"] (spLaw K) := by
  have e := hfa.symm.trans (PySem.W.mg_of X G a16)
  cases e
  have T : Tops K mg := ⟨⟨PySem.W.mg_none_of X G z0, PySem.W.mg_none_of X G z1, PySem.W.mg_none_of X G z2, PySem.W.mg_none_of X G z3, PySem.W.mg_none_of X G z4, PySem.W.mg_none_of X G z5, PySem.W.mg_none_of X G z6, PySem.W.mg_none_of X G z7, PySem.W.mg_none_of X G z8, PySem.W.mg_none_of X G z9, PySem.W.mg_none_of X G z10, PySem.W.mg_none_of X G z11, PySem.W.mg_none_of X G z12, PySem.W.mg_none_of X G z13, PySem.W.mg_none_of X G z14, PySem.W.mg_none_of X G z15⟩, top_mk X G a0 l0 c0 k0 (fun _ _ _ _ _ _ us hl => by obtain ⟨_, rfl⟩ := us_1 us hl; exact rfl), top_mk X G a1 l1 c1 k1 (fun _ _ _ _ _ _ us hl => by obtain ⟨_, _, _, rfl⟩ := us_3 us hl; exact rfl), top_mk X G a2 l2 c2 k2 (fun _ _ _ _ _ _ us hl => by obtain ⟨_, _, _, _, rfl⟩ := us_4 us hl; exact rfl), top_mk X G a3 l3 c3 k3 (fun _ _ _ _ _ _ us hl => by obtain ⟨_, _, rfl⟩ := us_2 us hl; exact rfl), top_mk X G a4 l4 c4 k4 (fun _ _ _ _ _ _ us hl => by obtain ⟨_, _, rfl⟩ := us_2 us hl; exact rfl), top_mk X G a5 l5 c5 k5 (fun _ _ _ _ _ _ us hl => by obtain ⟨_, _, rfl⟩ := us_2 us hl; exact rfl), top_mk X G a6 l6 c6 k6 (fun _ _ _ _ _ _ us hl => by obtain ⟨_, _, rfl⟩ := us_2 us hl; exact rfl), top_mk X G a7 l7 c7 k7 (fun _ _ _ _ _ _ us hl => by obtain ⟨_, _, rfl⟩ := us_2 us hl; exact rfl), top_mk X G a8 l8 c8 k8 (fun _ _ _ _ _ _ us hl => by obtain ⟨_, _, rfl⟩ := us_2 us hl; exact rfl), top_mk X G a9 l9 c9 k9 (fun _ _ _ _ _ _ us hl => by obtain ⟨_, rfl⟩ := us_1 us hl; exact rfl), top_mk X G a10 l10 c10 k10 (fun _ _ _ _ _ _ us hl => by obtain ⟨_, _, rfl⟩ := us_2 us hl; exact rfl), top_mk X G a11 l11 c11 k11 (fun _ _ _ _ _ _ us hl => by obtain ⟨_, rfl⟩ := us_1 us hl; exact rfl), top_mk X G a12 l12 c12 k12 (fun _ _ _ _ _ _ us hl => by obtain ⟨_, _, rfl⟩ := us_2 us hl; exact rfl), top_mk X G a13 l13 c13 k13 (fun _ _ _ _ _ _ us hl => by obtain ⟨_, _, rfl⟩ := us_2 us hl; exact rfl), top_mk X G a14 l14 c14 k14 (fun _ _ _ _ _ _ us hl => by obtain ⟨_, rfl⟩ := us_1 us hl; exact rfl), top_mk X G a15 l15 c15 k15 (fun _ _ _ _ _ _ us hl => by obtain ⟨_, _, rfl⟩ := us_2 us hl; exact rfl)⟩
  exact ⟨PySem.W.fnOf "law" "law" (defArgs st_law) (defBody st_law) (defScope st_law) .none kV16 dc16 pm16 an16 cd16 ct16, fun s v => .of_eq rfl, fun base _ _ => ok_law (fun_mk (st := st_law) l16 c16 k16) T⟩
theorem walk {l : PySem.W.OpenLaw} {q : Program} {loose : List Str} {XP : (Str → Option Value) → Heap → Prop} {YP : World → Heap → Prop} {d : DefRec} {K : Params → PySem.W.Frag} (hn : l.most = some 63) (hdf : d.params.defaults = [])
    (hY : ∀ (w : World) (h : Heap), YP w h → (K w.params).In h)
    (F : ∀ (w : World) (mg : Str → Option Value) (fa : Addr) (h : Heap), (K w.params).In h → h.Ns mainGlobals mg → mg d.name = some (.ref fa) →
      ∃ fd : FuncData, (∀ (s : Shared) (u : Value), BindsTo s fd ⟨[u], []⟩ [("_law_script", u)]) ∧ ∀ base : Heap, (K w.params).In base → base.Ns mainGlobals mg → FnOk l.prog w (K w.params) mg base CX0 16 fa fd ["_law_script"] (spLaw (K w.params))) :
    PySem.W.WalkO q loose XP YP l.row.toRowW d [] (fun f vs => PySem.call f vs) :=
  L2.walk_of (n := 63) (k := 16) (x := "_law_script") (CX := fun _ => CX0) (sp := fun w => spLaw (K w.params)) hn (by decide) hdf ⟨rfl, by decide, by decide, rfl⟩ hY F (fun _ _ a ns hl _ hS => ⟨a, ns, rfl, hS, hl, fun _ => rfl⟩) fun _ _ _ _ _ z => z
end My
open PySem PySem.W PyProof.Rows
set_option maxRecDepth 100000 in
set_option maxHeartbeats 0 in
theorem PySem.Challenge.cw_mergetree_k69_whole_free_beside_all_tree_holds : PySem.Challenge.rw_mergetree_k69_whole_free_beside_all_tree.Holds := by
  w_on; o_law; k_head; (case hw => w_witness2)
  k_fill
  refine My.walk (l := PySem.Challenge.rw_mergetree_k69_whole_free_beside_all_tree) rfl rfl (fun w h Y => PySem.W.kIn_of Y) ?F
  case F =>
    intro w mg fa h KX G hmg
    refine' My.all_mk KX G hmg ?a0 ?l0 ?c0 ?k0 ?a1 ?l1 ?c1 ?k1 ?a2 ?l2 ?c2 ?k2 ?a3 ?l3 ?c3 ?k3 ?a4 ?l4 ?c4 ?k4 ?a5 ?l5 ?c5 ?k5 ?a6 ?l6 ?c6 ?k6 ?a7 ?l7 ?c7 ?k7 ?a8 ?l8 ?c8 ?k8 ?a9 ?l9 ?c9 ?k9 ?a10 ?l10 ?c10 ?k10 ?a11 ?l11 ?c11 ?k11 ?a12 ?l12 ?c12 ?k12 ?a13 ?l13 ?c13 ?k13 ?a14 ?l14 ?c14 ?k14 ?a15 ?l15 ?c15 ?k15 ?a16 ?l16 ?c16 ?k16 ?z0 ?z1 ?z2 ?z3 ?z4 ?z5 ?z6 ?z7 ?z8 ?z9 ?z10 ?z11 ?z12 ?z13 ?z14 ?z15
    (case a0 => k_is); (case l0 => k_is); (case c0 => k_is); (case k0 => k_is)
    (case a1 => k_is); (case l1 => k_is); (case c1 => k_is); (case k1 => k_is)
    (case a2 => k_is); (case l2 => k_is); (case c2 => k_is); (case k2 => k_is)
    (case a3 => k_is); (case l3 => k_is); (case c3 => k_is); (case k3 => k_is)
    (case a4 => k_is); (case l4 => k_is); (case c4 => k_is); (case k4 => k_is)
    (case a5 => k_is); (case l5 => k_is); (case c5 => k_is); (case k5 => k_is)
    (case a6 => k_is); (case l6 => k_is); (case c6 => k_is); (case k6 => k_is)
    (case a7 => k_is); (case l7 => k_is); (case c7 => k_is); (case k7 => k_is)
    (case a8 => k_is); (case l8 => k_is); (case c8 => k_is); (case k8 => k_is)
    (case a9 => k_is); (case l9 => k_is); (case c9 => k_is); (case k9 => k_is)
    (case a10 => k_is); (case l10 => k_is); (case c10 => k_is); (case k10 => k_is)
    (case a11 => k_is); (case l11 => k_is); (case c11 => k_is); (case k11 => k_is)
    (case a12 => k_is); (case l12 => k_is); (case c12 => k_is); (case k12 => k_is)
    (case a13 => k_is); (case l13 => k_is); (case c13 => k_is); (case k13 => k_is)
    (case a14 => k_is); (case l14 => k_is); (case c14 => k_is); (case k14 => k_is)
    (case a15 => k_is); (case l15 => k_is); (case c15 => k_is); (case k15 => k_is)
    (case a16 => k_is); (case l16 => k_is); (case c16 => k_is); (case k16 => k_is)
    (case z0 => k_is)
    (case z1 => k_is)
    (case z2 => k_is)
    (case z3 => k_is)
    (case z4 => k_is)
    (case z5 => k_is)
    (case z6 => k_is)
    (case z7 => k_is)
    (case z8 => k_is)
    (case z9 => k_is)
    (case z10 => k_is)
    (case z11 => k_is)
    (case z12 => k_is)
    (case z13 => k_is)
    (case z14 => k_is)
    (case z15 => k_is)
