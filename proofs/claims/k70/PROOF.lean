import PyProof.Rows.All
import Wide.All
import OpenK.AllK
import Wide.FinOn
import Lean
import PyProof.EqAt
import PyProof.EqKinds
import PyProof.TupleCall
import PyProof.AttrMissHeap
import KE.KEqDict
import KE.KItemsList
import PyProof.WalksMore
import PyProof.TupleOfStr
import PySem.Challenge.RW_mergetree_k70_whole_near_beside_all_near
set_option Elab.async false
set_option linter.all false
set_option maxRecDepth 100000
namespace L2
open PySem PySem.Spec PyProof.Rows
abbrev Key := Sum Int Str
def keyIs : Key → Value → Bool
  | .inl k, v => Value.isInt k v
  | .inr x, v => Value.isStrOf x v
def keyH (w : World) : Key → Int
  | .inl k => hashInt k
  | .inr x => hashStr w x
theorem keyIs_shape : ∀ {k : Key} {v : Value}, keyIs k v = true → (∃ i t, k = Sum.inl i ∧ v = Value.int i t) ∨ (∃ x t, k = Sum.inr x ∧ v = Value.str x t)
  | .inl i, v, h => by
    obtain ⟨t, e⟩ := Value.isInt_shape (k := i) (v := v) h
    exact .inl ⟨i, t, rfl, e⟩
  | .inr x, v, h => by
    obtain ⟨t, e⟩ := Value.isStrOf_shape (x := x) (v := v) h
    exact .inr ⟨x, t, rfl, e⟩
theorem keyIs_int (i : Int) (t : Tok) : keyIs (.inl i) (.int i t) = true := by simp [keyIs, Value.isInt]
theorem keyIs_str (x : Str) (t : Tok) : keyIs (.inr x) (.str x t) = true := by simp [keyIs, Value.isStrOf]
theorem key_ll (a b : Int) : decide ((Sum.inl a : Key) = Sum.inl b) = (a == b) := by
  by_cases e : a = b
  · subst e; simp
  · have h : ¬ (Sum.inl a : Key) = Sum.inl b := fun q => e (Sum.inl.inj q)
    rw [decide_eq_false h]
    exact (beq_eq_false_iff_ne.mpr e).symm
theorem key_rr (a b : Str) : decide ((Sum.inr a : Key) = Sum.inr b) = decide (a = b) := by
  by_cases e : a = b
  · subst e; simp
  · have h : ¬ (Sum.inr a : Key) = Sum.inr b := fun q => e (Sum.inr.inj q)
    rw [decide_eq_false h, decide_eq_false e]
theorem key_lr (a : Int) (b : Str) : decide ((Sum.inl a : Key) = Sum.inr b) = false := decide_eq_false (fun q => nomatch q)
theorem key_rl (a : Str) (b : Int) : decide ((Sum.inr a : Key) = Sum.inl b) = false := decide_eq_false (fun q => nomatch q)
def mixKind (prog : Program) (w : World) : PySem.KeyKind prog w Key where
  is := keyIs
  hash := keyH w
  inj := fun v a b ha hb => by
    rcases keyIs_shape ha with ⟨i, t, rfl, rfl⟩ | ⟨x, t, rfl, rfl⟩
    · rcases keyIs_shape hb with ⟨j, u, rfl, e⟩ | ⟨y, u, rfl, e⟩
      · injection e with e1 _; rw [e1]
      · exact nomatch e
    · rcases keyIs_shape hb with ⟨j, u, rfl, e⟩ | ⟨y, u, rfl, e⟩
      · exact nomatch e
      · injection e with e1 _; rw [e1]
  byValue := fun k v h => by
    rcases keyIs_shape h with ⟨i, t, rfl, rfl⟩ | ⟨x, t, rfl, rfl⟩ <;> rfl
  pyHash := fun hv h => by
    rcases keyIs_shape hv with ⟨i, t, rfl, rfl⟩ | ⟨x, t, rfl, rfl⟩
    · exact wpAny_pyHash_int h
    · exact wpAny_pyHash_str h
  eqBool := fun hu hv h => by
    rcases keyIs_shape hu with ⟨i, t, rfl, rfl⟩ | ⟨x, t, rfl, rfl⟩
    · rcases keyIs_shape hv with ⟨j, u, rfl, rfl⟩ | ⟨y, u, rfl, rfl⟩
      · rw [key_ll] at h; exact wpAny_eqBool_int h
      · rw [key_lr] at h; exact SeqAt.EqAt.int_str i t y u _ _ _ _ h
    · rcases keyIs_shape hv with ⟨j, u, rfl, rfl⟩ | ⟨y, u, rfl, rfl⟩
      · rw [key_rl] at h; exact SeqAt.EqAt.str_int x t j u _ _ _ _ h
      · rw [key_rr] at h; exact wpAny_eqBool_str h
  «strs» := fun k x t v h => by
    rcases keyIs_shape h with ⟨i, u, rfl, e⟩ | ⟨y, u, rfl, e⟩
    · exact nomatch e
    · injection e with e1 _
      subst e1
      cases v <;> rfl
theorem mixKind_is (prog : Program) (w : World) (k : Key) (v : Value) : (mixKind prog w).is k v = keyIs k v := rfl
theorem mixKind_int (prog : Program) (w : World) (i : Int) (t : Tok) : (mixKind prog w).is (.inl i) (.int i t) = true := keyIs_int i t
theorem mixKind_str (prog : Program) (w : World) (x : Str) (t : Tok) : (mixKind prog w).is (.inr x) (.str x t) = true := keyIs_str x t
end L2
namespace L2
open PySem PySem.Spec PyProof.Rows
inductive V where
  | non | bl (b : Bool) | int (i : Int) | str (x : Str) | byt (b : Array UInt8) | flt (b : UInt64) | ref (a : Addr) | ty (n : String)
  deriving DecidableEq
def RelV : V → Value → Prop
  | .non, u => u = Value.none
  | .bl b, u => u = Value.bool b
  | .int i, u => ∃ t, u = Value.int i t
  | .str x, u => ∃ t, u = Value.str x t
  | .byt b, u => ∃ t, u = Value.bytes b t
  | .flt b, u => ∃ t, u = Value.float b t
  | .ref a, u => u = Value.ref a
  | .ty n, u => u = Value.type n
abbrev Vals : List V → List Value → Prop := Paired RelV
theorem Vals.length {xs : List V} {us : List Value} (r : Vals xs us) : xs.length = us.length := Paired.length r
theorem Vals.get : ∀ {xs : List V} {us : List Value} {i : Nat} {x : V}, Vals xs us → xs[i]? = some x → ∃ u, us[i]? = some u ∧ RelV x u
  | _, _, _, _, .nil, e => by simp at e
  | _, _, 0, _, .cons r _, e => by simp at e; subst e; exact ⟨_, rfl, r⟩
  | _, _, i + 1, x, .cons _ t, e => by
    obtain ⟨u, h1, h2⟩ := Vals.get (i := i) (x := x) t (by simpa using e)
    exact ⟨u, by simpa using h1, h2⟩
theorem Vals.set {x : V} {u : Value} (r : RelV x u) : ∀ {xs : List V} {us : List Value} (i : Nat), Vals xs us → Vals (xs.set i x) (us.set i u)
  | _, _, _, .nil => .nil
  | _, _, 0, .cons _ t => .cons r t
  | _, _, i + 1, .cons q t => .cons q (Vals.set r i t)
theorem Vals.append : ∀ {xs ys : List V} {us ws : List Value}, Vals xs us → Vals ys ws → Vals (xs ++ ys) (us ++ ws)
  | _, _, _, _, .nil, s => s
  | _, _, _, _, .cons r t, s => .cons r (Vals.append t s)
theorem Vals.take : ∀ {xs : List V} {us : List Value} (n : Nat), Vals xs us → Vals (xs.take n) (us.take n)
  | _, _, 0, _ => .nil
  | _, _, _ + 1, .nil => .nil
  | _, _, n + 1, .cons r t => .cons r (Vals.take n t)
theorem Vals.drop : ∀ {xs : List V} {us : List Value} (n : Nat), Vals xs us → Vals (xs.drop n) (us.drop n)
  | _, _, 0, r => r
  | _, _, _ + 1, .nil => .nil
  | _, _, n + 1, .cons _ t => Vals.drop n t
def RelO : Option V → Option Value → Prop
  | some v, some u => RelV v u
  | none, none => True
  | _, _ => False
def KV {κ : Type} : List (κ × V) → List (κ × Value) → Prop := Paired fun (p : κ × V) (q : κ × Value) => p.1 = q.1 ∧ RelV p.2 q.2
def kV : Key → V
  | .inl i => .int i
  | .inr x => .str x
inductive HO where
  /-- a list -/
  | lst (xs : List V)
  /-- a tuple (never changes) -/
  | tup (xs : List V)
  /-- a dict whose keys are ints and texts; one whose keys are tuples of ints and texts (the empty one is both) -/
  | dK (kvs : List (Key × V)) | dT (kvs : List (List Key × V))
  /-- a set of ints: its members, its size -/
  | set (S : Int → Bool) (n : Nat)
  /-- an instance of the class at C, its dict at dx, its attributes -/
  | ins (C dx : Addr) (fs : List (Str × V))
  /-- the dict of the instance at x -/
  | own (x : Addr)
  /-- the dict of an exception -/
  | xd (fs : List (Str × V))
  /-- a bound method, f of x -/
  | met (f x : Addr)
  /-- a range object lo, lo + 1, .. below hi -/
  | rng (lo hi : Int)
  /-- a thing that is known to the object (the script; a dict while a loop walks it): read, never written while it is so -/
  | frz (o : Obj) (u : HO)
  /-- a code object's table -/
  | tbl (ps : Array Value)
  /-- any other thing, by what is true of its one object (a def of one's own: SetO a S n := HO.ext fun h => ..) -/
  | ext (φ : Heap → Prop)
abbrev Hp := Addr → Option HO
def upd (H : Hp) (a : Addr) (o : HO) : Hp := fun b => if b = a then some o else H b
theorem upd_same {H : Hp} {a : Addr} {o : HO} : upd H a o a = some o := by unfold upd; rw [if_pos rfl]
theorem upd_ne {H : Hp} {a b : Addr} {o : HO} (h : b ≠ a) : upd H a o b = H b := by unfold upd; rw [if_neg h]
theorem ne_of {H : Hp} {a b : Addr} {o u : HO} (h : H a = some o) (h' : H b = some u) (d : o ≠ u) : a ≠ b := by
  intro e; subst e; rw [h] at h'; exact d (Option.some.inj h')
theorem ne_of_none {H : Hp} {a b : Addr} {o : HO} (h : H a = some o) (h' : H b = none) : a ≠ b := by
  intro e; subst e; rw [h] at h'; cases h'
section
variable (P : Program) (w : World)
def ObjOk (H : Hp) (h : Heap) (a : Addr) : HO → Prop
  | .lst xs => xs.length ≤ sizeLine ∧ ∃ (its : List Value) (n : Nat), Vals xs its ∧ h.get? a = some { cls := .type "list", data := .seq its.toArray n }
  | .tup xs => xs.length ≤ sizeLine ∧ ∃ its : List Value, Vals xs its ∧ IsTup h a its.toArray
  | .dK kvs => kvs.length ≤ sizeLine ∧ (a == sysModules) = false ∧ ∃ vs, KV kvs vs ∧ h.DictOf (mixKind P w) a vs
  | .dT kvs => kvs.length ≤ sizeLine ∧ (a == sysModules) = false ∧ ∃ xs : List (List Key × Addr × Value),
      Paired (fun (p : List Key × V) (q : List Key × Addr × Value) => p.1 = q.1 ∧ H q.2.1 = some (.tup (p.1.map kV)) ∧ RelV p.2 q.2.2) kvs xs ∧
      ∃ o es ep, h.get? a = some o ∧ o.ExactDict ∧ o.data = .dict es ep ∧ es.toList = xs.map (entryOfKey (tupleKind (mixKind P w))) ∧ (xs.map (·.1)).Nodup
  | .set S n => h.SetOf (intKind P w) a S n
  | .ins C dx fs => H dx = some (.own a) ∧ fs.length ≤ 1000 ∧ dx ≠ a ∧ h.get? a = some (PySem.W.instObj C dx) ∧
      ∃ mA, h.Ns1 dx mA ∧ (∀ f, RelO (fs.lookup f) (mA f)) ∧ PySem.Within mA (fs.map (·.1))
  | .own _ => ∃ o, h.get? a = some o
  | .xd fs => ∃ mA, h.Ns1 a mA ∧ ∀ f, RelO (fs.lookup f) (mA f)
  | .rng lo hi => ∃ t u v, h.get? a = some { cls := .type "range", data := .fields #[.int lo t, .int hi u, .int 1 v] }
  | .frz o u => h.get? a = some o ∧ ObjOk H h a u
  | .tbl ps => h.get? a = some { cls := .none, data := .fields ps }
  | .met f x => h.get? a = some (PySem.W.methodObj (.ref f) (.ref x))
  | .ext φ => φ h ∧ (∃ o, h.get? a = some o) ∧ ∀ h1 h2 : Heap, φ h1 → (∀ o, h1.get? a = some o → h2.get? a = some o) → φ h2
def HOk (H : Hp) (h : Heap) : Prop := ∀ a o, H a = some o → ObjOk P w H h a o
end
section
variable {P : Program} {w : World} {H H' : Hp} {h h' : Heap} {a : Addr} {o : HO}
theorem ObjOk.lt (x : ObjOk P w H h a o) : a < h.objs.size := by
  cases o with
  | lst xs => obtain ⟨_, _, _, _, e⟩ := x; exact Heap.lt_size e
  | tup xs => obtain ⟨_, _, _, p⟩ := x; exact p.lt
  | dK kvs => obtain ⟨_, _, _, _, o, _, _, e, _⟩ := x; exact Heap.lt_size e
  | dT kvs => obtain ⟨_, _, _, _, o, _, _, e, _⟩ := x; exact Heap.lt_size e
  | set S n => obtain ⟨o, _, _, _, e, _⟩ := x; exact Heap.lt_size e
  | ins C dx fs => obtain ⟨_, _, _, e, _⟩ := x; exact Heap.lt_size e
  | own y => obtain ⟨_, e⟩ := x; exact Heap.lt_size e
  | xd fs => obtain ⟨_, ⟨_, _, _, e, _⟩, _⟩ := x; exact Heap.lt_size e
  | rng lo hi => obtain ⟨_, _, _, e⟩ := x; exact Heap.lt_size e
  | frz ob u => obtain ⟨e, _⟩ := x; exact Heap.lt_size e
  | tbl ps => exact Heap.lt_size (show h.get? a = some _ from x)
  | met f y => exact Heap.lt_size (show h.get? a = some _ from x)
  | ext φ => obtain ⟨_, ⟨_, e⟩, _⟩ := x; exact Heap.lt_size e
theorem Paired.mapP {α β : Type} {F G : α → β → Prop} : ∀ {l₁ : List α} {l₂ : List β}, Paired F l₁ l₂ → (∀ a b, F a b → G a b) → Paired G l₁ l₂
  | _, _, .nil, _ => .nil
  | _, _, .cons r t, f => .cons (f _ _ r) (Paired.mapP t f)
theorem ObjOk.stay (x : ObjOk P w H h a o) (k : ∀ b u, (b = a ∨ H b = some (.own a)) → h.get? b = some u → h'.get? b = some u)
    (ho : ∀ b, H b = some (.own a) → H' b = some (.own a)) (ht : ∀ b xs, H b = some (.tup xs) → H' b = some (.tup xs)) : ObjOk P w H' h' a o := by
  induction o with
  | lst xs => obtain ⟨z, its, n, r, e⟩ := x; exact ⟨z, its, n, r, k _ _ (.inl rfl) e⟩
  | tup xs => obtain ⟨z, its, r, ob, e, c⟩ := x; exact ⟨z, its, r, ob, k _ _ (.inl rfl) e, c⟩
  | dK kvs => obtain ⟨z, y, vs, r, ob, es, ep, e, c⟩ := x; exact ⟨z, y, vs, r, ob, es, ep, k _ _ (.inl rfl) e, c⟩
  | dT kvs =>
    obtain ⟨z, y, xs, r, ob, es, ep, e, c⟩ := x
    exact ⟨z, y, xs, Paired.mapP r fun p q z => ⟨z.1, ht _ _ z.2.1, z.2.2⟩, ob, es, ep, k _ _ (.inl rfl) e, c⟩
  | set S n => obtain ⟨ob, es, ep, t, e, c⟩ := x; exact ⟨ob, es, ep, t, k _ _ (.inl rfl) e, c⟩
  | ins C dx fs =>
    obtain ⟨d, z, ne, e, mA, ⟨od, es, ep, e2, c⟩, r⟩ := x
    exact ⟨ho _ d, z, ne, k _ _ (.inl rfl) e, mA, ⟨od, es, ep, k _ _ (.inr d) e2, c⟩, r⟩
  | own y => obtain ⟨ob, e⟩ := x; exact ⟨ob, k _ _ (.inl rfl) e⟩
  | xd fs => obtain ⟨mA, ⟨od, es, ep, e, c⟩, r⟩ := x; exact ⟨mA, ⟨od, es, ep, k _ _ (.inl rfl) e, c⟩, r⟩
  | rng lo hi => obtain ⟨t, u, v, e⟩ := x; exact ⟨t, u, v, k _ _ (.inl rfl) e⟩
  | frz ob u ih => obtain ⟨e, q⟩ := x; exact ⟨k _ _ (.inl rfl) e, ih q⟩
  | tbl ps =>
    have e : h.get? a = some { cls := .none, data := .fields ps } := x
    show h'.get? a = some { cls := .none, data := .fields ps }
    exact k a _ (.inl rfl) e
  | met f y =>
    have e : h.get? a = some (PySem.W.methodObj (.ref f) (.ref y)) := x
    show h'.get? a = some (PySem.W.methodObj (.ref f) (.ref y))
    exact k a _ (.inl rfl) e
  | ext φ => obtain ⟨p, ⟨o, e⟩, st⟩ := x; exact ⟨st _ _ p fun o q => k _ _ (.inl rfl) q, ⟨o, k _ _ (.inl rfl) e⟩, st⟩
theorem HOk.lt (x : HOk P w H h) (e : H a = some o) : a < h.objs.size := (x a o e).lt
theorem HOk.fresh (x : HOk P w H h) (e : h.objs.size ≤ a) : H a = none := by
  cases q : H a with
  | none => rfl
  | some u => exact absurd (Nat.lt_of_lt_of_le (x.lt q) e) (Nat.lt_irrefl _)
theorem HOk.kept (x : HOk P w H h) (k : ∀ b u, h.get? b = some u → h'.get? b = some u) : HOk P w H h' := fun a o e =>
  (x a o e).stay (fun b u _ q => k b u q) (fun _ q => q) fun _ _ q => q
theorem HOk.laid (x : HOk P w H h) (k : ∀ b u, h.get? b = some u → h'.get? b = some u) (hp : h.objs.size ≤ a) (new : ObjOk P w (upd H a o) h' a o) : HOk P w (upd H a o) h' := fun b u e => by
  have hn := x.fresh hp
  by_cases hb : b = a
  · subst hb; rw [upd_same] at e; cases e; exact new
  · rw [upd_ne hb] at e
    exact (x b u e).stay (fun c v _ q => k c v q) (fun c q => by rw [upd_ne (ne_of_none q hn)]; exact q) fun c xs q => by rw [upd_ne (ne_of_none q hn)]; exact q
end
def Rd (H : Hp) (a : Addr) (u : HO) : Prop := H a = some u ∨ ∃ o, H a = some (.frz o u)
theorem Rd.ok {P : Program} {w : World} {H : Hp} {h : Heap} {a : Addr} {u : HO} (r : Rd H a u) (x : HOk P w H h) : ObjOk P w H h a u := by
  rcases r with r | ⟨o, r⟩
  · exact x a u r
  · obtain ⟨_, q⟩ := x a _ r
    exact q
def Mut : Option HO → Prop
  | some (.lst _) => True
  | some (.dK _) => True
  | some (.dT _) => True
  | some (.set _ _) => True
  | some (.ins _ _ _) => True
  | some (.ext _) => True
  | _ => False
section
variable {P : Program} {w : World} {H : Hp} {h h' : Heap} {x e : Addr} {o' : HO}
theorem HOk.write (ok : HOk P w H h) (mu : Mut (H x)) (he : e = x ∨ H e = some (.own x)) (k : ∀ b u, b ≠ e → h.get? b = some u → h'.get? b = some u) (heo : ∃ u, h'.get? e = some u)
    (new : ObjOk P w (upd H x o') h' x o') : HOk P w (upd H x o') h' := fun b u q => by
  have nown : ∀ c y, H c = some (.own y) → c ≠ x := fun c y r z => by subst z; rw [r] at mu; exact mu
  have ntup : ∀ c xs, H c = some (.tup xs) → c ≠ x := fun c xs r z => by subst z; rw [r] at mu; exact mu
  by_cases hb : b = x
  · subst hb; rw [upd_same] at q; cases q; exact new
  · rw [upd_ne hb] at q
    by_cases hbe : b = e
    · have q' : H b = some (.own x) := by
        rcases he with z | z
        · exact absurd (hbe.trans z) hb
        · rw [hbe]; exact z
      rw [q] at q'; cases q'
      obtain ⟨v, hv⟩ := heo
      exact ⟨v, by rw [hbe]; exact hv⟩
    · refine (ok b u q).stay (fun c v hc r => k c v ?_ r) (fun c r => by rw [upd_ne (nown c b r)]; exact r) fun c xs r => by rw [upd_ne (ntup c xs r)]; exact r
      rcases hc with rfl | hc
      · exact hbe
      · rintro rfl
        rcases he with z | z
        · exact nown c b hc z
        · rw [hc] at z; cases z; exact hb rfl
end
structure Un (fs ex : List Addr) (H H' : Hp) (h h' : Heap) : Prop where
  keep : ∀ b o, h.get? b = some o → H b = none → b ∉ fs → b ∉ ex → h'.get? b = some o
  slot : ∀ b o, h.get? b = some o → H b = none → b ∈ fs → b ∉ ex → ∃ sl, h'.get? b = some { o with slots := sl }
  free : ∀ b o, h.get? b = some o → H b = none → b ∉ ex → H' b = none
  there : ∀ b o, h.get? b = some o → b ∉ ex → ∃ o', h'.get? b = some o'
  tups : ∀ b xs, H b = some (.tup xs) → H' b = some (.tup xs)
  frzs : ∀ b o u, H b = some (.frz o u) → H' b = some (.frz o u)
  tbls : ∀ b ps, H b = some (.tbl ps) → ∃ more, H' b = some (.tbl (ps ++ more))
section
variable {fs fs' ex ex' : List Addr} {H H1 H2 : Hp} {h h1 h2 h' : Heap} {a x e : Addr} {o : HO}
theorem Un.any (u : Un fs ex H H1 h h1) {b : Addr} {ob : Obj} (q : h.get? b = some ob) (n : H b = none) (hx : b ∉ ex) : ∃ sl, h1.get? b = some { ob with slots := sl } := by
  by_cases hb : b ∈ fs
  · exact u.slot b ob q n hb hx
  · exact ⟨ob.slots, u.keep b ob q n hb hx⟩
theorem Un.kept (k : ∀ b u, h.get? b = some u → h'.get? b = some u) : Un fs ex H H h h' :=
  ⟨fun b ob q _ _ _ => k b ob q, fun b ob q _ _ _ => ⟨ob.slots, k b ob q⟩, fun _ _ _ n _ => n, fun b ob q _ => ⟨ob, k b ob q⟩, fun _ _ q => q, fun _ _ _ q => q, fun _ ps q => ⟨#[], by rw [q]; simp⟩⟩
theorem Un.refl : Un fs ex H H h h := Un.kept fun _ _ q => q
theorem Un.laid (k : ∀ b u, h.get? b = some u → h'.get? b = some u) (hp : h.objs.size ≤ a) (hn : H a = none) : Un fs ex H (upd H a o) h h' where
  keep := fun b u q _ _ _ => k b u q
  slot := fun b u q _ _ _ => ⟨u.slots, k b u q⟩
  free := fun b u q n _ => by rw [upd_ne (Nat.ne_of_lt (Nat.lt_of_lt_of_le (Heap.lt_size q) hp))]; exact n
  there := fun b u q _ => ⟨u, k b u q⟩
  tups := fun b xs q => by rw [upd_ne (ne_of_none q hn)]; exact q
  frzs := fun b u xs q => by rw [upd_ne (ne_of_none q hn)]; exact q
  tbls := fun b ps q => ⟨#[], by rw [upd_ne (ne_of_none q hn), q]; simp⟩
theorem Un.write (mu : Mut (H x)) (he : e = x ∨ H e = some (.own x)) (k : ∀ b u, b ≠ e → h.get? b = some u → h'.get? b = some u) (heo : ∃ u, h'.get? e = some u) : Un fs ex H (upd H x o) h h' := by
  have hx : ∀ b, H b = none → b ≠ x := fun b n z => by subst z; rw [n] at mu; exact mu
  have hb : ∀ b, H b = none → b ≠ e := fun b n z => by
    subst z
    rcases he with r | r
    · exact hx b n r
    · rw [n] at r; cases r
  have hm : ∀ b u, H b = some u → ¬ Mut (some u) → b ≠ x := fun b u q nm z => by subst z; rw [q] at mu; exact nm mu
  refine ⟨fun b u q n _ _ => k b u (hb b n) q, fun b u q n _ _ => ⟨u.slots, k b u (hb b n) q⟩, fun b u q n _ => by rw [upd_ne (hx b n)]; exact n, fun b u q _ => ?_,
    fun b xs q => by rw [upd_ne (hm b _ q fun z => z)]; exact q, fun b u xs q => by rw [upd_ne (hm b _ q fun z => z)]; exact q, fun b ps q => ⟨#[], by rw [upd_ne (hm b _ q fun z => z), q]; simp⟩⟩
  by_cases hbe : b = e
  · subst hbe; exact heo
  · exact ⟨u, k b u hbe q⟩
end
def trk (h : Heap) (H : Hp) : List Addr := (List.range h.objs.size).filter fun a => (H a).isSome
def hidT (h : Heap) (H : Hp) : Heap := PySem.W.hideAll h (trk h H)
theorem hidT_size (h : Heap) (H : Hp) : (hidT h H).objs.size = h.objs.size := PySem.W.hideAll_size _ _
theorem hidT_get {h : Heap} {H : Hp} {b : Addr} {o : Obj} (e : h.get? b = some o) (n : H b = none) : (hidT h H).get? b = some o :=
  PySem.W.hideAll_get _ e fun hm => by
    have q : (H b).isSome = true := (List.mem_filter.mp hm).2
    rw [n] at q; simp at q
theorem of_hidT {h : Heap} {H : Hp} {b : Addr} {o : Obj} (e : (hidT h H).get? b = some o) : h.get? b = some o ∧ H b = none := by
  have e' : h.get? b = some o := PySem.W.of_hideAll (trk h H) e
  refine ⟨e', ?_⟩
  cases q : H b with
  | none => rfl
  | some x =>
    have hm : b ∈ trk h H := List.mem_filter.mpr ⟨List.mem_range.mpr (Heap.lt_size e'), by simp [q]⟩
    have z : (hidT h H).get? b = none := PySem.W.hideAll_none (trk h H) hm
    rw [z] at e; cases e
def allNews (g h : Heap) (L : Addr) : List (Addr × Obj) := (List.range h.objs.size).filterMap fun a => if a = L ∨ (g.get? a).isSome = true then none else (h.get? a).map fun o => (a, o)
def rest (g h : Heap) (L d : Addr) : List (Addr × Obj) := (allNews g h L).filter fun p => decide (p.1 ≠ d)
end L2
namespace L2
open PySem PySem.Spec PyProof.Rows
structure Mod (K : PySem.W.Frag) (mg : Str → Option Value) (base : Heap) : Prop where
  kin : K.In base
  glob : base.Ns mainGlobals mg
  blt : ∃ mb, base.Ns builtinsNs mb ∧ ∀ x : Str, x ≠ "__name__" → mb x = bootBuiltins x
  nolimit : base.NoLimit
structure Cx where
  prog : Program
  w : World
  K : PySem.W.Frag
  mg : Str → Option Value
  base : Heap
  A : Around
  N : List Str
  s₀ : Shared
  H₀ : Hp
  env : Env
  outer : List Env
  stack : List Env
  ex : List Addr
  fn : Str → Bool
  calm : Bool
  pn : List (Addr × Obj)
  xe : Value → Shared → Prop
def frs (l : List Env) : List Addr := l.filterMap (·.frame)
abbrev Cx.fs (X : Cx) : List Addr := frs X.outer
def Vis (sc : Scope) (x : Str) : Prop := sc.names.lookup x = some .local ∨ sc.names.lookup x = some .cell ∨ sc.names.lookup x = some .free
def Loc (sc : Scope) (x : Str) : Prop := sc.names.lookup x = some .local ∨ sc.names.lookup x = some .cell
def Look (env : Env) (h : Heap) (m : Str → Option Value) (x : Str) (u : Value) : Prop :=
  (env.kindOf x = some .local ∧ m x = some u) ∨ ((env.kindOf x = some .cell ∨ env.kindOf x = some .free) ∧ ∃ c, env.cells.lookup x = some c ∧ h.IsCell c (some u))
structure Cx.Ok (X : Cx) : Prop where
  mod : Mod X.K X.mg X.base
  kind : X.env.scope.kind = .function
  glob : X.env.globals = mainGlobals
  blt : X.env.builtins = builtinsNs
  above : X.s₀.heap.objs.size ≤ X.env.locals
  inj : ∀ x y c, X.env.cells.lookup x = some c → X.env.cells.lookup y = some c → x = y
  has : ∀ x, (X.env.kindOf x = some .cell ∨ X.env.kindOf x = some .free) → ∃ c, X.env.cells.lookup x = some c
  cab : ∀ x c, X.fn x = true → X.env.cells.lookup x = some c → X.s₀.heap.objs.size ≤ c
  hd : X.calm = true → X.A.handled = none
  frames : X.A.frames = some X.stack
  stk : X.stack = X.outer ∨ (X.stack = X.env :: X.outer ∧ X.env.frame = some X.env.locals)
  exf : ∀ b ∈ X.ex, b ≠ X.env.locals ∧ ∀ x c, X.env.cells.lookup x = some c → c ≠ b
  bs : ∀ b o, X.base.get? b = some o → X.s₀.heap.get? b = some o ∧ X.H₀ b = none
  bsz : X.base.objs.size ≤ X.s₀.heap.objs.size
  noex : ∀ b o, X.base.get? b = some o → b ∉ X.ex
  exfs : ∀ b ∈ X.ex, b ∉ X.fs
  funs : X.s₀.heap.FunFrames X.base X.outer
  frf : ∀ b ∈ X.fs, X.H₀ b = none
structure Inv (X : Cx) (pins : List (Addr × Obj)) (σ : List (Option V)) (H : Hp) (s : Shared) : Prop where
  ok : X.Ok
  os : s.os = X.s₀.os
  bare : AllBare s.gens
  base : Un X.fs X.ex X.H₀ H X.s₀.heap s.heap
  loc : ∃ m, s.heap.Ns X.env.locals m ∧ ∀ (i : Nat) (x : Str) (v : V), X.N[i]? = some x → σ[i]? = some (some v) → Vis X.env.scope x → ∃ u, RelV v u ∧ Look X.env s.heap m x u
  cell : ∀ x c, X.env.cells.lookup x = some c → ∃ v, s.heap.IsCell c v
  free : H X.env.locals = none
  freeC : ∀ x c, X.env.cells.lookup x = some c → H c = none
  pin : ∀ p ∈ X.pn ++ pins, s.heap.get? p.1 = some p.2 ∧ H p.1 = none ∧ p.1 ≠ X.env.locals ∧ p.1 ∉ X.fs ∧ ∀ v, p.2.data ≠ .cell v
  hok : HOk X.prog X.w H s.heap
  len : σ.length = X.N.length
section
variable {X : Cx} {pins : List (Addr × Obj)} {σ : List (Option V)} {H H' : Hp} {s : Shared} {h' : Heap}
theorem Cx.Ok.nofr (ok : X.Ok) {b : Addr} {o : Obj} (e : X.base.get? b = some o) : b ∉ X.fs := fun hb => by
  have := (ok.funs.mem hb).1
  rw [e] at this; cases this
theorem Inv.bs (I : Inv X pins σ H s) : ∀ b o, X.base.get? b = some o → s.heap.get? b = some o ∧ H b = none := fun b o e =>
  ⟨I.base.keep b o (I.ok.bs b o e).1 (I.ok.bs b o e).2 (I.ok.nofr e) (I.ok.noex b o e), I.base.free b o (I.ok.bs b o e).1 (I.ok.bs b o e).2 (I.ok.noex b o e)⟩
theorem Inv.bk (I : Inv X pins σ H s) : ∀ b o, X.base.get? b = some o → s.heap.get? b = some o := fun b o e => (I.bs b o e).1
theorem Inv.mod (I : Inv X pins σ H s) : Mod X.K X.mg X.base := I.ok.mod
theorem Inv.kIn (I : Inv X pins σ H s) : X.K.In s.heap := I.ok.mod.kin.keeps I.bk
theorem Inv.lt (I : Inv X pins σ H s) : X.env.locals < s.heap.objs.size := let ⟨_, hn, _⟩ := I.loc; hn.lt
theorem Inv.sz (I : Inv X pins σ H s) : X.s₀.heap.objs.size ≤ s.heap.objs.size := Nat.le_trans I.ok.above (Nat.le_of_lt I.lt)
theorem Inv.nofs (I : Inv X pins σ H s) {a : Addr} (h : s.heap.objs.size ≤ a) : a ∉ X.fs := fun hb => by
  obtain ⟨_, o, ho, _⟩ := I.ok.funs.mem hb
  exact absurd (Nat.lt_of_lt_of_le (Heap.lt_size ho) (Nat.le_trans I.sz h)) (Nat.lt_irrefl _)
theorem Inv.cne (I : Inv X pins σ H s) : ∀ x c, X.env.cells.lookup x = some c → c ≠ X.env.locals := fun x c e z => by
  obtain ⟨v, o, ho, hd⟩ := I.cell x c e
  obtain ⟨m, ⟨o', es, ep, ho', hd', _⟩, _⟩ := I.loc
  rw [z, ho'] at ho; cases ho; rw [hd'] at hd; cases hd
theorem Inv.funs (I : Inv X pins σ H s) : s.heap.FunFrames X.base X.outer := by
  have all : ∀ (l : List Env), (∀ b ∈ frs l, b ∈ X.fs) → X.s₀.heap.FunFrames X.base l → s.heap.FunFrames X.base l := by
    intro l
    induction l with
    | nil => intro _ _; trivial
    | cons env r ih =>
      intro hs hl
      obtain ⟨hk, ⟨L, o, hf, hn, ho, hd⟩, hr⟩ := hl
      have hL : L ∈ X.fs := hs L (by unfold frs; rw [List.filterMap_cons, hf]; exact List.mem_cons_self)
      obtain ⟨sl, e⟩ := I.base.slot L o ho (I.ok.frf L hL) hL fun z => I.ok.exfs L z hL
      exact ⟨hk, ⟨L, _, hf, hn, e, hd⟩, ih (fun b hb => hs b (by unfold frs; rw [List.filterMap_cons, hf]; exact List.mem_cons_of_mem _ hb)) hr⟩
  exact all X.outer (fun _ hb => hb) I.ok.funs
theorem Inv.stack (I : Inv X pins σ H s) : s.heap.FunFrames X.base X.stack := by
  rcases I.ok.stk with e | ⟨e, hf⟩
  · rw [e]; exact I.funs
  · rw [e]
    obtain ⟨m, hn, _⟩ := I.loc
    refine .cons (by rw [I.ok.kind]; decide) hf hn ?_ I.funs
    exact Heap.get?_none_of_le (Nat.le_trans I.ok.bsz I.ok.above)
theorem Inv.stkSub (I : Inv X pins σ H s) : ∀ b ∈ frs X.stack, b ∈ X.env.locals :: X.fs := fun b hb => by
  rcases I.ok.stk with e | ⟨e, hf⟩
  · rw [e] at hb; exact List.mem_cons_of_mem _ hb
  · rw [e] at hb
    unfold frs at hb
    rw [List.filterMap_cons, hf] at hb
    exact hb
theorem Inv.stkFree (I : Inv X pins σ H s) : ∀ b ∈ frs X.stack, H b = none := fun b hb => by
  rcases List.mem_cons.mp (I.stkSub b hb) with e | hb
  · rw [e]; exact I.free
  · obtain ⟨_, o, ho, _⟩ := I.ok.funs.mem hb
    exact I.base.free b o ho (I.ok.frf b hb) fun z => I.ok.exfs b z hb
theorem Inv.step {g' : Array GenState} {t' : Nat} {d' : Drawn} {ch : List Addr} (I : Inv X pins σ H s)
    (hch : ∀ b ∈ ch, (b ∈ X.ex ∨ X.s₀.heap.objs.size ≤ b) ∧ b ≠ X.env.locals ∧ (∀ x c, X.env.cells.lookup x = some c → c ≠ b) ∧ ∀ p ∈ X.pn ++ pins, p.1 ≠ b)
    (keep : ∀ b o, b ≠ X.env.locals → b ∉ X.fs → b ∉ ch → s.heap.get? b = some o → H b = none → h'.get? b = some o)
    (slot : ∀ b o, b ≠ X.env.locals → b ∈ X.fs → b ∉ ch → s.heap.get? b = some o → H b = none → ∃ sl, h'.get? b = some { o with slots := sl }) (free : ∀ b o, b ∉ ch → s.heap.get? b = some o → H b = none → H' b = none)
    (there : ∀ b o, b ∉ ch → s.heap.get? b = some o → ∃ o', h'.get? b = some o')
    (tups : ∀ b xs, H b = some (.tup xs) → H' b = some (.tup xs)) (frzs : ∀ b o u, H b = some (.frz o u) → H' b = some (.frz o u)) (tbls : ∀ b ps, H b = some (.tbl ps) → ∃ more, H' b = some (.tbl (ps ++ more)))
    (ns : ∀ m, s.heap.Ns X.env.locals m → h'.Ns X.env.locals m) (hok : HOk X.prog X.w H' h') (hg : AllBare g') :
    Inv X pins σ H' { s with heap := h', gens := g', drawn := d', toks := t' } := by
  have neL : ∀ b o, X.s₀.heap.get? b = some o → b ≠ X.env.locals := fun b o e => Nat.ne_of_lt (Nat.lt_of_lt_of_le (Heap.lt_size e) I.ok.above)
  have neC : ∀ b o, X.s₀.heap.get? b = some o → b ∉ X.ex → b ∉ ch := fun b o e hx hb => by
    rcases (hch b hb).1 with z | z
    · exact hx z
    · exact absurd (Nat.lt_of_lt_of_le (Heap.lt_size e) z) (Nat.lt_irrefl _)
  have cellK : ∀ x c, X.env.cells.lookup x = some c → ∀ v, s.heap.IsCell c v → h'.IsCell c v := fun x c e v ⟨o, ho, hd⟩ => by
    have nch : c ∉ ch := fun z => (hch c z).2.2.1 x c e rfl
    by_cases hc : c ∈ X.fs
    · obtain ⟨sl, q⟩ := slot c o (I.cne x c e) hc nch ho (I.freeC x c e)
      exact ⟨_, q, hd⟩
    · exact ⟨o, keep c o (I.cne x c e) hc nch ho (I.freeC x c e), hd⟩
  refine ⟨I.ok, I.os, hg, ⟨fun b o e n hb hx => ?_, fun b o e n hb hx => ?_, fun b o e n hx => ?_, fun b o e hx => ?_, fun b xs e => tups b xs (I.base.tups b xs e), fun b o xs e => frzs b o xs (I.base.frzs b o xs e), fun b ps e => ?_⟩, ?_, fun x c e => ?_, ?_, fun x c e => ?_, fun p hp => ?_, hok, I.len⟩
  · exact keep b o (neL b o e) hb (neC b o e hx) (I.base.keep b o e n hb hx) (I.base.free b o e n hx)
  · obtain ⟨sl, e1⟩ := I.base.slot b o e n hb hx
    obtain ⟨sl', e2⟩ := slot b _ (neL b o e) hb (neC b o e hx) e1 (I.base.free b o e n hx)
    exact ⟨sl', e2⟩
  · obtain ⟨o', e1⟩ := I.base.there b o e hx
    exact free b o' (neC b o e hx) e1 (I.base.free b o e n hx)
  · obtain ⟨o', e1⟩ := I.base.there b o e hx
    exact there b o' (neC b o e hx) e1
  · obtain ⟨m1, e1⟩ := I.base.tbls b ps e
    obtain ⟨m2, e2⟩ := tbls b _ e1
    exact ⟨m1 ++ m2, by rw [e2, Array.append_assoc]⟩
  · obtain ⟨m, hn, hl⟩ := I.loc
    refine ⟨m, ns m hn, fun i x v e1 e2 e3 => ?_⟩
    obtain ⟨u, r, l⟩ := hl i x v e1 e2 e3
    refine ⟨u, r, ?_⟩
    rcases l with l | ⟨k, c, e, z⟩
    · exact .inl l
    · exact .inr ⟨k, c, e, cellK x c e _ z⟩
  · obtain ⟨v, z⟩ := I.cell x c e
    exact ⟨v, cellK x c e v z⟩
  · obtain ⟨m, ⟨o, _, _, ho, _⟩, _⟩ := I.loc
    exact free _ o (fun z => (hch _ z).2.1 rfl) ho I.free
  · obtain ⟨v, o, ho, hd⟩ := I.cell x c e
    exact free c o (fun z => (hch c z).2.2.1 x c e rfl) ho (I.freeC x c e)
  · obtain ⟨e, n, ne, nf, d⟩ := I.pin p hp
    have nch : p.1 ∉ ch := fun z => (hch p.1 z).2.2.2 p hp rfl
    exact ⟨keep p.1 p.2 ne nf nch e n, free p.1 p.2 nch e n, ne, nf, d⟩
theorem Inv.un {t' : Nat} (I : Inv X pins σ H s) (u : Un X.fs [] H H' s.heap h') (hok : HOk X.prog X.w H' h') : Inv X pins σ H' { s with heap := h', toks := t' } := by
  obtain ⟨m, ⟨o, es, ep, ho, r⟩, _⟩ := id I.loc
  obtain ⟨sl, hL⟩ := u.any ho I.free (by simp)
  exact I.step (g' := s.gens) (d' := s.drawn) (ch := []) (fun _ z => nomatch z) (fun b o _ hb _ e n => u.keep b o e n hb (by simp)) (fun b o _ hb _ e n => u.slot b o e n hb (by simp)) (fun b o _ e n => u.free b o e n (by simp)) (fun b o _ e => u.there b o e (by simp)) u.tups u.frzs u.tbls (fun m' hm => by
    obtain ⟨o', es', ep', ho', r'⟩ := hm
    rw [ho] at ho'; cases ho'
    exact ⟨_, es', ep', hL, r'⟩) hok I.bare
theorem Inv.call {g' : Array GenState} {t' : Nat} {d' : Drawn} {ch : List Addr} (I : Inv X pins σ H s) (u : Un (frs X.stack) ch H H' s.heap h') (hok : HOk X.prog X.w H' h') (hg : AllBare g')
    (hch : ∀ b ∈ ch, (b ∈ X.ex ∨ X.s₀.heap.objs.size ≤ b) ∧ b ≠ X.env.locals ∧ (∀ x c, X.env.cells.lookup x = some c → c ≠ b) ∧ ∀ p ∈ X.pn ++ pins, p.1 ≠ b) :
    Inv X pins σ H' { s with heap := h', gens := g', drawn := d', toks := t' } := by
  obtain ⟨m, ⟨o, es, ep, ho, r⟩, _⟩ := id I.loc
  obtain ⟨sl, hL⟩ := u.any ho I.free fun z => (hch _ z).2.1 rfl
  exact I.step (ch := ch) hch (fun b o hL hb hc e n => u.keep b o e n (fun z => (List.mem_cons.mp (I.stkSub b z)).elim hL hb) hc) (fun b o _ _ hc e n => u.any e n hc) (fun b o hc e n => u.free b o e n hc) (fun b o hc e => u.there b o e hc) u.tups u.frzs u.tbls (fun m' hm => by
    obtain ⟨o', es', ep', ho', r'⟩ := hm
    rw [ho] at ho'; cases ho'
    exact ⟨_, es', ep', hL, r'⟩) hok hg
theorem Inv.turned {t' : Nat} {it : Addr} (I : Inv X pins σ H s) (k : ∀ b o, b ≠ it → s.heap.get? b = some o → h'.get? b = some o) (hn : H it = none) (hL : it ≠ X.env.locals)
    (h1 : it ∈ X.ex ∨ X.s₀.heap.objs.size ≤ it) (h2 : ∀ x c, X.env.cells.lookup x = some c → c ≠ it) (h3 : ∀ p ∈ X.pn ++ pins, p.1 ≠ it) : Inv X pins σ H { s with heap := h', toks := t' } := by
  have nit : ∀ b u, H b = some u → b ≠ it := fun b u e z => by rw [z, hn] at e; cases e
  refine I.step (g' := s.gens) (d' := s.drawn) (ch := [it]) (fun b hb => ?_) (fun b o _ _ hc e _ => k b o (fun z => hc (by simp [z])) e) (fun b o _ _ hc e _ => ⟨o.slots, k b o (fun z => hc (by simp [z])) e⟩) (fun _ _ _ _ n => n)
    (fun b o hc e => ⟨o, k b o (fun z => hc (by simp [z])) e⟩) (fun _ _ e => e) (fun _ _ _ e => e) (fun b ps e => ⟨#[], by rw [e]; simp⟩) (fun m hm => ?_) (fun b u e => ?_) I.bare
  · have e : b = it := by simpa using hb
    subst e
    exact ⟨h1, hL, h2, h3⟩
  · obtain ⟨o, es, ep, ho, r⟩ := hm
    exact ⟨o, es, ep, k _ o (Ne.symm hL) ho, r⟩
  · refine (I.hok b u e).stay (fun c v hc q => k c v ?_ q) (fun _ q => q) fun _ _ q => q
    rcases hc with z | z
    · rw [z]; exact nit b u e
    · exact nit c _ z
theorem Inv.tok (I : Inv X pins σ H s) (t : Nat) : Inv X pins σ H { s with toks := t } := I.un (h' := s.heap) (t' := t) Un.refl I.hok
theorem Inv.kept {t' : Nat} (I : Inv X pins σ H s) (k : ∀ b u, s.heap.get? b = some u → h'.get? b = some u) : Inv X pins σ H { s with heap := h', toks := t' } := I.un (Un.kept k) (I.hok.kept k)
theorem Inv.laid {a : Addr} {o : HO} {t' : Nat} (I : Inv X pins σ H s) (k : ∀ b u, s.heap.get? b = some u → h'.get? b = some u) (hp : s.heap.objs.size ≤ a) (new : ObjOk X.prog X.w (upd H a o) h' a o) :
    Inv X pins σ (upd H a o) { s with heap := h', toks := t' } := I.un (Un.laid k hp (I.hok.fresh hp)) (I.hok.laid k hp new)
theorem Inv.write {x e : Addr} {o : HO} {t' : Nat} (I : Inv X pins σ H s) (mu : Mut (H x)) (he : e = x ∨ H e = some (.own x)) (k : ∀ b u, b ≠ e → s.heap.get? b = some u → h'.get? b = some u) (heo : ∃ u, h'.get? e = some u)
    (new : ObjOk X.prog X.w (upd H x o) h' x o) : Inv X pins σ (upd H x o) { s with heap := h', toks := t' } := I.un (Un.write mu he k heo) (I.hok.write mu he k heo new)
theorem Inv.pins_of {pins' : List (Addr × Obj)} (I : Inv X pins σ H s) (h : ∀ p ∈ pins', s.heap.get? p.1 = some p.2 ∧ H p.1 = none ∧ p.1 ≠ X.env.locals ∧ p.1 ∉ X.fs ∧ ∀ v, p.2.data ≠ .cell v) : Inv X pins' σ H s :=
  ⟨I.ok, I.os, I.bare, I.base, I.loc, I.cell, I.free, I.freeC, fun p hp => (List.mem_append.mp hp).elim (fun z => I.pin p (List.mem_append_left _ z)) (h p), I.hok, I.len⟩
theorem nodup_ix {N : List Str} (hN : N.Nodup) {i j : Nat} {x : Str} (a : N[i]? = some x) (b : N[j]? = some x) : i = j := by
  obtain ⟨h1, e1⟩ := List.getElem?_eq_some_iff.mp a
  obtain ⟨h2, e2⟩ := List.getElem?_eq_some_iff.mp b
  exact (List.getElem_inj hN).mp (e1.trans e2.symm)
theorem store_ok2 {M : Model} {A : Around} {E : Value → Shared → Prop} {i : Nat} {x : Str} {v : V} {u : Value} {Q : Unit → Shared → Prop} (I : Inv X pins σ H s) (hN : X.N.Nodup) (hi : X.N[i]? = some x) (hx : Loc X.env.scope x) (r : RelV v u)
    (h : ∀ s', Inv X pins (σ.set i (some v)) H s' → (∃ a, Heap.SameBut a s.heap s'.heap ∧ (a = X.env.locals ∨ X.env.cells.lookup x = some a)) → Q () s') (hf : X.fn x = true ∨ X.env.scope.names.lookup x = some .local := by first | exact .inl rfl | exact .inr rfl | assumption) : wpAny M A (storeName X.env x u) Q E s := by
  obtain ⟨m, hn, hl⟩ := id I.loc
  have hcls : (X.env.scope.kind == .class || (X.env.scope.kind == .module && X.env.locals != X.env.globals)) = false := by rw [I.ok.kind]; rfl
  have hiσ : i < σ.length := by rw [I.len]; exact (List.getElem?_eq_some_iff.mp hi).1
  have cne := I.cne
  have tracked : ∀ {a : Addr} {h' : Heap}, (∃ o, s.heap.get? a = some o ∧ H a = none) → Heap.SameBut a s.heap h' → HOk X.prog X.w H h' := fun {a h'} ha hs b ob e => by
    obtain ⟨_, _, hfree⟩ := ha
    refine (I.hok b ob e).stay (fun c w' hc q => (hs.2 c ?_).trans q) (fun _ q => q) fun _ _ q => q
    rintro rfl
    rcases hc with rfl | hc
    · rw [hfree] at e; cases e
    · rw [hfree] at hc; cases hc
  rcases hx with hk | hk
  · refine wpAny_storeName_local hk hn (fun h' hn' hs => ?_) hcls
    obtain ⟨oL, _, _, hoL, _⟩ := id hn
    refine h _ ⟨I.ok, I.os, I.bare, ⟨fun b o e n hb hx => ?_, fun b o e n hb hx => ?_, I.base.free, fun b o e hx => ?_, I.base.tups, I.base.frzs, I.base.tbls⟩, ⟨_, hn', fun j y v' e1 e2 e3 => ?_⟩, fun y c e => ?_, I.free, I.freeC, fun p hp => ?_, tracked ⟨oL, hoL, I.free⟩ hs, by simpa using I.len⟩ ⟨_, hs, .inl rfl⟩
    · exact (hs.2 b (Nat.ne_of_lt (Nat.lt_of_lt_of_le (Heap.lt_size e) I.ok.above))).trans (I.base.keep b o e n hb hx)
    · obtain ⟨sl, e1⟩ := I.base.slot b o e n hb hx
      exact ⟨sl, (hs.2 b (Nat.ne_of_lt (Nat.lt_of_lt_of_le (Heap.lt_size e) I.ok.above))).trans e1⟩
    · obtain ⟨o', e1⟩ := I.base.there b o e hx
      exact ⟨o', (hs.2 b (Nat.ne_of_lt (Nat.lt_of_lt_of_le (Heap.lt_size e) I.ok.above))).trans e1⟩
    · by_cases hj : j = i
      · subst hj
        rw [hi] at e1; cases e1
        rw [List.getElem?_set_self hiσ] at e2
        cases e2
        exact ⟨u, r, .inl ⟨hk, by simp⟩⟩
      · rw [List.getElem?_set_ne (Ne.symm hj)] at e2
        obtain ⟨u', r', q⟩ := hl j y v' e1 e2 e3
        refine ⟨u', r', ?_⟩
        rcases q with ⟨k, e⟩ | ⟨k, c, e, z⟩
        · refine .inl ⟨k, ?_⟩
          have : y ≠ x := fun e => hj (nodup_ix hN e1 (e ▸ hi))
          simp [this, e]
        · exact .inr ⟨k, c, e, z.sameBut hs (cne y c e)⟩
    · obtain ⟨w', z⟩ := I.cell y c e
      exact ⟨w', z.sameBut hs (cne y c e)⟩
    · obtain ⟨e, n, ne, nf, d⟩ := I.pin p hp
      exact ⟨(hs.2 p.1 ne).trans e, n, ne, nf, d⟩
  · have hfn : X.fn x = true := by
      rcases hf with z | z
      · exact z
      · rw [z] at hk; cases hk
    obtain ⟨c, hc⟩ := I.ok.has x (.inl hk)
    obtain ⟨w', z⟩ := I.cell x c hc
    refine wpAny_storeName_cell I.ok.kind hk hc z (fun h' hc' hs => ?_)
    obtain ⟨oc, hoc, hocd⟩ := id z
    refine h { s with heap := h' } ⟨I.ok, I.os, I.bare, ⟨fun b o e n hb hx => ?_, fun b o e n hb hx => ?_, I.base.free, fun b o e hx => ?_, I.base.tups, I.base.frzs, I.base.tbls⟩, ⟨m, hn.sameBut hs (Ne.symm (cne x c hc)), fun j y v' e1 e2 e3 => ?_⟩, fun y c' e => ?_, I.free, I.freeC, fun p hp => ?_, tracked ⟨oc, hoc, I.freeC x c hc⟩ hs, by simpa using I.len⟩ ⟨c, hs, .inr hc⟩
    · exact (hs.2 b (Nat.ne_of_lt (Nat.lt_of_lt_of_le (Heap.lt_size e) (I.ok.cab x c hfn hc)))).trans (I.base.keep b o e n hb hx)
    · obtain ⟨sl, e1⟩ := I.base.slot b o e n hb hx
      exact ⟨sl, (hs.2 b (Nat.ne_of_lt (Nat.lt_of_lt_of_le (Heap.lt_size e) (I.ok.cab x c hfn hc)))).trans e1⟩
    · obtain ⟨o', e1⟩ := I.base.there b o e hx
      exact ⟨o', (hs.2 b (Nat.ne_of_lt (Nat.lt_of_lt_of_le (Heap.lt_size e) (I.ok.cab x c hfn hc)))).trans e1⟩
    · by_cases hj : j = i
      · subst hj
        rw [hi] at e1; cases e1
        rw [List.getElem?_set_self hiσ] at e2
        cases e2
        exact ⟨u, r, .inr ⟨.inl hk, c, hc, hc'⟩⟩
      · rw [List.getElem?_set_ne (Ne.symm hj)] at e2
        obtain ⟨u', r', q⟩ := hl j y v' e1 e2 e3
        refine ⟨u', r', ?_⟩
        rcases q with q | ⟨k, c', e, z'⟩
        · exact .inl q
        · refine .inr ⟨k, c', e, z'.sameBut hs ?_⟩
          rintro rfl
          exact hj (nodup_ix hN e1 (I.ok.inj _ _ _ e hc ▸ hi))
    · by_cases hcc : c' = c
      · subst hcc; exact ⟨_, hc'⟩
      · obtain ⟨w2, z2⟩ := I.cell y c' e
        exact ⟨w2, z2.sameBut hs hcc⟩
    · obtain ⟨e, n, ne, nf, d⟩ := I.pin p hp
      refine ⟨(hs.2 p.1 ?_).trans e, n, ne, nf, d⟩
      intro q
      rw [q, hoc] at e
      have q' : oc = p.2 := Option.some.inj e
      exact d w' (by rw [← q']; exact hocd)
theorem store_ok {M : Model} {A : Around} {E : Value → Shared → Prop} {i : Nat} {x : Str} {v : V} {u : Value} {Q : Unit → Shared → Prop} (I : Inv X pins σ H s) (hN : X.N.Nodup) (hi : X.N[i]? = some x) (hx : Loc X.env.scope x) (r : RelV v u)
    (h : ∀ s', Inv X pins (σ.set i (some v)) H s' → Q () s') (hf : X.fn x = true ∨ X.env.scope.names.lookup x = some .local := by first | exact .inl rfl | exact .inr rfl | assumption) : wpAny M A (storeName X.env x u) Q E s :=
  store_ok2 I hN hi hx r (fun s' I' _ => h s' I') hf
theorem Inv.call' {s' : Shared} {ch : List Addr} (I : Inv X pins σ H s) (ho : s'.os = s.os) (u : Un (frs X.stack) ch H H' s.heap s'.heap) (hok : HOk X.prog X.w H' s'.heap) (hg : AllBare s'.gens)
    (hch : ∀ b ∈ ch, (b ∈ X.ex ∨ X.s₀.heap.objs.size ≤ b) ∧ b ≠ X.env.locals ∧ (∀ x c, X.env.cells.lookup x = some c → c ≠ b) ∧ ∀ p ∈ X.pn ++ pins, p.1 ≠ b) : Inv X pins σ H' s' := by
  obtain ⟨h', g', d', t', o'⟩ := s'
  have e : o' = s.os := ho
  subst e
  exact I.call (g' := g') (t' := t') (d' := d') u hok hg hch
end
abbrev XK := Value → Option Addr → Hp → Prop
abbrev St := List (Option V)
abbrev VK := V → Hp → Prop
abbrev TE := St → Hp → VK → Prop
abbrev TT := St → Hp → (Bool → Hp → Prop) → Prop
abbrev TA := St → Hp → (List V → Hp → Prop) → Prop
structure Ends where
  nx : St → Hp → Prop
  rt : VK
  bk : St → Hp → Prop := fun _ _ => False
  ct : St → Hp → Prop := fun _ _ => False
abbrev TS := Ends → St → Hp → Prop
def EP (X : Cx) (pins : List (Addr × Obj)) (σ : St) (Q : VK) (u : Value) (s' : Shared) : Prop := ∃ v H', Inv X pins σ H' s' ∧ RelV v u ∧ Q v H'
def TP (X : Cx) (pins : List (Addr × Obj)) (σ : St) (Q : Bool → Hp → Prop) (b : Bool) (s' : Shared) : Prop := ∃ H', Inv X pins σ H' s' ∧ Q b H'
def AP (X : Cx) (pins : List (Addr × Obj)) (σ : St) (Q : List V → Hp → Prop) (us : List Value) (s' : Shared) : Prop := ∃ vs H', Inv X pins σ H' s' ∧ Vals vs us ∧ Q vs H'
def SP (X : Cx) (pins : List (Addr × Obj)) (D : Ends) (f : Flow) (s' : Shared) : Prop :=
  match f with
  | .next => ∃ σ' H', Inv X pins σ' H' s' ∧ D.nx σ' H'
  | .brk => ∃ σ' H', Inv X pins σ' H' s' ∧ D.bk σ' H'
  | .cont => ∃ σ' H', Inv X pins σ' H' s' ∧ D.ct σ' H'
  | .ret u => ∃ v σ' H', Inv X pins σ' H' s' ∧ RelV v u ∧ D.rt v H'
def PE (X : Cx) (e : Expr) (t : TE) : Prop :=
  ∀ (pins : List (Addr × Obj)) (s : Shared) (σ : St) (H : Hp) (Q : VK), Inv X pins σ H s → t σ H Q → wpAny (model X.prog X.w) X.A (eval e X.env) (EP X pins σ Q) X.xe s
def PT (X : Cx) (e : Expr) (t : TT) : Prop :=
  ∀ (pins : List (Addr × Obj)) (s : Shared) (σ : St) (H : Hp) (Q : Bool → Hp → Prop), Inv X pins σ H s → t σ H Q → wpAny (model X.prog X.w) X.A (isTrue e X.env (eval e X.env)) (TP X pins σ Q) X.xe s
def PW (X : Cx) (e : Expr) (t : TT) : Prop :=
  ∀ (whole : Sem Value) (pins : List (Addr × Obj)) (s : Shared) (σ : St) (H : Hp) (Q : Bool → Hp → Prop), Inv X pins σ H s → t σ H Q → wpAny (model X.prog X.w) X.A (isTrue e X.env whole) (TP X pins σ Q) X.xe s
theorem PW.pt {X : Cx} {e : Expr} {t : TT} (h : PW X e t) : PT X e t := h _
def PA (X : Cx) (es : List Expr) (t : TA) : Prop :=
  ∀ (pos : Pos) (pins : List (Addr × Obj)) (s : Shared) (σ : St) (H : Hp) (Q : List V → Hp → Prop), Inv X pins σ H s → t σ H Q → wpAny (model X.prog X.w) X.A (spliced (backTo pos (starEach es X.env))) (AP X pins σ Q) X.xe s
def PS (X : Cx) (st : Stmt) (t : TS) : Prop :=
  ∀ (pins : List (Addr × Obj)) (s : Shared) (σ : St) (H : Hp) (D : Ends), Inv X pins σ H s → t D σ H → wpAny (model X.prog X.w) X.A (exec st X.env) (SP X pins D) X.xe s
def PSs (X : Cx) (st : List Stmt) (t : TS) : Prop :=
  ∀ (pins : List (Addr × Obj)) (s : Shared) (σ : St) (H : Hp) (D : Ends), Inv X pins σ H s → t D σ H → wpAny (model X.prog X.w) X.A (execs st X.env) (SP X pins D) X.xe s
theorem thn {α : Type} {t : Sem α} {Q Q' : α → Shared → Prop} {M : Model} {A : Around} {E : Value → Shared → Prop} {s : Shared} (h : wpAny M A t Q E s) (hQ : ∀ a s, Q a s → Q' a s) : wpAny M A t Q' E s := wpAny_mono h hQ fun _ _ x => x
end L2
namespace L2
open PySem PySem.Spec PyProof.Rows
section
variable {X : Cx}
def tVar (i : Nat) : TE := fun σ H Q => ∃ v, σ[i]? = some (some v) ∧ Q v H
def tC (v : V) : TE := fun _ H Q => Q v H
theorem pe_var {i : Nat} {x : Str} {pos : Pos} (hN : X.N[i]? = some x) (hv : Vis X.env.scope x) (hd : (x == ("__debug__" : Str)) = false := by decide) (hcd : (x == ("__classdict__" : Str)) = false := by decide) : PE X (.Name x pos) (tVar i) := by
  intro pins s σ H Q I h
  obtain ⟨v, e, h⟩ := h
  obtain ⟨m, hn, hl⟩ := I.loc
  obtain ⟨u, r, l⟩ := hl i x v hN e hv
  have fin : EP X pins σ Q u s := ⟨v, H, I, r, h⟩
  rcases l with ⟨hk, hm⟩ | ⟨hk, c, hc, hcell⟩
  · exact wpAny_Name (wpAny_loadName_local I.ok.kind hk hn hm fin) hd
  · rcases hk with hk | hk
    · exact wpAny_Name (wpAny_loadName_cell I.ok.kind hk hc hcell fin) hd
    · exact wpAny_Name (wpAny_loadName_free I.ok.kind hk hc hcell fin hcd) hd
theorem pe_int {i j pos} : PE X (.Constant (.int i) j pos) (tC (.int i)) := fun _ _ _ H _ I h => wpAny_Constant_int ⟨.int i, H, I.tok _, ⟨_, rfl⟩, h⟩
theorem pe_bl {b j pos} : PE X (.Constant (.bool b) j pos) (tC (.bl b)) := fun _ _ _ H _ I h => Constant_bool ⟨.bl b, H, I, rfl, h⟩
theorem pe_non {j pos} : PE X (.Constant .none j pos) (tC .non) := fun _ _ _ H _ I h => Constant_none ⟨.non, H, I, rfl, h⟩
def Gl (X : Cx) (x : Str) : Prop := X.env.kindOf x = some .globalImplicit
theorem ld_glob {E : Value → Shared → Prop} {pins : List (Addr × Obj)} {s : Shared} {σ : St} {H : Hp} {x : Str} {u : Value} {pos : Pos} {Q : Value → Shared → Prop} (I : Inv X pins σ H s) (hg : Gl X x) (hm : X.mg x = some u) (h : Q u s)
    (hd : (x == ("__debug__" : Str)) = false := by decide) : wpAny (model X.prog X.w) X.A (eval (.Name x pos) X.env) Q E s :=
  Calls.Name_function_global I.ok.kind hg (Calls.loadGlobal_global (by rw [I.ok.glob]; exact I.mod.glob.keeps I.bk) hm h) hd
theorem ld_blt {E : Value → Shared → Prop} {pins : List (Addr × Obj)} {s : Shared} {σ : St} {H : Hp} {x : Str} {u : Value} {pos : Pos} {Q : Value → Shared → Prop} (I : Inv X pins σ H s) (hg : Gl X x) (hm : X.mg x = none) (hv : bootBuiltins x = some u) (h : Q u s)
    (hn : x ≠ "__name__" := by decide) (hd : (x == ("__debug__" : Str)) = false := by decide) : wpAny (model X.prog X.w) X.A (eval (.Name x pos) X.env) Q E s := by
  obtain ⟨mb, h1, h2⟩ := I.mod.blt
  exact Calls.Name_function_global I.ok.kind hg (Calls.loadGlobal_builtin (by rw [I.ok.glob]; exact I.mod.glob.keeps I.bk) hm (by rw [I.ok.blt]; exact h1.keeps I.bk) ((h2 x hn).trans hv) h) hd
theorem pe_bltn {x : Str} {v : V} {u : Value} {pos : Pos} (hg : Gl X x) (hm : X.mg x = none) (hv : bootBuiltins x = some u) (r : RelV v u) (hn : x ≠ "__name__" := by decide) (hd : (x == ("__debug__" : Str)) = false := by decide) : PE X (.Name x pos) (tC v) :=
  fun _ _ _ H _ I h => ld_blt I hg hm hv ⟨v, H, I, r, h⟩ hn hd
def t2I (ta tb : TE) (k : Int → Int → Hp → Prop) : St → Hp → Prop := fun σ H => ta σ H fun x H1 => tb σ H1 fun y H2 => ∃ i j, x = .int i ∧ y = .int j ∧ k i j H2
def tAdd (ta tb : TE) : TE := fun σ H Q => t2I ta tb (fun i j H2 => Q (.int (i + j)) H2) σ H
def tSub (ta tb : TE) : TE := fun σ H Q => t2I ta tb (fun i j H2 => Q (.int (i - j)) H2) σ H
def tMul (ta tb : TE) : TE := fun σ H Q => t2I ta tb (fun i j H2 => (-(2 ^ 64) < i ∧ i < 2 ^ 64) ∧ Q (.int (i * j)) H2) σ H
variable {a b : Expr} {ta tb : TE} {pos : Pos}
def PC (X : Cx) (op : CmpOp) (a b : Expr) (t : TE) : Prop :=
  ∀ (pins : List (Addr × Obj)) (s : Shared) (σ : St) (H : Hp) (Q : VK), Inv X pins σ H s → t σ H Q →
    wpAny (model X.prog X.w) X.A (eval a X.env) (fun v s₁ => wpAny (model X.prog X.w) X.A (eval b X.env) (fun u s₂ => wpAny (model X.prog X.w) X.A (compareOp op v u) (EP X pins σ Q) X.xe s₂) X.xe s₁) X.xe s
def tCmp (p : Int → Int → Bool) (ta tb : TE) : TE := fun σ H Q => t2I ta tb (fun i j H2 => Q (.bl (p i j)) H2) σ H
abbrev tLt : TE → TE → TE := tCmp fun i j => decide (i < j)
abbrev tLe : TE → TE → TE := tCmp fun i j => decide (i ≤ j)
abbrev tGt : TE → TE → TE := tCmp fun i j => decide (j < i)
abbrev tGe : TE → TE → TE := tCmp fun i j => decide (j ≤ i)
abbrev tEqI : TE → TE → TE := tCmp fun i j => decide (i = j)
abbrev tNeI : TE → TE → TE := tCmp fun i j => !decide (i = j)
def tIsN (ta : TE) : TE := fun σ H Q => ta σ H fun x H1 => Q (.bl (decide (x = .non))) H1
def tNotN (ta : TE) : TE := fun σ H Q => ta σ H fun x H1 => Q (.bl (!decide (x = .non))) H1
def tB (t : TE) : TT := fun σ H Q => t σ H fun x H1 => ∃ c, x = .bl c ∧ Q c H1
theorem pt_val {e : Expr} {t : TE} (h : PE X e t) (he : ∀ whole, isTrue e X.env whole = (do let v ← whole; standAt e.pos; holding [v] (truthy v)) := by intro _; rfl) : PT X e (tB t) := by
  intro pins s σ H Q I hw
  refine isTrue_plain (thn (h pins s σ H _ I hw) fun v s1 ⟨x, H1, I1, r1, q1⟩ => ?_) (he _)
  obtain ⟨d, rfl, q⟩ := q1
  cases r1
  exact wpAny_truthy_bool ⟨H1, I1, q⟩
variable {tA tB' : TT} {rest : List Expr}
def tAnd (t u : TT) : TT := fun σ H Q => t σ H fun c H1 => if c = true then u σ H1 Q else Q false H1
def tOr (t u : TT) : TT := fun σ H Q => t σ H fun c H1 => if c = true then Q true H1 else u σ H1 Q
def tNot (t : TT) : TT := fun σ H Q => t σ H fun c H1 => Q (!c) H1
theorem pw_or1 (ha : PT X a tA) : PW X (.BoolOp .Or [a] pos) tA := by
  intro wh pins s σ H Q I h
  refine isTrue_or (thn (ha pins s σ H Q I h) fun c s1 e => ?_)
  cases c with
  | false => exact isTrue_or_nil e
  | true => exact e
theorem pw_or (ha : PT X a tA) (hb : PW X (.BoolOp .Or (b :: rest) pos) tB') : PW X (.BoolOp .Or (a :: b :: rest) pos) (tOr tA tB') := by
  intro wh pins s σ H Q I h
  refine isTrue_or (thn (ha pins s σ H _ I h) fun c s1 ⟨H1, I1, q1⟩ => ?_)
  cases c with
  | true => exact ⟨H1, I1, q1⟩
  | false => exact hb wh pins s1 σ H1 Q I1 q1
theorem pt_not (ha : PT X a tA) : PT X (.UnaryOp .Not a pos) (tNot tA) := by
  intro pins s σ H Q I h
  exact isTrue_not (ha pins s σ H (fun c H1 => Q (!c) H1) I h)
def tAndV (ta tb : TE) : TE := fun σ H Q => ta σ H fun x H1 => ∃ c, x = .bl c ∧ if c = true then tb σ H1 Q else Q (.bl false) H1
def tOrV (ta tb : TE) : TE := fun σ H Q => ta σ H fun x H1 => ∃ c, x = .bl c ∧ if c = true then Q (.bl true) H1 else tb σ H1 Q
def tNotV (ta : TE) : TE := fun σ H Q => ta σ H fun x H1 => ∃ c, x = .bl c ∧ Q (.bl (!c)) H1
theorem pe_one {op} {t : TE} (h : PE X a t) : PE X (.BoolOp op [a] pos) t := fun pins s σ H Q I hw => BoolOp_one (h pins s σ H Q I hw)
theorem pe_and (ha : PE X a ta) (hb : PE X (.BoolOp .And (b :: rest) pos) tb) : PE X (.BoolOp .And (a :: b :: rest) pos) (tAndV ta tb) := by
  intro pins s σ H Q I h
  refine BoolOp_and (thn (ha pins s σ H _ I h) fun v s1 ⟨x, H1, I1, r1, q1⟩ => ?_)
  obtain ⟨c, rfl, q1⟩ := q1
  cases r1
  refine wpAny_truthy_bool ?_
  cases c with
  | true => exact hb pins s1 σ H1 Q I1 q1
  | false => exact ⟨.bl false, H1, I1, rfl, q1⟩
theorem pe_not (ha : PE X a ta) : PE X (.UnaryOp .Not a pos) (tNotV ta) := by
  intro pins s σ H Q I h
  refine UnaryOp_ (thn (ha pins s σ H _ I h) fun v s1 ⟨x, H1, I1, r1, q1⟩ => ?_)
  obtain ⟨c, rfl, q1⟩ := q1
  cases r1
  exact not_of (wpAny_truthy_bool ⟨.bl (!c), H1, I1, rfl, q1⟩)
def tIf (t : TT) (ta tb : TE) : TE := fun σ H Q => t σ H fun c H1 => if c = true then ta σ H1 Q else tb σ H1 Q
theorem pe_ifExp {c : Expr} (hc : PT X c tA) (ha : PE X a ta) (hb : PE X b tb) : PE X (.IfExp c a b pos) (tIf tA ta tb) := by
  intro pins s σ H Q I h
  refine wpAny_IfExp (thn (hc pins s σ H _ I h) fun d s1 ⟨H1, I1, q1⟩ => ?_)
  cases d with
  | true => exact ha pins s1 σ H1 Q I1 q1
  | false => exact hb pins s1 σ H1 Q I1 q1
end
end L2
namespace L2
open PySem PySem.Spec PyProof.Rows
def SqL (K : PySem.W.Frag) (H : Hp) (a : Addr) (xs : List V) : Prop :=
  Rd H a (.lst xs) ∨
    ∃ (o : Obj) (its : Array Value) (n : Nat), K.lookup a = some o ∧ o.cls = .type "list" ∧ o.dict = none ∧ o.data = .seq its n ∧ its.size ≤ sizeLine ∧ Vals xs its.toList
def SqT (K : PySem.W.Frag) (H : Hp) (a : Addr) (xs : List V) : Prop :=
  Rd H a (.tup xs) ∨
    ∃ (o : Obj) (its : Array Value) (n : Nat), K.lookup a = some o ∧ o.cls = .type "tuple" ∧ o.data = .seq its n ∧ its.size ≤ sizeLine ∧ Vals xs its.toList
def absV : Value → Option V
  | .none => some .non
  | .bool b => some (.bl b)
  | .int i _ => some (.int i)
  | .str x _ => some (.str x)
  | .bytes b _ => some (.byt b)
  | .float b _ => some (.flt b)
  | .ref a => some (.ref a)
  | .type n => some (.ty n)
  | _ => none
theorem RelV.abs {x : V} {u : Value} (r : RelV x u) : absV u = some x := by
  cases x with
  | non => cases r; rfl
  | bl _ => cases r; rfl
  | int _ => obtain ⟨t, rfl⟩ := r; rfl
  | str _ => obtain ⟨t, rfl⟩ := r; rfl
  | byt _ => obtain ⟨t, rfl⟩ := r; rfl
  | flt _ => obtain ⟨t, rfl⟩ := r; rfl
  | ref _ => cases r; rfl
  | ty _ => cases r; rfl
theorem RelV.inj {x y : V} {u : Value} (r : RelV x u) (q : RelV y u) : x = y := Option.some.inj (r.abs.symm.trans q.abs)
theorem Vals.inj : ∀ {xs ys : List V} {us : List Value}, Vals xs us → Vals ys us → xs = ys
  | _, _, _, .nil, .nil => rfl
  | _, _, _, .cons r t, .cons r' t' => by rw [r.inj r', Vals.inj t t']
section
variable {X : Cx} {pins : List (Addr × Obj)} {σ : St} {H : Hp} {s : Shared} {a : Addr} {xs ys : List V}
theorem SqL.of {K : PySem.W.Frag} (h : H a = some (.lst xs)) : SqL K H a xs := .inl (.inl h)
theorem SqT.of {K : PySem.W.Frag} (h : H a = some (.tup xs)) : SqT K H a xs := .inl (.inl h)
theorem Inv.list (I : Inv X pins σ H s) (h : SqL X.K H a xs) : ∃ its : List Value, Vals xs its ∧ PlainL s.heap a its.toArray ∧ xs.length ≤ sizeLine := by
  rcases h with h | ⟨o, its, n, hk, hc, hd, hs, hz, r⟩
  · obtain ⟨z, its, n, r, e⟩ := h.ok I.hok
    exact ⟨its, r, ⟨_, n, e, rfl, rfl, rfl⟩, z⟩
  · refine ⟨its.toList, r, ⟨o, n, I.kIn a o hk, hc, hd, by simpa using hs⟩, ?_⟩
    have e := r.length
    simp only [Array.length_toList] at e
    omega
theorem Inv.tuple (I : Inv X pins σ H s) (h : SqT X.K H a xs) : ∃ its : List Value, Vals xs its ∧ IsTup s.heap a its.toArray ∧ xs.length ≤ sizeLine := by
  rcases h with h | ⟨o, its, n, hk, hc, hs, hz, r⟩
  · obtain ⟨z, its, r, p⟩ := h.ok I.hok
    exact ⟨its, r, p, z⟩
  · refine ⟨its.toList, r, ⟨o, I.kIn a o hk, hc, n, by simpa using hs⟩, ?_⟩
    have e := r.length
    simp only [Array.length_toList] at e
    omega
theorem Inv.list_inj (I : Inv X pins σ H s) (h : SqL X.K H a xs) (h' : SqL X.K H a ys) : xs = ys := by
  obtain ⟨its, r, ⟨o, n, e, _, _, d⟩, _⟩ := I.list h
  obtain ⟨its', r', ⟨o', n', e', _, _, d'⟩, _⟩ := I.list h'
  rw [e] at e'; cases e'
  rw [d] at d'
  injection d' with d1 _
  have : its = its' := by simpa using congrArg Array.toList d1
  subst this
  exact r.inj r'
theorem Inv.tuple_inj (I : Inv X pins σ H s) (h : SqT X.K H a xs) (h' : SqT X.K H a ys) : xs = ys := by
  obtain ⟨its, r, ⟨o, e, _, n, d⟩, _⟩ := I.tuple h
  obtain ⟨its', r', ⟨o', e', _, n', d'⟩, _⟩ := I.tuple h'
  rw [e] at e'; cases e'
  rw [d] at d'
  injection d' with d1 _
  have : its = its' := by simpa using congrArg Array.toList d1
  subst this
  exact r.inj r'
end
abbrev Cx.wish (X : Cx) (E : Value → Shared → Prop) : Cx := { X with xe := E }
abbrev Cx.nox (X : Cx) : Cx := X.wish fun _ _ => False
theorem Cx.Ok.wish {X : Cx} (ok : X.Ok) (E : Value → Shared → Prop) : (X.wish E).Ok :=
  ⟨ok.mod, ok.kind, ok.glob, ok.blt, ok.above, ok.inj, ok.has, ok.cab, ok.hd, ok.frames, ok.stk, ok.exf, ok.bs, ok.bsz, ok.noex, ok.exfs, ok.funs, ok.frf⟩
theorem Cx.Ok.unwish {X : Cx} {E : Value → Shared → Prop} (ok : (X.wish E).Ok) : X.Ok :=
  ⟨ok.mod, ok.kind, ok.glob, ok.blt, ok.above, ok.inj, ok.has, ok.cab, ok.hd, ok.frames, ok.stk, ok.exf, ok.bs, ok.bsz, ok.noex, ok.exfs, ok.funs, ok.frf⟩
section
variable {X : Cx} {pins : List (Addr × Obj)} {σ : St} {H : Hp} {s : Shared} {E : Value → Shared → Prop}
theorem Inv.wish (I : Inv X pins σ H s) (E : Value → Shared → Prop) : Inv (X.wish E) pins σ H s := ⟨I.ok.wish E, I.os, I.bare, I.base, I.loc, I.cell, I.free, I.freeC, I.pin, I.hok, I.len⟩
theorem Inv.unwish (I : Inv (X.wish E) pins σ H s) : Inv X pins σ H s := ⟨I.ok.unwish, I.os, I.bare, I.base, I.loc, I.cell, I.free, I.freeC, I.pin, I.hok, I.len⟩
theorem SP.unwish {D : Ends} {f : Flow} {s' : Shared} (h : SP (X.wish E) pins D f s') : SP X pins D f s' := by
  cases f with
  | next => obtain ⟨σ', H', I, q⟩ := h; exact ⟨σ', H', I.unwish, q⟩
  | brk => obtain ⟨σ', H', I, q⟩ := h; exact ⟨σ', H', I.unwish, q⟩
  | cont => obtain ⟨σ', H', I, q⟩ := h; exact ⟨σ', H', I.unwish, q⟩
  | ret u => obtain ⟨v, σ', H', I, r, q⟩ := h; exact ⟨v, σ', H', I.unwish, r, q⟩
theorem PSs.nox {st : List Stmt} {t : TS} (h : PSs X.nox st t) : PSs X st t := fun pins s σ H D I hw =>
  wpAny_mono (h pins s σ H D (I.wish _) hw) (fun _ _ q => q.unwish) fun _ _ z => False.elim z
end
section
variable {X : Cx} {st : Stmt} {rest : List Stmt} {t u : TS} {e : Expr} {te : TE} {pos : Pos}
def tNext : TS := fun D σ H => D.nx σ H
def tSeq (t u : TS) : TS := fun D σ H => t { D with nx := u D } σ H
theorem pss_nil : PSs X [] tNext := fun _ _ σ H _ I h => wpAny_execs_nil ⟨σ, H, I, h⟩
theorem pss_cons (h1 : PS X st t) (h2 : PSs X rest u) : PSs X (st :: rest) (tSeq t u) := by
  intro pins s σ H D I h
  refine wpAny_execs_cons (thn (h1 pins s σ H { D with nx := u D } I h) fun f s1 q => ?_)
  cases f with
  | next =>
    obtain ⟨σ', H', I', q⟩ := q
    exact h2 pins s1 σ' H' D I' q
  | ret v => exact q
  | brk => exact q
  | cont => exact q
theorem pss_one (h1 : PS X st t) : PSs X [st] t := by
  intro pins s σ H D I h
  refine wpAny_execs_cons (thn (h1 pins s σ H D I h) fun f s1 q => ?_)
  cases f with
  | next => exact wpAny_execs_nil q
  | ret v => exact q
  | brk => exact q
  | cont => exact q
def tBreak : TS := fun D σ H => D.bk σ H
def tCont : TS := fun D σ H => D.ct σ H
theorem Inv.quiet {pins : List (Addr × Obj)} {σ : St} {H : Hp} {s : Shared} (I : Inv X pins σ H s) : interactive X.env = false := by simp [interactive, I.ok.kind]
def tDrop (te : TE) : TS := fun D σ H => te σ H fun _ H1 => D.nx σ H1
theorem ps_expr (he : PE X e te) (hs : swapsWith e none pos.line X.env = pure false := by rfl) : PS X (.Expr e pos) (tDrop te) := by
  intro pins s σ H D I h
  exact wpAny_Expr_any (thn (he pins s σ H _ I h) fun v s1 ⟨x, H1, I1, r1, q1⟩ => ⟨σ, H1, I1, q1⟩) I.quiet hs
def tRet (te : TE) : TS := fun D σ H => te σ H D.rt
theorem ps_ret (he : PE X e te) : PS X (.Return (some e) pos) (tRet te) := by
  intro pins s σ H D I h
  exact wpAny_Return_some (thn (he pins s σ H _ I h) fun v s1 ⟨x, H1, I1, r1, q1⟩ => ⟨x, σ, H1, I1, r1, q1⟩)
def tRetN : TS := fun D _ H => D.rt .non H
def tIfS (c : TT) (t u : TS) : TS := fun D σ H => c σ H fun b H1 => if b = true then t D σ H1 else u D σ H1
theorem ps_if {c : Expr} {a b : List Stmt} {tc : TT} (hc : PT X c tc) (ha : PSs X a t) (hb : PSs X b u) : PS X (.If c a b pos) (tIfS tc t u) := by
  intro pins s σ H D I h
  refine wpAny_If (thn (hc pins s σ H _ I h) fun d s1 ⟨H1, I1, q1⟩ => ?_)
  cases d with
  | true => exact ha pins s1 σ H1 D I1 q1
  | false => exact hb pins s1 σ H1 D I1 q1
def tNever : TS := fun _ _ _ => False
end
abbrev TG := V → St → Hp → (St → Hp → Prop) → Prop
abbrev TGs := List V → St → Hp → (St → Hp → Prop) → Prop
def PG (X : Cx) (target : Expr) (t : TG) : Prop :=
  ∀ (pins : List (Addr × Obj)) (s : Shared) (σ : St) (H : Hp) (v : V) (u : Value) (Q : St → Hp → Prop), Inv X pins σ H s → RelV v u → t v σ H Q →
    wpAny (model X.prog X.w) X.A (assign target X.env u) (fun _ s' => ∃ σ' H', Inv X pins σ' H' s' ∧ Q σ' H') X.xe s
def PGs (X : Cx) (ts : List Expr) (t : TGs) : Prop :=
  ∀ (pins : List (Addr × Obj)) (s : Shared) (σ : St) (H : Hp) (vs : List V) (us : List Value) (Q : St → Hp → Prop), Inv X pins σ H s → Vals vs us → t vs σ H Q →
    wpAny (model X.prog X.w) X.A (assignInOrder ((assignEach ts X.env).map (·.2)) us) (fun _ s' => ∃ σ' H', Inv X pins σ' H' s' ∧ Q σ' H') X.xe s
abbrev TSet := V → V → V → Hp → (Hp → Prop) → Prop
def PSet (X : Cx) (t : TSet) : Prop :=
  ∀ (pins : List (Addr × Obj)) (s : Shared) (σ : St) (H : Hp) (o i v : V) (ov iv u : Value) (Q : Hp → Prop), Inv X pins σ H s → RelV o ov → RelV i iv → RelV v u → t o i v H Q →
    wpAny (model X.prog X.w) X.A (setItem ov iv u) (fun _ s' => ∃ H', Inv X pins σ H' s' ∧ Q H') X.xe s
abbrev TIp := V → V → Hp → VK → Prop
def PIp (X : Cx) (op : Operator) (t : TIp) : Prop :=
  ∀ (pins : List (Addr × Obj)) (s : Shared) (σ : St) (H : Hp) (x y : V) (v u : Value) (Q : VK), Inv X pins σ H s → RelV x v → RelV y u → t x y H Q →
    wpAny (model X.prog X.w) X.A (inplaceOp op v u) (EP X pins σ Q) X.xe s
section
variable {X : Cx} {pos : Pos}
def gName (i : Nat) : TG := fun v σ H Q => Q (σ.set i (some v)) H
theorem pg_name {i : Nat} {x : Str} (hN : X.N.Nodup) (hi : X.N[i]? = some x) (hx : Loc X.env.scope x) (hf : X.fn x = true ∨ X.env.scope.names.lookup x = some .local := by first | exact .inl rfl | exact .inr rfl | assumption) : PG X (.Name x pos) (gName i) := by
  intro pins s σ H v u Q I r h
  exact wpAny_assign_Name (store_ok I hN hi hx r (fun s' I' => ⟨_, H, I', h⟩) hf)
def gNil : TGs := fun vs σ H Q => vs = [] ∧ Q σ H
def gCons (t : TG) (u : TGs) : TGs := fun vs σ H Q => ∃ v r, vs = v :: r ∧ t v σ H fun σ' H' => u r σ' H' Q
theorem pgs_nil : PGs X [] gNil := by
  intro pins s σ H vs us Q I r h
  obtain ⟨e, h⟩ := h
  subst e
  cases r
  exact assignInOrder_nil ⟨σ, H, I, h⟩
theorem pgs_cons {e : Expr} {es : List Expr} {t : TG} {u : TGs} (h1 : PG X e t) (h2 : PGs X es u)
    (hs : (assignEach (e :: es) X.env).map (·.2) = assign e X.env :: (assignEach es X.env).map (·.2) := by rfl) : PGs X (e :: es) (gCons t u) := by
  intro pins s σ H vs us Q I r h
  obtain ⟨v, vr, e1, h⟩ := h
  subst e1
  cases r with
  | cons r rr =>
    rw [hs]
    refine assignInOrder_cons (thn (h1 pins s σ H _ _ _ I r h) fun _ s1 ⟨σ1, H1, I1, q1⟩ => ?_)
    exact h2 pins s1 σ1 H1 _ _ Q I1 rr q1
def gTup (K : PySem.W.Frag) (n : Nat) (t : TGs) : TG := fun v σ H Q => ∃ a xs, v = .ref a ∧ SqT K H a xs ∧ xs.length = n ∧ t xs σ H Q
theorem pg_tup {es : List Expr} {k : Nat} {t : TGs} {n : Nat} (hc : X.calm = true) (h : PGs X es t)
    (hn : (assignEach es X.env).length = n := by rfl) (hst : (assignEach es X.env).findIdx? (·.1) = none := by rfl) : PG X (.Tuple es k pos) (gTup X.K n t) := by
  intro pins s σ H v u Q I r hw
  obtain ⟨a, xs, e1, hq, hl, hw⟩ := hw
  subst e1
  cases r
  obtain ⟨its, rv, ht, hz⟩ := I.tuple hq
  refine assign_Tuple_tuple (I.ok.hd hc) ht (by simp [hn, ← hl, rv.length]) hst fun h' hx => ?_
  have I1 : Inv X pins σ H { s with heap := h' } := I.kept (t' := s.toks) fun b o e => hx b o (Nat.ne_of_lt (Heap.lt_size e)) e
  exact h pins _ σ H xs _ Q I1 (by simpa using rv) hw
def gSub (to ti : TE) (t : TSet) : TG := fun v σ H Q => to σ H fun o H1 => ti σ H1 fun i H2 => t o i v H2 fun H3 => Q σ H3
theorem pg_sub {o i : Expr} {to ti : TE} {t : TSet} (ho : PE X o to) (hi : PE X i ti) (hs : PSet X t)
    (ha : ∀ v, assign (.Subscript o i pos) X.env v = (do
      let ov ← holding [v] (eval o X.env)
      let iv ← holding [v, ov] (eval i X.env)
      standAt pos
      holding [v, ov, iv] (setItem ov iv v)
      release [v, ov, iv] []) := by intro _; rfl) : PG X (.Subscript o i pos) (gSub to ti t) := by
  intro pins s σ H v u Q I r h
  rw [ha]
  refine wpAny_bind (wpAny_holding (thn (ho pins s σ H _ I h) fun ov s1 ⟨x, H1, I1, r1, q1⟩ => ?_))
  refine wpAny_bind (wpAny_holding (thn (hi pins s1 σ H1 _ I1 q1) fun iv s2 ⟨y, H2, I2, r2, q2⟩ => ?_))
  refine wpAny_bind (wpAny_standAt (wpAny_bind (wpAny_holding (thn (hs pins s2 σ H2 x y v ov iv u _ I2 r1 r2 r q2) fun _ s3 ⟨H3, I3, q3⟩ => ?_))))
  exact wpAny_release ⟨σ, H3, I3, q3⟩
def tAsg (te : TE) (g : TG) : TS := fun D σ H => te σ H fun x H1 => g x σ H1 D.nx
theorem ps_asg {tg e : Expr} {te : TE} {g : TG} (he : PE X e te) (hg : PG X tg g) (hs : swapsWithSole [tg] e pos.line X.env = pure false := by rfl) (hw : swappedStores [tg] e X.env = pure none := by rfl)
    (h1 : (assignEach [tg] X.env).map (·.2) = [assign tg X.env] := by rfl) : PS X (.Assign [tg] e pos) (tAsg te g) := by
  intro pins s σ H D I h
  refine wpAny_Assign_stores (thn (he pins s σ H _ I h) fun v s1 ⟨x, H1, I1, r1, q1⟩ => ?_) hs hw
  rw [h1]
  exact thn (hg pins s1 σ H1 x v _ I1 r1 q1) fun _ s2 q => q
theorem ps_set {i : Nat} {x : Str} {e : Expr} {te : TE} {pos' : Pos} (hN : X.N.Nodup) (hi : X.N[i]? = some x) (hx : Loc X.env.scope x) (he : PE X e te) (hs : swapsWith e (some (.Name x pos')) pos.line X.env = pure false := by rfl) (hf : X.fn x = true ∨ X.env.scope.names.lookup x = some .local := by first | exact .inl rfl | exact .inr rfl | assumption) :
    PS X (.Assign [.Name x pos'] e pos) (tAsg te (gName i)) := by
  intro pins s σ H D I h
  refine wpAny_Assign_Name (thn (he pins s σ H _ I h) fun v s1 ⟨y, H1, I1, r1, q1⟩ => ?_) hs
  exact store_ok I1 hN hi hx r1 (fun s2 I2 => ⟨_, H1, I2, q1⟩) hf
def tPar (i j : Nat) (ta : TA) : TS := fun D σ H => ta σ H fun vs H1 => ∃ v w, vs = [v, w] ∧ D.nx ((σ.set i (some v)).set j (some w)) H1
def tAug (i : Nat) (te : TE) (ti : TIp) : TS := fun D σ H => ∃ x, σ[i]? = some (some x) ∧ te σ H fun y H1 => ti x y H1 fun z H2 => D.nx (σ.set i (some z)) H2
theorem ps_aug {i : Nat} {x : Str} {e : Expr} {te : TE} {op : Operator} {ti : TIp} {pos' : Pos} (hN : X.N.Nodup) (hi : X.N[i]? = some x) (hx : Loc X.env.scope x) (he : PE X e te) (ho : PIp X op ti) (hf : X.fn x = true ∨ X.env.scope.names.lookup x = some .local := by first | exact .inl rfl | exact .inr rfl | assumption) :
    PS X (.AugAssign (.Name x pos') op e pos) (tAug i te ti) := by
  intro pins s σ H D I h
  obtain ⟨v, e1, h⟩ := h
  obtain ⟨m, hn, hl⟩ := I.loc
  have vis : Vis X.env.scope x := by rcases hx with k | k; exact .inl k; exact .inr (.inl k)
  obtain ⟨u, r, l⟩ := hl i x v hi e1 vis
  refine wpAny_AugAssign_Name ?_
  have go : wpAny (model X.prog X.w) X.A (eval e X.env) (fun w s₂ => wpAny (model X.prog X.w) X.A (inplaceOp op u w) (fun r s₃ => wpAny (model X.prog X.w) X.A (storeName X.env x r) (fun _ => SP X pins D .next) X.xe s₃) X.xe s₂) X.xe s := by
    refine thn (he pins s σ H _ I h) fun w s1 ⟨y, H1, I1, r1, q1⟩ => ?_
    refine thn (ho pins s1 σ H1 v y u w _ I1 r r1 q1) fun z s2 ⟨zv, H2, I2, r2, q2⟩ => ?_
    exact store_ok I2 hN hi hx r2 (fun s3 I3 => ⟨_, H2, I3, q2⟩) hf
  rcases l with ⟨hk, hm⟩ | ⟨hk, c, hc, hcell⟩
  · exact wpAny_loadName_local I.ok.kind hk hn hm go
  · rcases hk with hk | hk
    · exact wpAny_loadName_cell I.ok.kind hk hc hcell go
    · rcases hx with k | k
      · have : X.env.scope.names.lookup x = some .free := hk
        rw [k] at this; cases this
      · have : X.env.scope.names.lookup x = some .free := hk
        rw [k] at this; cases this
def tAugS (to ti te : TE) (tget : V → V → Hp → VK → Prop) (tip : TIp) (tset : TSet) : TS := fun D σ H => to σ H fun o H1 => ti σ H1 fun i H2 => tget o i H2 fun x H3 => te σ H3 fun y H4 => tip x y H4 fun z H5 => tset o i z H5 fun H6 => D.nx σ H6
def PGet (X : Cx) (t : V → V → Hp → VK → Prop) : Prop :=
  ∀ (pins : List (Addr × Obj)) (s : Shared) (σ : St) (H : Hp) (o i : V) (ov iv : Value) (Q : VK), Inv X pins σ H s → RelV o ov → RelV i iv → t o i H Q →
    wpAny (model X.prog X.w) X.A (getItem ov iv) (EP X pins σ Q) X.xe s
def ipI (f : Int → Int → Int) : TIp := fun x y H Q => ∃ i j, x = .int i ∧ y = .int j ∧ Q (.int (f i j)) H
theorem ip_add : PIp X .Add (ipI fun i j => i + j) := by
  intro pins s σ H x y v u Q I r1 r2 h
  obtain ⟨i, j, e1, e2, q⟩ := h
  subst e1; subst e2
  obtain ⟨t, rfl⟩ := r1
  obtain ⟨t', rfl⟩ := r2
  exact iadd_int ⟨.int _, H, I.tok _, ⟨_, rfl⟩, q⟩
end
section
variable {X : Cx} {pos : Pos}
def tWhile (c : TT) (tb : TS) : TS := fun D σ H => ∃ W : Nat → St → Hp → Prop, (∃ m, W m σ H) ∧ ∀ m σ H, W m σ H →
  c σ H fun b H1 => if b = true then ∃ N : St → Hp → Prop, (∀ σ' H', N σ' H' → ∃ m', m' < m ∧ W m' σ' H') ∧ tb { D with nx := N, ct := N, bk := D.nx } σ H1 else D.nx σ H1
theorem ps_while {c : Expr} {body : List Stmt} {tc : TT} {tb : TS} (hp : PassesOwn (model X.prog X.w) X.A X.env X.xe) (hc : PT X c tc) (hb : PSs X body tb) : PS X (.While c body [] pos) (tWhile tc tb) := by
  intro pins s σ H D I h
  obtain ⟨W, ⟨m0, w0⟩, turn⟩ := h
  refine wpAny_While (codeAny_whileLoop (fun n s' => ∃ σ' H', Inv X pins σ' H' s' ∧ W n σ' H') ?_ m0 ⟨σ, H, I, w0⟩)
  rintro n s1 ⟨σ1, H1, I1, w1⟩
  refine wpAny_passesOwn hp (thn (hc pins s1 σ1 H1 _ I1 (turn n σ1 H1 w1)) fun b s2 ⟨H2, I2, q2⟩ => ?_)
  cases b with
  | true =>
    obtain ⟨N, hN, q2⟩ := q2
    rw [if_pos rfl]
    refine wpAny_passesOwn hp (thn (hb pins s2 σ1 H2 _ I2 q2) fun f s3 q3 => ?_)
    cases f with
    | next =>
      obtain ⟨σ3, H3, I3, n3⟩ := q3
      obtain ⟨m', hm, w3⟩ := hN σ3 H3 n3
      exact ⟨m', hm, σ3, H3, I3, w3⟩
    | cont =>
      obtain ⟨σ3, H3, I3, n3⟩ := q3
      obtain ⟨m', hm, w3⟩ := hN σ3 H3 n3
      exact ⟨m', hm, σ3, H3, I3, w3⟩
    | brk => exact q3
    | ret v => exact q3
  | false =>
    rw [if_neg Bool.false_ne_true]
    exact wpAny_execs_nil ⟨σ1, H2, I2, q2⟩
end
structure It where
  go : Nat → Hp → Prop
  yld : Nat → Hp → V → Hp → Prop
  stop : Nat → Hp → Prop
def FpOk (X : Cx) (pins : List (Addr × Obj)) (H : Hp) (b : Addr) : Prop :=
  H b = none ∧ b ≠ X.env.locals ∧ b ∉ X.fs ∧ (b ∈ X.ex ∨ X.s₀.heap.objs.size ≤ b) ∧ (∀ x c, X.env.cells.lookup x = some c → c ≠ b) ∧ ∀ p ∈ X.pn ++ pins, p.1 ≠ b
theorem Inv.fpOk {X : Cx} {pins : List (Addr × Obj)} {σ : St} {H H' : Hp} {s : Shared} {b : Addr} (I : Inv X pins σ H s) (hb : s.heap.objs.size ≤ b) (hn : H' b = none) : FpOk X pins H' b := by
  refine ⟨hn, Nat.ne_of_gt (Nat.lt_of_lt_of_le I.lt hb), I.nofs hb, .inr (Nat.le_trans I.sz hb), fun x c e z => ?_, fun p hp z => ?_⟩
  · obtain ⟨v, q⟩ := I.cell x c e
    exact absurd (Nat.lt_of_lt_of_le q.lt (by rw [z]; exact hb)) (Nat.lt_irrefl _)
  · exact absurd (Nat.lt_of_lt_of_le (Heap.lt_size (I.pin p hp).1) (by rw [z]; exact hb)) (Nat.lt_irrefl _)
structure Turn (P : Program) (w : World) (K : PySem.W.Frag) (tg : Expr) (J : It) (fp : List Addr) (it : Addr) (tn : Nat → Heap → Prop) : Prop where
  mem : it ∈ fp
  obj : ∀ i h, tn i h → ∀ b ∈ fp, ∃ o, h.get? b = some o ∧ ∀ v, o.data ≠ .cell v
  keep : ∀ i h h', tn i h → (∀ b ∈ fp, ∀ o, h.get? b = some o → h'.get? b = some o) → tn i h'
  item : ∀ (X : Cx), X.prog = P → X.w = w → X.K = K → X.calm = true → ∀ (i : Nat) (pins : List (Addr × Obj)) (s : Shared) (σ : St) (H : Hp) (E : Value → Shared → Prop), Inv X pins σ H s → (∀ b ∈ fp, FpOk X pins H b) → tn i s.heap → J.go i H →
    wpAny (model P w) X.A (pyNext (.ref it)) (fun r s1 => ∃ u, r = some u ∧
      wpAny (model P w) X.A (letOwnedTupleGo tg (.ref it) u) (fun _ s2 => ∃ x H', Inv X pins σ H' s2 ∧ RelV x u ∧ J.yld i H x H' ∧ tn (i + 1) s2.heap ∧ ∀ b ∈ fp, H' b = none) E s1) E s
  done : ∀ (X : Cx), X.prog = P → X.w = w → X.K = K → X.calm = true → ∀ (i : Nat) (pins : List (Addr × Obj)) (s : Shared) (σ : St) (H : Hp) (E : Value → Shared → Prop), Inv X pins σ H s → (∀ b ∈ fp, FpOk X pins H b) → tn i s.heap → J.stop i H →
    wpAny (model P w) X.A (pyNext (.ref it)) (fun r s1 => r = none ∧ Inv X pins σ H s1) E s
  self : ∀ (A : Around) (i : Nat) (s : Shared) (Q : Value → Shared → Prop) (E : Value → Shared → Prop), tn i s.heap → Q (.ref it) s → wpAny (model P w) A (pyIter (.ref it)) Q E s
abbrev TI := St → Hp → (It → Hp → Prop) → Prop
def PIE (X : Cx) (pins : List (Addr × Obj)) (σ : St) (tg : Expr) (R : It → Hp → Prop) (itv : Value) (s2 : Shared) : Prop :=
  ∃ (it : Addr) (fp : List Addr) (tn : Nat → Heap → Prop) (J : It) (H' : Hp), itv = .ref it ∧ Inv X pins σ H' s2 ∧ Turn X.prog X.w X.K tg J fp it tn ∧ tn 0 s2.heap ∧ (∀ b ∈ fp, FpOk X pins H' b) ∧ R J H'
def PI (X : Cx) (tg iter : Expr) (wi : TI) : Prop :=
  ∀ (pins : List (Addr × Obj)) (s : Shared) (σ : St) (H : Hp) (R : It → Hp → Prop), Inv X pins σ H s → wi σ H R →
    wpAny (model X.prog X.w) X.A (eval iter X.env) (fun v s1 => wpAny (model X.prog X.w) X.A (pyIter v) (PIE X pins σ tg R) X.xe s1) X.xe s
theorem go_of {M : Model} {A : Around} {E : Value → Shared → Prop} {s : Shared} {tg : Expr} {it : Addr} {u : Value} {o : Obj} {n : String} {vs : Array Value} {Q : Unit → Shared → Prop} (ho : s.heap.get? it = some o) (hc : o.cls = .type n) (hd : o.data = .fields vs)
    (hn : ["enumerate", "zip", "dict_itemiterator", "dict_reverseitemiterator", "odict_iterator", "itertools.zip_longest", "itertools.pairwise"].contains n = false) (hQ : Q () s) : wpAny M A (letOwnedTupleGo tg (.ref it) u) Q E s := by
  unfold letOwnedTupleGo
  cases tg <;> first
    | exact wpAny_pure hQ
    | (cases u <;> first
        | exact wpAny_pure hQ
        | (refine wpAny_bind (wpAny_load ho ?_)
           rw [hc, hd]
           show wpAny M A (if (["enumerate", "zip", "dict_itemiterator", "dict_reverseitemiterator", "odict_iterator", "itertools.zip_longest", "itertools.pairwise"].contains n && vs[0]? == some (rawInt _)) = true then _ else _) Q E s
           rw [if_neg (by intro h; rw [hn, Bool.false_and] at h; cases h)]
           exact wpAny_pure hQ))
def Itl (K : PySem.W.Frag) (a : Addr) : It :=
  ⟨fun i H => ∃ xs x, SqL K H a xs ∧ xs[i]? = some x, fun i H x H' => H' = H ∧ ∀ xs, SqL K H a xs → xs[i]? = some x, fun i H => ∃ xs, SqL K H a xs ∧ xs.length ≤ i⟩
def Itt (K : PySem.W.Frag) (a : Addr) : It :=
  ⟨fun i H => ∃ xs x, SqT K H a xs ∧ xs[i]? = some x, fun i H x H' => H' = H ∧ ∀ xs, SqT K H a xs → xs[i]? = some x, fun i H => ∃ xs, SqT K H a xs ∧ xs.length ≤ i⟩
def Itr (lo : Int) (n : Nat) : It := ⟨fun i _ => i < n, fun i H x H' => H' = H ∧ x = .int (lo + i), fun i _ => n ≤ i⟩
theorem turn_list {P : Program} {w : World} {K : PySem.W.Frag} {tg : Expr} (a it : Addr) : Turn P w K tg (Itl K a) [it] it (fun i h => h.IsListIter it a i) where
  mem := by simp
  obj := fun i h st b hb => by
    have e : b = it := by simpa using hb
    subst e
    obtain ⟨o, e, c, d⟩ := st
    exact ⟨o, e, fun v z => by rw [d] at z; cases z⟩
  keep := fun i h h' st k => st.at fun o e => k it (by simp) o e
  item := by
    intro X hP hw hK hc i pins s σ H E I hf st hg
    subst hP hw hK
    obtain ⟨xs, x, hq, hx⟩ := hg
    obtain ⟨its, rv, p, hz⟩ := I.list hq
    obtain ⟨u, hu, ru⟩ := rv.get hx
    obtain ⟨f0, f1, f2, f3, f4, f5⟩ := hf it (by simp)
    refine wpAny_pyNext_list_item st p.isList (x := u) (by simpa using hu) fun h' st' sb => ?_
    have I1 : Inv X pins σ H { s with heap := h' } := I.turned (t' := s.toks) (fun b o hb e => (sb.2 b hb).trans e) f0 f1 f3 f4 f5
    obtain ⟨o, e, c, d⟩ := id st'
    exact ⟨u, rfl, go_of (s := { s with heap := h' }) e c d (by decide) ⟨x, H, I1, ru, ⟨rfl, fun ys hy => by rw [I.list_inj hy hq]; exact hx⟩, st', fun b hb => (hf b hb).1⟩⟩
  done := by
    intro X hP hw hK hc i pins s σ H E I hf st hg
    subst hP hw hK
    obtain ⟨xs, hq, hx⟩ := hg
    obtain ⟨its, rv, p, hz⟩ := I.list hq
    obtain ⟨f0, f1, f2, f3, f4, f5⟩ := hf it (by simp)
    have hl := rv.length
    exact wpAny_pyNext_list_end (I.ok.hd hc) st p.isList (by simp; omega) fun h' eb => ⟨rfl, I.turned (t' := s.toks) (fun b o hb e => eb b o hb e) f0 f1 f3 f4 f5⟩
  self := fun _ _ _ _ _ st h => wpAny_pyIter_listiter st h
theorem turn_tuple {P : Program} {w : World} {K : PySem.W.Frag} {tg : Expr} (a it : Addr) : Turn P w K tg (Itt K a) [it] it (fun i h => h.IsTupleIter it a i) where
  mem := by simp
  obj := fun i h st b hb => by
    have e : b = it := by simpa using hb
    subst e
    obtain ⟨o, e, c, d⟩ := st
    exact ⟨o, e, fun v z => by rw [d] at z; cases z⟩
  keep := fun i h h' st k => st.at fun o e => k it (by simp) o e
  item := by
    intro X hP hw hK hc i pins s σ H E I hf st hg
    subst hP hw hK
    obtain ⟨xs, x, hq, hx⟩ := hg
    obtain ⟨its, rv, p, hz⟩ := I.tuple hq
    obtain ⟨u, hu, ru⟩ := rv.get hx
    obtain ⟨f0, f1, f2, f3, f4, f5⟩ := hf it (by simp)
    refine wpAny_pyNext_tuple_item st (show s.heap.IsTuple a its.toArray from p) (x := u) (by simpa using hu) fun h' st' sb => ?_
    have I1 : Inv X pins σ H { s with heap := h' } := I.turned (t' := s.toks) (fun b o hb e => (sb.2 b hb).trans e) f0 f1 f3 f4 f5
    obtain ⟨o, e, c, d⟩ := id st'
    exact ⟨u, rfl, go_of (s := { s with heap := h' }) e c d (by decide) ⟨x, H, I1, ru, ⟨rfl, fun ys hy => by rw [I.tuple_inj hy hq]; exact hx⟩, st', fun b hb => (hf b hb).1⟩⟩
  done := by
    intro X hP hw hK hc i pins s σ H E I hf st hg
    subst hP hw hK
    obtain ⟨xs, hq, hx⟩ := hg
    obtain ⟨its, rv, p, hz⟩ := I.tuple hq
    obtain ⟨f0, f1, f2, f3, f4, f5⟩ := hf it (by simp)
    have hl := rv.length
    exact wpAny_pyNext_tuple_end (I.ok.hd hc) st (show s.heap.IsTuple a its.toArray from p) (by simp; omega) fun h' eb => ⟨rfl, I.turned (t' := s.toks) (fun b o hb e => eb b o hb e) f0 f1 f3 f4 f5⟩
  self := fun _ _ _ _ _ st h => wpAny_pyIter_tupleiter st h
theorem turn_range {P : Program} {w : World} {K : PySem.W.Frag} {tg : Expr} (it : Addr) (lo : Int) (n : Nat) : Turn P w K tg (Itr lo n) [it] it (fun i h => IsRangeIter h it (lo + (i : Nat) * 1) ((n : Int) - (i : Nat)) 1) where
  mem := by simp
  obj := fun i h st b hb => by
    have e : b = it := by simpa using hb
    subst e
    exact ⟨_, st, fun v z => by
      have z' : Data.fields _ = Data.cell v := z
      cases z'⟩
  keep := fun i h h' st k => k it (by simp) _ st
  item := by
    intro X hP hw hK hc i pins s σ H E I hf st hg
    subst hP hw hK
    obtain ⟨f0, f1, f2, f3, f4, f5⟩ := hf it (by simp)
    have W := Walks.range (prog := X.prog) (w := X.w) (I.ok.hd hc) it lo 1 n
    refine W.item i s _ _ hg st fun v h' tk hv st' kk => ?_
    obtain ⟨t, rfl⟩ := hv
    have I1 : Inv X pins σ H { s with heap := h', toks := tk } := I.turned (fun b o hb e => kk b o (by simpa using hb) e) f0 f1 f3 f4 f5
    refine ⟨_, rfl, go_of (s := { s with heap := h', toks := tk }) (n := "range_iterator") st' rfl rfl (by decide) ⟨.int (lo + i), H, I1, ⟨t, ?_⟩, ⟨rfl, rfl⟩, st', fun b hb => (hf b hb).1⟩⟩
    rw [Int.mul_one]
  done := by
    intro X hP hw hK hc i pins s σ H E I hf st hg
    subst hP hw hK
    obtain ⟨f0, f1, f2, f3, f4, f5⟩ := hf it (by simp)
    exact wpAny_pyNext_range_end (I.ok.hd hc) st (by have : n ≤ i := hg; omega) fun h' eb => ⟨rfl, I.turned (t' := s.toks) (fun b o hb e => eb b o hb e) f0 f1 f3 f4 f5⟩
  self := fun _ _ _ _ _ st h => wpAny_pyIter_rangeiter st h
end L2
namespace L2
open PySem PySem.Spec PyProof.Rows
section
variable {X : Cx} {tg : Expr}
def iList (K : PySem.W.Frag) (tl : TE) : TI := fun σ H R => tl σ H fun x H1 => ∃ a, x = .ref a ∧ (∃ xs, SqL K H1 a xs) ∧ R (Itl K a) H1
def iTup (K : PySem.W.Frag) (tl : TE) : TI := fun σ H R => tl σ H fun x H1 => ∃ a, x = .ref a ∧ (∃ xs, SqT K H1 a xs) ∧ R (Itt K a) H1
theorem pi_list {l : Expr} {tl : TE} (hl : PE X l tl) : PI X tg l (iList X.K tl) := by
  intro pins s σ H R I h
  refine thn (hl pins s σ H _ I h) fun v s1 ⟨x, H1, I1, r1, q1⟩ => ?_
  obtain ⟨a, e, ⟨xs, hq⟩, q⟩ := q1
  subst e
  cases r1
  obtain ⟨its, rv, p, hz⟩ := I1.list hq
  refine wpAny_pyIter_list p.isList ?_
  refine ⟨s1.heap.objs.size, [s1.heap.objs.size], _, _, H1, rfl, I1.kept (t' := s1.toks) fun b o e => Heap.get?_push_of_some _ e, turn_list a _, ⟨_, Heap.get?_push_size _ rfl, rfl, rfl⟩, fun b hb => ?_, q⟩
  have e : b = s1.heap.objs.size := by simpa using hb
  subst e
  exact I1.fpOk (Nat.le_refl _) (I1.hok.fresh (Nat.le_refl _))
theorem pi_tup {l : Expr} {tl : TE} (hl : PE X l tl) : PI X tg l (iTup X.K tl) := by
  intro pins s σ H R I h
  refine thn (hl pins s σ H _ I h) fun v s1 ⟨x, H1, I1, r1, q1⟩ => ?_
  obtain ⟨a, e, ⟨xs, hq⟩, q⟩ := q1
  subst e
  cases r1
  obtain ⟨its, rv, p, hz⟩ := I1.tuple hq
  refine wpAny_pyIter_tuple (show s1.heap.IsTuple a its.toArray from p) ?_
  refine ⟨s1.heap.objs.size, [s1.heap.objs.size], _, _, H1, rfl, I1.kept (t' := s1.toks) fun b o e => Heap.get?_push_of_some _ e, turn_tuple a _, ⟨_, Heap.get?_push_size _ rfl, rfl, rfl⟩, fun b hb => ?_, q⟩
  have e : b = s1.heap.objs.size := by simpa using hb
  subst e
  exact I1.fpOk (Nat.le_refl _) (I1.hok.fresh (Nat.le_refl _))
theorem range_it {pins : List (Addr × Obj)} {σ : St} {H : Hp} {s : Shared} {R : It → Hp → Prop} {E : Value → Shared → Prop} {lo hi : Int} {t u v : Tok} {tk : Nat} (I : Inv X pins σ H s) (h1 : -(2 ^ 62) ≤ lo) (h2 : lo < 2 ^ 62) (h3 : -(2 ^ 62) ≤ hi) (h4 : hi < 2 ^ 62)
    (q : R (Itr lo (hi - lo).toNat) H) : wpAny (model X.prog X.w) X.A (pyIter (.ref s.heap.objs.size)) (PIE X pins σ tg R) E { s with heap := s.heap.push { cls := .type "range", data := .fields #[.int lo t, .int hi u, .int 1 v] }, toks := tk } := by
  refine wpAny_pyIter_range (IsRange.new ..) (small_one h1 h2 h3 h4) ?_
  have I1 : Inv X pins σ H { s with heap := s.heap.push { cls := .type "range", data := .fields #[.int lo t, .int hi u, .int 1 v] }, toks := tk } := I.kept fun b o e => Heap.get?_push_of_some _ e
  refine ⟨(s.heap.push { cls := .type "range", data := .fields #[.int lo t, .int hi u, .int 1 v] }).objs.size, [(s.heap.push { cls := .type "range", data := .fields #[.int lo t, .int hi u, .int 1 v] }).objs.size], _, _, H, rfl,
    I1.kept (t' := tk) fun b o e => Heap.get?_push_of_some _ e, turn_range _ lo (hi - lo).toNat, ?_, fun b hb => ?_, q⟩
  · have e1 : lo + ((0 : Nat) : Int) * 1 = lo := by simp
    have e2 : (((hi - lo).toNat : Nat) : Int) - ((0 : Nat) : Int) = Builtin.Range.rangeSize lo hi 1 := by rw [rangeSize_one]; split <;> omega
    show IsRangeIter _ _ (lo + ((0 : Nat) : Int) * 1) ((((hi - lo).toNat : Nat) : Int) - ((0 : Nat) : Int)) 1
    rw [e1, e2]
    exact Heap.get?_push_size _ rfl
  · have e : b = (s.heap.push { cls := .type "range", data := .fields #[.int lo t, .int hi u, .int 1 v] }).objs.size := by simpa using hb
    subst e
    exact I1.fpOk (Nat.le_refl _) (I1.hok.fresh (Nat.le_refl _))
def iRng1 (ta : TA) : TI := fun σ H R => ta σ H fun vs H1 => ∃ j : Int, vs = [.int j] ∧ -(2 ^ 62) ≤ j ∧ j < 2 ^ 62 ∧ R (Itr 0 j.toNat) H1
def iRng2 (ta : TA) : TI := fun σ H R => ta σ H fun vs H1 => ∃ i j : Int, vs = [.int i, .int j] ∧ (-(2 ^ 62) ≤ i ∧ i < 2 ^ 62 ∧ -(2 ^ 62) ≤ j ∧ j < 2 ^ 62) ∧ R (Itr i (j - i).toNat) H1
theorem pi_range1 {a : Expr} {ta : TA} {p pos : Pos} (hg : Gl X "range") (hm : X.mg "range" = none) (ha : PA X [a] ta) (hs : starEach [a] X.env = [(false, eval a X.env)] := by rfl) : PI X tg (.Call (.Name "range" p) [a] [] pos) (iRng1 ta) := by
  intro pins s σ H R I h
  refine Call_ (ld_blt I hg hm boot_range (PyProof.Rows.callWith_type1 (thn (ha pos pins s σ H _ I h) fun us s1 ⟨vs, H1, I1, r1, q1⟩ => ?_) hs rfl))
  obtain ⟨j, e, q1, q2, q⟩ := q1
  subst e
  cases r1 with
  | cons r rr =>
    cases rr
    obtain ⟨t, rfl⟩ := r
    exact call_range_1 (range_it I1 (by omega) (by omega) q1 q2 (by simpa using q))
theorem pi_range2 {a b : Expr} {ta : TA} {p pos : Pos} (hg : Gl X "range") (hm : X.mg "range" = none) (ha : PA X [a, b] ta) (hs : starEach [a, b] X.env = [(false, eval a X.env), (false, eval b X.env)] := by rfl) (hs2 : starEach [b] X.env = [(false, eval b X.env)] := by rfl) :
    PI X tg (.Call (.Name "range" p) [a, b] [] pos) (iRng2 ta) := by
  intro pins s σ H R I h
  refine Call_ (ld_blt I hg hm boot_range (PyProof.Rows.callWith_type1 (thn (ha pos pins s σ H _ I h) fun us s1 ⟨vs, H1, I1, r1, q1⟩ => ?_) (by rw [hs, hs2]) (by rw [hs2]; rfl)))
  obtain ⟨i, j, e, ⟨q1, q2, q3, q4⟩, q⟩ := q1
  subst e
  cases r1 with
  | cons r rr =>
    cases rr with
    | cons r' rr =>
      cases rr
      obtain ⟨t, rfl⟩ := r
      obtain ⟨t', rfl⟩ := r'
      exact call_range_2 (range_it I1 q1 q2 q3 q4 q)
def tFor (wi : TI) (g : TG) (tb : TS) : TS := fun D σ H => wi σ H fun J H1 => ∃ W : Nat → Nat → St → Hp → Prop, (∃ m, W 0 m σ H1) ∧ ∀ i m σ H, W i m σ H →
  (J.stop i H ∧ D.nx σ H) ∨ (J.go i H ∧ ∃ N : St → Hp → Prop, (∀ σ' H', N σ' H' → ∃ m', m' < m ∧ W (i + 1) m' σ' H') ∧ ∀ x H', J.yld i H x H' → g x σ H' fun σ2 H2 => tb { D with nx := N, ct := N, bk := D.nx } σ2 H2)
def pinsAt (fp : List Addr) (h : Heap) : List (Addr × Obj) := fp.filterMap fun b => (h.get? b).map fun o => (b, o)
theorem mem_pinsAt {fp : List Addr} {h : Heap} {b : Addr} {o : Obj} (hb : b ∈ fp) (e : h.get? b = some o) : (b, o) ∈ pinsAt fp h := List.mem_filterMap.mpr ⟨b, hb, by rw [e]; rfl⟩
theorem of_pinsAt {fp : List Addr} {h : Heap} {p : Addr × Obj} (hp : p ∈ pinsAt fp h) : p.1 ∈ fp ∧ h.get? p.1 = some p.2 := by
  obtain ⟨b, hb, e⟩ := List.mem_filterMap.mp hp
  cases q : h.get? b with
  | none => rw [q] at e; cases e
  | some o =>
    rw [q] at e
    have e' : (b, o) = p := Option.some.inj e
    subst e'
    exact ⟨hb, q⟩
theorem Inv.pinned {pins : List (Addr × Obj)} {σ : St} {H : Hp} {s : Shared} {fp : List Addr} (I : Inv X pins σ H s) (hf : ∀ b ∈ fp, FpOk X pins H b) (ho : ∀ b ∈ fp, ∃ o, s.heap.get? b = some o ∧ ∀ v, o.data ≠ .cell v) : Inv X (pins ++ pinsAt fp s.heap) σ H s :=
  I.pins_of fun p hp => (List.mem_append.mp hp).elim (fun z => I.pin p (List.mem_append_right _ z)) fun z => by
    obtain ⟨hb, e⟩ := of_pinsAt z
    obtain ⟨f0, f1, f2, _⟩ := hf p.1 hb
    obtain ⟨o, e', d⟩ := ho p.1 hb
    rw [e] at e'; cases e'
    exact ⟨e, f0, f1, f2, d⟩
theorem Inv.unpinned {pins pl : List (Addr × Obj)} {σ : St} {H : Hp} {s : Shared} (I : Inv X (pins ++ pl) σ H s) : Inv X pins σ H s := I.pins_of fun p hp => I.pin p (List.mem_append_right _ (List.mem_append_left _ hp))
theorem ps_for {iter : Expr} {body : List Stmt} {wi : TI} {g : TG} {tb : TS} {pos : Pos} (hp : PassesOwn (model X.prog X.w) X.A X.env X.xe) (hc : X.calm = true) (hi : PI X tg iter wi) (hg : PG X tg g) (hb : PSs X body tb)
    (hs : ∀ x, foldedSetIterable iter X.env x = pure x := by intro _; rfl) : PS X (.For tg iter body [] pos) (tFor wi g tb) := by
  intro pins s σ H D I h
  refine wpAny_For (thn (hi pins s σ H _ I h) fun v s1 h1 => thn h1 fun itv s2 h2 => ?_) hs
  obtain ⟨it, fp, tn, J, H2, e, I2, T, st2, f2, W, ⟨m0, w0⟩, turn⟩ := h2
  subst e
  have stat : ∀ {H' : Hp}, (∀ b ∈ fp, H' b = none) → ∀ b ∈ fp, FpOk X pins H' b := fun hn b hb => ⟨hn b hb, (f2 b hb).2⟩
  refine codeAny_forLoop_any (fun n s' => ∃ i σ' H', Inv X pins σ' H' s' ∧ tn i s'.heap ∧ (∀ b ∈ fp, H' b = none) ∧ W i n σ' H') ?_ m0 ⟨0, σ, H2, I2, st2, fun b hb => (f2 b hb).1, w0⟩
  rintro n s3 ⟨i, σ3, H3, I3, st3, fr3, w3⟩
  rcases turn i n σ3 H3 w3 with ⟨stop, qn⟩ | ⟨go, N, hN, step⟩
  · refine wpAny_passesOwn hp (thn (T.done X rfl rfl rfl hc i pins s3 σ3 H3 X.xe I3 (stat fr3) st3 stop) fun r s4 ⟨hr, I4⟩ => ?_)
    subst hr
    exact wpAny_execs_nil ⟨σ3, H3, I4, qn⟩
  · refine wpAny_passesOwn hp (thn (T.item X rfl rfl rfl hc i pins s3 σ3 H3 X.xe I3 (stat fr3) st3 go) fun r s4 ⟨u, hr, h4⟩ => ?_)
    subst hr
    refine wpAny_passesOwn hp (thn h4 fun _ s5 ⟨x, H5, I5, r5, y5, st5, fr5⟩ => ?_)
    have I5' := I5.pinned (stat fr5) (T.obj _ _ st5)
    refine wpAny_passesOwn hp (thn (hg _ s5 σ3 H5 x u _ I5' r5 (step x H5 y5)) fun _ s6 ⟨σ6, H6, I6, q6⟩ => ?_)
    refine wpAny_passesOwn hp (thn (hb _ s6 σ6 H6 _ I6 q6) fun f s7 q7 => ?_)
    have again : ∀ {σ7 : St} {H7 : Hp}, Inv X (pins ++ pinsAt fp s5.heap) σ7 H7 s7 → N σ7 H7 → ∃ m, m < n ∧ ∃ i σ' H', Inv X pins σ' H' s7 ∧ tn i s7.heap ∧ (∀ b ∈ fp, H' b = none) ∧ W i m σ' H' := fun {σ7 H7} I7 n7 => by
      obtain ⟨m', hm, w7⟩ := hN σ7 H7 n7
      refine ⟨m', hm, i + 1, σ7, H7, I7.unpinned, T.keep _ _ _ st5 fun b hb o e => (I7.pin (b, o) (List.mem_append_right _ (List.mem_append_right _ (mem_pinsAt hb e)))).1, fun b hb => ?_, w7⟩
      obtain ⟨o, e, d⟩ := T.obj _ _ st5 b hb
      exact (I7.pin (b, o) (List.mem_append_right _ (List.mem_append_right _ (mem_pinsAt hb e)))).2.1
    cases f with
    | next => obtain ⟨σ7, H7, I7, n7⟩ := q7; exact again I7 n7
    | cont => obtain ⟨σ7, H7, I7, n7⟩ := q7; exact again I7 n7
    | brk => obtain ⟨σ7, H7, I7, q7⟩ := q7; exact ⟨σ7, H7, I7.unpinned, q7⟩
    | ret v => obtain ⟨x7, σ7, H7, I7, r7, q7⟩ := q7; exact ⟨x7, σ7, H7, I7.unpinned, r7, q7⟩
end
theorem for_list {K : PySem.W.Frag} {a : Addr} {xs : List V} {g : TG} {tb : TS} {D : Ends} {σ : St} {H : Hp} (Pv : Nat → St → Hp → Prop) (h0 : Pv 0 σ H) (hl : ∀ i σ H, i ≤ xs.length → Pv i σ H → SqL K H a xs)
    (hs : ∀ i x σ H, xs[i]? = some x → Pv i σ H → g x σ H fun σ2 H2 => tb { D with nx := Pv (i + 1), ct := Pv (i + 1), bk := D.nx } σ2 H2) (hd : ∀ σ H, Pv xs.length σ H → D.nx σ H) :
    ∃ W : Nat → Nat → St → Hp → Prop, (∃ m, W 0 m σ H) ∧ ∀ i m σ H, W i m σ H →
      ((Itl K a).stop i H ∧ D.nx σ H) ∨ ((Itl K a).go i H ∧ ∃ N : St → Hp → Prop, (∀ σ' H', N σ' H' → ∃ m', m' < m ∧ W (i + 1) m' σ' H') ∧ ∀ x H', (Itl K a).yld i H x H' → g x σ H' fun σ2 H2 => tb { D with nx := N, ct := N, bk := D.nx } σ2 H2) := by
  refine ⟨fun i m σ H => m = xs.length - i ∧ i ≤ xs.length ∧ Pv i σ H, ⟨xs.length, by simp, Nat.zero_le _, h0⟩, ?_⟩
  rintro i m σ H ⟨rfl, hi, p⟩
  have q := hl i σ H hi p
  by_cases hlt : i < xs.length
  · refine .inr ⟨⟨xs, xs[i], q, by simp [hlt]⟩, Pv (i + 1), fun σ' H' p' => ⟨xs.length - (i + 1), by omega, rfl, hlt, p'⟩, fun x H' y => ?_⟩
    obtain ⟨e, y⟩ := y
    subst e
    exact hs i x σ _ (y xs q) p
  · have e : i = xs.length := by omega
    subst e
    exact .inl ⟨⟨xs, q, Nat.le_refl _⟩, hd σ H p⟩
theorem for_tup {K : PySem.W.Frag} {a : Addr} {xs : List V} {g : TG} {tb : TS} {D : Ends} {σ : St} {H : Hp} (Pv : Nat → St → Hp → Prop) (h0 : Pv 0 σ H) (hl : ∀ i σ H, i ≤ xs.length → Pv i σ H → SqT K H a xs)
    (hs : ∀ i x σ H, xs[i]? = some x → Pv i σ H → g x σ H fun σ2 H2 => tb { D with nx := Pv (i + 1), ct := Pv (i + 1), bk := D.nx } σ2 H2) (hd : ∀ σ H, Pv xs.length σ H → D.nx σ H) :
    ∃ W : Nat → Nat → St → Hp → Prop, (∃ m, W 0 m σ H) ∧ ∀ i m σ H, W i m σ H →
      ((Itt K a).stop i H ∧ D.nx σ H) ∨ ((Itt K a).go i H ∧ ∃ N : St → Hp → Prop, (∀ σ' H', N σ' H' → ∃ m', m' < m ∧ W (i + 1) m' σ' H') ∧ ∀ x H', (Itt K a).yld i H x H' → g x σ H' fun σ2 H2 => tb { D with nx := N, ct := N, bk := D.nx } σ2 H2) := by
  refine ⟨fun i m σ H => m = xs.length - i ∧ i ≤ xs.length ∧ Pv i σ H, ⟨xs.length, by simp, Nat.zero_le _, h0⟩, ?_⟩
  rintro i m σ H ⟨rfl, hi, p⟩
  have q := hl i σ H hi p
  by_cases hlt : i < xs.length
  · refine .inr ⟨⟨xs, xs[i], q, by simp [hlt]⟩, Pv (i + 1), fun σ' H' p' => ⟨xs.length - (i + 1), by omega, rfl, hlt, p'⟩, fun x H' y => ?_⟩
    obtain ⟨e, y⟩ := y
    subst e
    exact hs i x σ _ (y xs q) p
  · have e : i = xs.length := by omega
    subst e
    exact .inl ⟨⟨xs, q, Nat.le_refl _⟩, hd σ H p⟩
theorem for_range {lo : Int} {n : Nat} {g : TG} {tb : TS} {D : Ends} {σ : St} {H : Hp} (Pv : Nat → St → Hp → Prop) (h0 : Pv 0 σ H)
    (hs : ∀ i σ H, i < n → Pv i σ H → g (.int (lo + i)) σ H fun σ2 H2 => tb { D with nx := Pv (i + 1), ct := Pv (i + 1), bk := D.nx } σ2 H2) (hd : ∀ σ H, Pv n σ H → D.nx σ H) :
    ∃ W : Nat → Nat → St → Hp → Prop, (∃ m, W 0 m σ H) ∧ ∀ i m σ H, W i m σ H →
      ((Itr lo n).stop i H ∧ D.nx σ H) ∨ ((Itr lo n).go i H ∧ ∃ N : St → Hp → Prop, (∀ σ' H', N σ' H' → ∃ m', m' < m ∧ W (i + 1) m' σ' H') ∧ ∀ x H', (Itr lo n).yld i H x H' → g x σ H' fun σ2 H2 => tb { D with nx := N, ct := N, bk := D.nx } σ2 H2) := by
  refine ⟨fun i m σ H => m = n - i ∧ i ≤ n ∧ Pv i σ H, ⟨n, by simp, Nat.zero_le _, h0⟩, ?_⟩
  rintro i m σ H ⟨rfl, hi, p⟩
  by_cases hlt : i < n
  · refine .inr ⟨hlt, Pv (i + 1), fun σ' H' p' => ⟨n - (i + 1), by omega, rfl, hlt, p'⟩, fun x H' y => ?_⟩
    obtain ⟨e, y⟩ := y
    subst e y
    exact hs i σ _ hlt p
  · have e : i = n := by omega
    subst e
    exact .inl ⟨Nat.le_refl _, hd σ H p⟩
end L2
namespace L2
open PySem PySem.Spec PyProof.Rows
abbrev R2 := V → V → Hp → VK → Prop
def OpR (X : Cx) (f : Value → Value → Sem Value) (r : R2) : Prop :=
  ∀ (pins : List (Addr × Obj)) (s : Shared) (σ : St) (H : Hp) (x y : V) (v u : Value) (Q : VK), Inv X pins σ H s → RelV x v → RelV y u → r x y H Q →
    wpAny (model X.prog X.w) X.A (f v u) (EP X pins σ Q) X.xe s
def UnR (X : Cx) (f : Value → Sem Value) (r : V → Hp → VK → Prop) : Prop :=
  ∀ (pins : List (Addr × Obj)) (s : Shared) (σ : St) (H : Hp) (x : V) (v : Value) (Q : VK), Inv X pins σ H s → RelV x v → r x H Q →
    wpAny (model X.prog X.w) X.A (f v) (EP X pins σ Q) X.xe s
def CallR (X : Cx) (f : Value) (r : List V → Hp → VK → Prop) : Prop :=
  ∀ (pins : List (Addr × Obj)) (s : Shared) (σ : St) (H : Hp) (xs : List V) (us : List Value) (Q : VK), Inv X pins σ H s → Vals xs us → r xs H Q →
    wpAny (model X.prog X.w) X.A (call f us) (EP X pins σ Q) X.xe s
def TruR (X : Cx) (r : V → Hp → (Bool → Hp → Prop) → Prop) : Prop :=
  ∀ (pins : List (Addr × Obj)) (s : Shared) (σ : St) (H : Hp) (x : V) (v : Value) (Q : Bool → Hp → Prop), Inv X pins σ H s → RelV x v → r x H Q →
    wpAny (model X.prog X.w) X.A (truthy v) (TP X pins σ Q) X.xe s
def tOp (r : R2) (ta tb : TE) : TE := fun σ H Q => ta σ H fun x H1 => tb σ H1 fun y H2 => r x y H2 Q
def tUn (r : V → Hp → VK → Prop) (ta : TE) : TE := fun σ H Q => ta σ H fun x H1 => r x H1 Q
def rI (C : Int → Int → Prop) (g : Int → Int → V) : R2 := fun x y H Q => ∃ i j, x = .int i ∧ y = .int j ∧ C i j ∧ Q (g i j) H
def rI0 (g : Int → Int → V) : R2 := fun x y H Q => ∃ i j, x = .int i ∧ y = .int j ∧ Q (g i j) H
def rU (g : Int → V) : V → Hp → VK → Prop := fun x H Q => ∃ i, x = .int i ∧ Q (g i) H
section
variable {X : Cx} {a b c : Expr} {ta tb tc : TE} {pos : Pos}
theorem binT (ha : PE X a ta) (hb : PE X b tb) {pins : List (Addr × Obj)} {s : Shared} {σ : St} {H : Hp} {R : V → V → Hp → Prop} (I : Inv X pins σ H s)
    (h : ta σ H fun x H1 => tb σ H1 fun y H2 => R x y H2) {Q : Value → Shared → Prop} {f : Value → Value → Sem Value}
    (hf : ∀ v u s2 x y H2, Inv X pins σ H2 s2 → RelV x v → RelV y u → R x y H2 → wpAny (model X.prog X.w) X.A (f v u) Q X.xe s2) :
    wpAny (model X.prog X.w) X.A (eval a X.env) (fun v s₁ => wpAny (model X.prog X.w) X.A (eval b X.env) (fun u s₂ => wpAny (model X.prog X.w) X.A (f v u) Q X.xe s₂) X.xe s₁) X.xe s := by
  refine thn (ha pins s σ H _ I h) fun v s1 ⟨x, H1, I1, r1, q1⟩ => ?_
  refine thn (hb pins s1 σ H1 _ I1 q1) fun u s2 ⟨y, H2, I2, r2, q2⟩ => ?_
  exact hf v u s2 x y H2 I2 r1 r2 q2
theorem pe_op {op : Operator} {r : R2} (ho : OpR X (binaryOp op) r) (ha : PE X a ta) (hb : PE X b tb) : PE X (.BinOp a op b pos) (tOp r ta tb) := by
  intro pins s σ H Q I h
  exact wpAny_BinOp (binT ha hb I h fun v u s2 x y H2 I2 rx ry q => ho pins s2 σ H2 x y v u Q I2 rx ry q)
theorem pe_un {op : UnaryOp} {r : V → Hp → VK → Prop} (ho : UnR X (unaryOp op) r) (ha : PE X a ta) : PE X (.UnaryOp op a pos) (tUn r ta) := by
  intro pins s σ H Q I h
  exact UnaryOp_ (thn (ha pins s σ H _ I h) fun v s1 ⟨x, H1, I1, r1, q1⟩ => ho pins s1 σ H1 x v Q I1 r1 q1)
theorem opI {f : Value → Value → Sem Value} {C : Int → Int → Prop} {g : Int → Int → Int}
    (rule : ∀ (i j : Int) (t u : Tok) (s : Shared) (Q : Value → Shared → Prop) (E : Value → Shared → Prop), C i j → Q (.int (g i j) s.toks) { s with toks := s.toks + 1 } → wpAny (model X.prog X.w) X.A (f (.int i t) (.int j u)) Q E s) :
    OpR X f (rI C fun i j => .int (g i j)) := by
  intro pins s σ H x y v u Q I rx ry h
  obtain ⟨i, j, rfl, rfl, hc, q⟩ := h
  obtain ⟨t, rfl⟩ := rx
  obtain ⟨t', rfl⟩ := ry
  exact rule i j t t' s _ _ hc ⟨.int (g i j), H, I.tok _, ⟨_, rfl⟩, q⟩
theorem opI0 {f : Value → Value → Sem Value} {g : Int → Int → Int}
    (rule : ∀ (i j : Int) (t u : Tok) (s : Shared) (Q : Value → Shared → Prop) (E : Value → Shared → Prop), Q (.int (g i j) s.toks) { s with toks := s.toks + 1 } → wpAny (model X.prog X.w) X.A (f (.int i t) (.int j u)) Q E s) :
    OpR X f (rI0 fun i j => .int (g i j)) := by
  intro pins s σ H x y v u Q I rx ry h
  obtain ⟨i, j, rfl, rfl, q⟩ := h
  obtain ⟨t, rfl⟩ := rx
  obtain ⟨t', rfl⟩ := ry
  exact rule i j t t' s _ _ ⟨.int (g i j), H, I.tok _, ⟨_, rfl⟩, q⟩
theorem opB0 {f : Value → Value → Sem Value} {g : Int → Int → Bool}
    (rule : ∀ (i j : Int) (t u : Tok) (s : Shared) (Q : Value → Shared → Prop) (E : Value → Shared → Prop), Q (.bool (g i j)) s → wpAny (model X.prog X.w) X.A (f (.int i t) (.int j u)) Q E s) :
    OpR X f (rI0 fun i j => .bl (g i j)) := by
  intro pins s σ H x y v u Q I rx ry h
  obtain ⟨i, j, rfl, rfl, q⟩ := h
  obtain ⟨t, rfl⟩ := rx
  obtain ⟨t', rfl⟩ := ry
  exact rule i j t t' s _ _ ⟨.bl (g i j), H, I, rfl, q⟩
def CDiv (i j : Int) : Prop := 0 < j ∧ j < 1073741824
def CDivN (i j : Int) : Prop := j ≠ 0 ∧ j.natAbs < 1073741824
def CPow (i j : Int) : Prop := 0 ≤ j ∧ j ≤ 1000000 ∧ i.natAbs < 2 ^ 64
def CMul (i j : Int) : Prop := (-(2 ^ 64) < i ∧ i < 2 ^ 64) ∨ (-(2 ^ 64) < j ∧ j < 2 ^ 64)
theorem CMul.ok {i j : Int} (h : CMul i j) : IntMulOk i j := by
  rcases h with ⟨h1, h2⟩ | ⟨h1, h2⟩
  · exact .of_left (intBits_le_64 h1 h2)
  · exact .of_right (intBits_le_64 h1 h2)
theorem op_add : OpR X (binaryOp .Add) (rI0 fun i j => .int (i + j)) := opI0 fun _ _ _ _ _ _ _ q => add_int q
theorem op_sub : OpR X (binaryOp .Sub) (rI0 fun i j => .int (i - j)) := opI0 fun _ _ _ _ _ _ _ q => sub_int q
theorem op_mul : OpR X (binaryOp .Mult) (rI CMul fun i j => .int (i * j)) := opI fun _ _ _ _ _ _ _ hc q => mul_int q hc.ok
theorem op_fdiv : OpR X (binaryOp .FloorDiv) (rI CDiv fun i j => .int (i / j)) := opI fun i j _ _ _ _ _ hc q => by
  have h1 : (0 : Int) < j := hc.1
  have h2 : j < 1073741824 := hc.2
  exact floordiv_int (by omega) (by rw [Int.fdiv_eq_ediv_of_nonneg i (by omega)]; exact q) (.inl (PyProof.noPylong_small (by omega)))
theorem op_mod : OpR X (binaryOp .Mod) (rI (fun _ j => 0 < j) fun i j => .int (i % j)) := opI fun i j _ _ _ _ _ hc q => by
  have h1 : (0 : Int) < j := hc
  exact mod_int' (by omega) (by rw [Int.fmod_eq_emod_of_nonneg i (by omega)]; exact q)
theorem op_pow : OpR X (binaryOp .Pow) (rI CPow fun i j => .int (i ^ j.toNat)) := opI fun _ _ _ _ _ _ _ hc q => pow_int_small hc.1 hc.2.1 hc.2.2 q
theorem unI {f : Value → Sem Value} {g : Int → Int}
    (rule : ∀ (i : Int) (t : Tok) (s : Shared) (Q : Value → Shared → Prop) (E : Value → Shared → Prop), Q (.int (g i) s.toks) { s with toks := s.toks + 1 } → wpAny (model X.prog X.w) X.A (f (.int i t)) Q E s) :
    UnR X f (rU fun i => .int (g i)) := by
  intro pins s σ H x v Q I rx h
  obtain ⟨i, rfl, q⟩ := h
  obtain ⟨t, rfl⟩ := rx
  exact rule i t s _ _ ⟨.int (g i), H, I.tok _, ⟨_, rfl⟩, q⟩
theorem un_neg : UnR X (unaryOp .USub) (rU fun i => .int (-i)) := unI fun _ _ _ _ _ q => neg_int q
end
def scal : V → V → Bool
  | .non, .non => true | .non, .int _ => true | .int _, .non => true | .non, .bl _ => true | .bl _, .non => true | .non, .str _ => true | .str _, .non => true
  | .int _, .int _ => true | .bl _, .bl _ => true | .str _, .str _ => true | .byt _, .byt _ => true
  | .int _, .str _ => true | .str _, .int _ => true | .bl _, .str _ => true | .str _, .bl _ => true
  | _, _ => false
def rEq : R2 := fun x y H Q => scal x y = true ∧ Q (.bl (decide (x = y))) H
def rNe : R2 := fun x y H Q => scal x y = true ∧ Q (.bl (!decide (x = y))) H
theorem dec_int {i j : Int} : decide (V.int i = V.int j) = (i == j) := by
  rw [Bool.eq_iff_iff]
  simp
theorem dec_bl {i j : Bool} : decide (V.bl i = V.bl j) = (i == j) := by
  rw [Bool.eq_iff_iff]
  simp
theorem dec_str {i j : Str} : decide (V.str i = V.str j) = (i == j) := by
  rw [Bool.eq_iff_iff]
  simp
theorem dec_byt {i j : Array UInt8} : decide (V.byt i = V.byt j) = (i.toList == j.toList) := by
  rw [Bool.eq_iff_iff]
  cases i
  cases j
  simp
section
variable {X : Cx} {a b c : Expr} {ta tb tc : TE} {pos : Pos}
theorem fin_bl {pins : List (Addr × Obj)} {σ : St} {H : Hp} {s : Shared} {Q : VK} {k k' : Bool} (I : Inv X pins σ H s) (q : Q (.bl k) H) (e : k = k') : EP X pins σ Q (.bool k') s := by
  subst e
  exact ⟨.bl k, H, I, rfl, q⟩
theorem op_eq : OpR X (compareOp .Eq) rEq := by
  intro pins s σ H x y v u Q I rx ry h
  obtain ⟨hs, q⟩ := h
  cases x with
  | non =>
    cases rx
    cases y with
    | non => cases ry; exact PySem.EqNone.eq_none_none (fin_bl I q (by simp))
    | bl j => cases ry; exact PySem.EqNone.eq_none_bool (fin_bl I q (by simp))
    | int j => obtain ⟨t', rfl⟩ := ry; exact PySem.EqNone.eq_none_int (fin_bl I q (by simp))
    | str j => obtain ⟨t', rfl⟩ := ry; exact PySem.EqNone.eq_none_str (fin_bl I q (by simp))
    | _ => exact absurd (show false = true from hs) Bool.false_ne_true
  | bl i =>
    cases rx
    cases y with
    | non => cases ry; exact PySem.EqNone.eq_bool_none (fin_bl I q (by simp))
    | bl j => cases ry; exact eq_bool (fin_bl I q dec_bl)
    | str j => obtain ⟨t', rfl⟩ := ry; exact PySem.EqMixed.eq_bool_str (fin_bl I q (by simp))
    | _ => exact absurd (show false = true from hs) Bool.false_ne_true
  | int i =>
    obtain ⟨t, rfl⟩ := rx
    cases y with
    | non => cases ry; exact PySem.EqNone.eq_int_none (fin_bl I q (by simp))
    | int j => obtain ⟨t', rfl⟩ := ry; exact eq_int (fin_bl I q dec_int)
    | str j => obtain ⟨t', rfl⟩ := ry; exact PySem.EqMixed.eq_int_str (fin_bl I q (by simp))
    | _ => exact absurd (show false = true from hs) Bool.false_ne_true
  | str i =>
    obtain ⟨t, rfl⟩ := rx
    cases y with
    | non => cases ry; exact PySem.EqNone.eq_str_none (fin_bl I q (by simp))
    | bl j => cases ry; exact PySem.EqMixed.eq_str_bool (fin_bl I q (by simp))
    | int j => obtain ⟨t', rfl⟩ := ry; exact PySem.EqMixed.eq_str_int (fin_bl I q (by simp))
    | str j => obtain ⟨t', rfl⟩ := ry; exact eq_str (fin_bl I q dec_str)
    | _ => exact absurd (show false = true from hs) Bool.false_ne_true
  | byt i =>
    obtain ⟨t, rfl⟩ := rx
    cases y with
    | byt j => obtain ⟨t', rfl⟩ := ry; exact PySem.W.eq_bytes (fin_bl I q dec_byt)
    | _ => exact absurd (show false = true from hs) Bool.false_ne_true
  | _ => cases y <;> exact absurd (show false = true from hs) Bool.false_ne_true
theorem op_ne : OpR X (compareOp .NotEq) rNe := by
  intro pins s σ H x y v u Q I rx ry h
  obtain ⟨hs, q⟩ := h
  cases x with
  | non =>
    cases rx
    cases y with
    | non => cases ry; exact PySem.EqNone.ne_none_none (fin_bl I q (by simp))
    | bl j => cases ry; exact PySem.EqNone.ne_none_bool (fin_bl I q (by simp))
    | int j => obtain ⟨t', rfl⟩ := ry; exact PySem.EqNone.ne_none_int (fin_bl I q (by simp))
    | str j => obtain ⟨t', rfl⟩ := ry; exact PySem.EqNone.ne_none_str (fin_bl I q (by simp))
    | _ => exact absurd (show false = true from hs) Bool.false_ne_true
  | bl i =>
    cases rx
    cases y with
    | non => cases ry; exact PySem.EqNone.ne_bool_none (fin_bl I q (by simp))
    | bl j => cases ry; exact ne_bool (fin_bl I q (congrArg not dec_bl))
    | str j => obtain ⟨t', rfl⟩ := ry; exact PySem.EqMixed.ne_bool_str (fin_bl I q (by simp))
    | _ => exact absurd (show false = true from hs) Bool.false_ne_true
  | int i =>
    obtain ⟨t, rfl⟩ := rx
    cases y with
    | non => cases ry; exact PySem.EqNone.ne_int_none (fin_bl I q (by simp))
    | int j => obtain ⟨t', rfl⟩ := ry; exact ne_int (fin_bl I q (congrArg not dec_int))
    | str j => obtain ⟨t', rfl⟩ := ry; exact PySem.EqMixed.ne_int_str (fin_bl I q (by simp))
    | _ => exact absurd (show false = true from hs) Bool.false_ne_true
  | str i =>
    obtain ⟨t, rfl⟩ := rx
    cases y with
    | non => cases ry; exact PySem.EqNone.ne_str_none (fin_bl I q (by simp))
    | bl j => cases ry; exact PySem.EqMixed.ne_str_bool (fin_bl I q (by simp))
    | int j => obtain ⟨t', rfl⟩ := ry; exact PySem.EqMixed.ne_str_int (fin_bl I q (by simp))
    | str j => obtain ⟨t', rfl⟩ := ry; exact ne_str (fin_bl I q (congrArg not dec_str))
    | _ => exact absurd (show false = true from hs) Bool.false_ne_true
  | byt i =>
    obtain ⟨t, rfl⟩ := rx
    cases y with
    | byt j => obtain ⟨t', rfl⟩ := ry; exact PySem.W.ne_bytes (fin_bl I q (congrArg not dec_byt))
    | _ => exact absurd (show false = true from hs) Bool.false_ne_true
  | _ => cases y <;> exact absurd (show false = true from hs) Bool.false_ne_true
theorem op_lt : OpR X (compareOp .Lt) (rI0 fun i j => .bl (decide (i < j))) := opB0 fun _ _ _ _ _ _ _ q => lt_int q
theorem op_gt : OpR X (compareOp .Gt) (rI0 fun i j => .bl (decide (j < i))) := opB0 fun _ _ _ _ _ _ _ q => gt_int q
theorem op_ge : OpR X (compareOp .GtE) (rI0 fun i j => .bl (decide (j ≤ i))) := opB0 fun _ _ _ _ _ _ _ q => ge_int q
theorem op_isN : OpR X (compareOp .Is) (fun x y H Q => y = .non ∧ Q (.bl (decide (x = .non))) H) := by
  intro pins s σ H x y v u Q I rx ry h
  obtain ⟨rfl, q⟩ := h
  cases ry
  refine is_none_gen (fin_bl I q ?_)
  cases x <;> first
    | (cases rx; rfl)
    | (obtain ⟨t, rfl⟩ := rx; rfl)
def isObj : HO → Bool
  | .lst _ => true
  | .ins _ _ _ => true
  | _ => false
theorem nomark (b : Expr) {op : CmpOp} (h : op ≠ .In := by decide) (h2 : op ≠ .NotIn := by decide) : behindInMarks op b = false := by
  have e1 : (op == CmpOp.In) = false := by cases op <;> first | rfl | exact absurd rfl h
  have e2 : (op == CmpOp.NotIn) = false := by cases op <;> first | rfl | exact absurd rfl h2
  cases b <;> simp [behindInMarks, e1, e2]
theorem pe_cmpR {op : CmpOp} {r : R2} (ho : OpR X (compareOp op) r) (ha : PE X a ta) (hb : PE X b tb) (hm : behindInMarks op b = false) : PE X (.Compare a [op] [b] pos) (tOp r ta tb) := by
  intro pins s σ H Q I h
  exact wpAny_Compare1 (binT ha hb I h fun v u s2 x y H2 I2 rx ry q => ho pins s2 σ H2 x y v u Q I2 rx ry q) hm
def tTest (t : TE) : TT := fun σ H Q => t σ H fun x H' => ∃ k, x = .bl k ∧ Q k H'
theorem pt_cmpR {op : CmpOp} {r : R2} (ho : OpR X (compareOp op) r) (ha : PE X a ta) (hb : PE X b tb) (hm : behindInMarks op b = false) : PT X (.Compare a [op] [b] pos) (tTest (tOp r ta tb)) := by
  intro pins s σ H Q I h
  refine wpAny_isTrue_Compare1 (thn (ha pins s σ H _ I h) fun v s1 ⟨x, H1, I1, r1, q1⟩ => thn (hb pins s1 σ H1 _ I1 q1) fun u s2 ⟨y, H2, I2, r2, q2⟩ =>
    thn (ho pins s2 σ H2 x y v u _ I2 r1 r2 q2) fun c s3 ⟨z, H3, I3, r3, k, e, q3⟩ => ?_) hm
  subst e
  cases r3
  exact wpAny_truthy_bool ⟨H3, I3, q3⟩
def tChain (r r' : R2) (ta tb tc : TE) : TE := fun σ H Q => ta σ H fun x H1 => tb σ H1 fun y H2 => r x y H2 fun z H3 => ∃ k, z = .bl k ∧
  (if k = true then tc σ H3 fun w' H4 => r' y w' H4 Q else Q (.bl false) H3)
def TruV (K : PySem.W.Frag) (x : V) (H : Hp) (k : Bool) : Prop :=
  match x with
  | .non => k = false
  | .bl b => k = b
  | .int i => k = (i != 0)
  | .str y => y.length ≤ sizeLine ∧ k = ((y.length : Int) != 0)
  | .byt y => y.size ≤ sizeLine ∧ k = ((y.size : Int) != 0)
  | .ref p => (∃ xs, SqL K H p xs ∧ k = !xs.isEmpty) ∨ (∃ xs, SqT K H p xs ∧ k = !xs.isEmpty) ∨ ∃ kvs, H p = some (.dK kvs) ∧ k = !kvs.isEmpty
  | _ => False
theorem line63 : (sizeLine : Nat) < 2 ^ 63 := by rw [sizeLine_eq]; decide
def PlainIxT (b : Expr) : Prop := ∀ o i, subscripted b false o i = operate [o, i] (getItem o i)
theorem vals1 {x : V} {us : List Value} (r : Vals [x] us) : ∃ u, us = [u] ∧ RelV x u := by
  cases r with
  | cons r1 r2 => cases r2; exact ⟨_, rfl, r1⟩
theorem vals2 {x y : V} {us : List Value} (r : Vals [x, y] us) : ∃ u w', us = [u, w'] ∧ RelV x u ∧ RelV y w' := by
  cases r with
  | cons r1 r2 =>
    cases r2 with
    | cons r3 r4 => cases r4; exact ⟨_, _, rfl, r1, r3⟩
theorem call_abs : CallR X (.builtin "abs") (fun xs H Q => ∃ i, xs = [.int i] ∧ Q (.int (if i < 0 then -i else i)) H) := by
  intro pins s σ H xs us Q I r h
  obtain ⟨i, rfl, q⟩ := h
  obtain ⟨u, rfl, t, rfl⟩ := vals1 r
  exact call_abs_int fun u tk => ⟨.int (if i < 0 then -i else i), H, I.tok _, ⟨_, rfl⟩, q⟩
theorem call_max2 (hc : X.calm = true) : CallR X (.builtin "max") (fun xs H Q => ∃ i j, xs = [.int i, .int j] ∧ Q (.int (if j > i then j else i)) H) := by
  intro pins s σ H xs us Q I r h
  obtain ⟨i, j, rfl, q⟩ := h
  obtain ⟨u, w', rfl, ⟨t, rfl⟩, ⟨t', rfl⟩⟩ := vals2 r
  refine max_two_ints (I.ok.hd hc) fun h' tk k => ⟨_, H, I.kept k, ?_, q⟩
  by_cases hj : j > i
  · rw [if_pos hj, if_pos hj]; exact ⟨_, rfl⟩
  · rw [if_neg hj, if_neg hj]; exact ⟨_, rfl⟩
theorem call_min2 (hc : X.calm = true) : CallR X (.builtin "min") (fun xs H Q => ∃ i j, xs = [.int i, .int j] ∧ Q (.int (if j < i then j else i)) H) := by
  intro pins s σ H xs us Q I r h
  obtain ⟨i, j, rfl, q⟩ := h
  obtain ⟨u, w', rfl, ⟨t, rfl⟩, ⟨t', rfl⟩⟩ := vals2 r
  refine min_two_ints (I.ok.hd hc) fun h' tk k => ⟨_, H, I.kept k, ?_, q⟩
  by_cases hj : j < i
  · rw [if_pos hj, if_pos hj]; exact ⟨_, rfl⟩
  · rw [if_neg hj, if_neg hj]; exact ⟨_, rfl⟩
theorem call_int1 : CallR X (.type "int") (fun xs H Q => (∃ i, xs = [.int i] ∧ Q (.int i) H) ∨ ∃ k, xs = [.bl k] ∧ Q (.int (if k then 1 else 0)) H) := by
  intro pins s σ H xs us Q I r h
  rcases h with ⟨i, rfl, q⟩ | ⟨k, rfl, q⟩
  · obtain ⟨u, rfl, t, rfl⟩ := vals1 r
    exact call_int_int ⟨.int i, H, I, ⟨_, rfl⟩, q⟩
  · obtain ⟨u, rfl, r1⟩ := vals1 r
    cases r1
    exact call_int_bool ⟨.int (if k then 1 else 0), H, I.tok _, ⟨_, rfl⟩, q⟩
def LenV (K : PySem.W.Frag) (x : V) (H : Hp) (n : Nat) : Prop :=
  match x with
  | .str y => y.length ≤ sizeLine ∧ n = y.length
  | .byt y => y.size ≤ sizeLine ∧ n = y.size
  | .ref p => (∃ xs, SqL K H p xs ∧ n = xs.length) ∨ ∃ xs, SqT K H p xs ∧ n = xs.length
  | _ => False
end
end L2
namespace L2
open PySem PySem.Spec PyProof.Rows
structure ObjM (h : Heap) (x dx C : Addr) (mA : Str → Option Value) : Prop where
  obj : h.get? x = some (PySem.W.instObj C dx)
  ns : h.Ns1 dx mA
  ne : dx ≠ x
theorem lookIn_ns {h : Heap} {dx : Addr} {mA : Str → Option Value} (n : h.Ns1 dx mA) : ∃ od, h.get? dx = some od ∧ ∀ name, PySem.W.lookIn name od = some (mA name) := by
  obtain ⟨o, es, ep, ho, hd, hk, _, hm⟩ := n
  refine ⟨o, ho, fun name => ?_⟩
  have e := hm name
  unfold nsFind findBy at e
  rw [← Array.find?_toList] at e
  unfold PySem.W.lookIn
  rw [hd]
  dsimp only
  split
  · rename_i y q
    rw [q] at e
    exact congrArg some e
  · rename_i q
    rw [q] at e
    have a : es.toList.any (·.refKey) = false := by
      rw [List.any_eq_false]
      intro y hy
      obtain ⟨z, t, hkey⟩ := hk y (Array.mem_toList_iff.mp hy)
      simp [DictEntry.refKey, hkey]
    have a' : ¬ es.toList.any (·.refKey) = true := by rw [a]; exact Bool.false_ne_true
    rw [if_neg a']
    exact congrArg some e
theorem ObjM.look {h : Heap} {x dx C : Addr} {mA : Str → Option Value} (I : ObjM h x dx C mA) : ∃ od, PySem.W.InstAt h x (PySem.W.instObj C dx) C (some od) ∧ ∀ name, PySem.W.lookIn name od = some (mA name) :=
  let ⟨od, ho, hl⟩ := lookIn_ns I.ns
  ⟨od, ⟨I.obj, rfl, rfl, ho⟩, hl⟩
section
variable {prog : Program} {w : World} {A : Around} {E : Value → Shared → Prop} {s : Shared} {K : PySem.W.Frag} {x dx C f : Addr} {mA : Str → Option Value} {name : Str} {v : Value}
end
def putF (f : Str) (v : V) : List (Str × V) → List (Str × V)
  | [] => [(f, v)]
  | (g, x) :: r => if g = f then (g, v) :: r else (g, x) :: putF f v r
section
variable {P : Program} {w : World} {H H' : Hp} {h h' : Heap} {a C dx : Addr} {fs fs' : List (Str × V)}
theorem ins_get (hok : HOk P w H h) (e : H a = some (.ins C dx fs)) : ∃ mA, ObjM h a dx C mA ∧ (∀ f, RelO (fs.lookup f) (mA f)) ∧ PySem.Within mA (fs.map (·.1)) ∧ fs.length ≤ 1000 ∧ H dx = some (.own a) := by
  obtain ⟨d, z, ne, ob, mA, n, r, q⟩ := (show ObjOk P w H h a (.ins C dx fs) from hok a _ e)
  exact ⟨mA, ⟨ob, n, ne⟩, r, q, z, d⟩
end
structure Cls (K : PySem.W.Frag) (C : Addr) : Prop where
  pg : PySem.W.plainGet K C Str.empty = true
  hd : PySem.W.hasDictIn K C = true
  po : PySem.W.plainOver K C = true
  sa : PySem.W.findIn K (.ref C) "__setattr__" = some (some (.builtin "object.__setattr__"))
theorem Cls.get {K : PySem.W.Frag} {C : Addr} (c : Cls K C) (f : Str) : PySem.W.plainGet K C f = true := c.pg
def NoAttr (K : PySem.W.Frag) (C : Addr) (f : Str) : Prop := PySem.W.findIn K (.ref C) f = some none
structure Con (K : PySem.W.Frag) (C : Addr) (f : Str) (v : V) (u : Value) : Prop where
  at_ : PySem.W.findIn K (.ref C) f = some (some u)
  rel : RelV v u
  get : PySem.W.specialIn K u "__get__" = some none
  cp : PySem.W.copiedNames.contains f = false
structure Meth (K : PySem.W.Frag) (C : Addr) (m : Str) (f : Addr) : Prop where
  at_ : PySem.W.findIn K (.ref C) m = some (some (.ref f))
  fn : PySem.W.isFn K (.ref f) = true
  kp : PySem.W.keepIn K (.ref f) = true
section
variable {X : Cx} {pins : List (Addr × Obj)} {σ : St} {H : Hp} {s : Shared} {a C dx : Addr} {fs : List (Str × V)} {f : Str} {v : V} {A : Around} {E : Value → Shared → Prop}
end
def tFld (K : PySem.W.Frag) (ta : TE) (f : Str) : TE := fun σ H Q => ta σ H fun x H1 => ∃ a C dx fs v, x = .ref a ∧ H1 a = some (.ins C dx fs) ∧ Cls K C ∧ NoAttr K C f ∧ fs.lookup f = some v ∧ Q v H1
def tCon (K : PySem.W.Frag) (ta : TE) (f : Str) : TE := fun σ H Q => ta σ H fun x H1 => ∃ a C dx fs v u, x = .ref a ∧ H1 a = some (.ins C dx fs) ∧ Cls K C ∧ Con K C f v u ∧ fs.lookup f = none ∧ Q v H1
def sFld (K : PySem.W.Frag) (ta tv : TE) (f : Str) : TS := fun D σ H => tv σ H fun y H1 => ta σ H1 fun x H2 => ∃ a C dx fs, x = .ref a ∧ H2 a = some (.ins C dx fs) ∧ Cls K C ∧ NoAttr K C f ∧ fs.length < 1000 ∧
  D.nx σ (upd H2 a (.ins C dx (putF f y fs)))
def InOp (X : Cx) (op : Operator) (rd : V → V → Hp → VK → Prop) : Prop :=
  ∀ (pins : List (Addr × Obj)) (s : Shared) (σ : St) (H : Hp) (x y : V) (u v : Value) (Q : VK), Inv X pins σ H s → RelV x u → RelV y v → rd x y H Q → wpAny (model X.prog X.w) X.A (inplaceOp op u v) (EP X pins σ Q) X.xe s
def sFldAug (K : PySem.W.Frag) (ta tv : TE) (rd : V → V → Hp → VK → Prop) (f : Str) : TS := fun D σ H => ta σ H fun x H1 => ∃ a C dx fs v, x = .ref a ∧ H1 a = some (.ins C dx fs) ∧ Cls K C ∧ NoAttr K C f ∧ fs.lookup f = some v ∧
  tv σ H1 fun y H2 => rd v y H2 fun z H3 => ∃ dx' fs', H3 a = some (.ins C dx' fs') ∧ fs'.length < 1000 ∧ D.nx σ (upd H3 a (.ins C dx' (putF f z fs')))
section
variable {X : Cx} {o e value : Expr} {f : Str} {pos pos' tpos : Pos} {ta tv : TE}
def rAdd : V → V → Hp → VK → Prop := fun x y H Q => ∃ i j, x = .int i ∧ y = .int j ∧ Q (.int (i + j)) H
def rSub : V → V → Hp → VK → Prop := fun x y H Q => ∃ i j, x = .int i ∧ y = .int j ∧ Q (.int (i - j)) H
end
section
variable {X : Cx} {pins : List (Addr × Obj)} {σ : St} {H : Hp} {s : Shared} {A : Around} {E : Value → Shared → Prop} {Q : Value → Shared → Prop} {c : Value} {b : Bool}
inductive TyOf (K : PySem.W.Frag) (H : Hp) : V → Value → Prop where
  | non : TyOf K H .non (.type "NoneType")
  | bl (x : Bool) : TyOf K H (.bl x) (.type "bool")
  | int (i : Int) : TyOf K H (.int i) (.type "int")
  | str (x : Str) : TyOf K H (.str x) (.type "str")
  | flt (x : UInt64) : TyOf K H (.flt x) (.type "float")
  | lst {a : Addr} {xs : List V} (e : H a = some (.lst xs)) : TyOf K H (.ref a) (.type "list")
  | frz {a : Addr} {o : Obj} {xs : List V} (e : H a = some (.frz o (.lst xs))) : TyOf K H (.ref a) (.type "list")
  | tup {a : Addr} {xs : List V} (e : H a = some (.tup xs)) : TyOf K H (.ref a) (.type "tuple")
  | dK {a : Addr} {kvs : List (Key × V)} (e : H a = some (.dK kvs)) : TyOf K H (.ref a) (.type "dict")
  | dT {a : Addr} {kvs : List (List Key × V)} (e : H a = some (.dT kvs)) : TyOf K H (.ref a) (.type "dict")
  | ins {a C dx : Addr} {fs : List (Str × V)} (e : H a = some (.ins C dx fs)) (cl : Cls K C) (ha : PySem.W.findIn K (.ref C) "__class__" = some (some (.builtin "object.__class__")))
      (hn : PySem.W.specialIn K (.builtin "object.__class__") "__get__" = some (some (.builtin "getset_descriptor.__get__"))) (htk : PySem.W.takesIn K (.builtin "object.__class__") = some true)
      (hm : PySem.W.mroIn K C (.type "object") = some true) : TyOf K H (.ref a) (.ref C)
theorem isinst_ok {x : V} {u t : Value} (I : Inv X pins σ H s) (rx : RelV x u) (ty : TyOf X.K H x t) (e : PySem.W.kitOne X.K t c = some b) (h : ∀ tk, Q (.bool b) { s with toks := tk }) :
    wpAny (model X.prog X.w) A (call (.builtin "isinstance") [u, c]) Q E s := by
  cases ty with
  | non => cases (show u = Value.none from rx); exact PySem.W.kia_one PySem.W.kitx_none I.kIn True.intro e (fun z => nomatch z) h
  | bl y => cases (show u = Value.bool y from rx); exact PySem.W.kia_one PySem.W.kitx_bool I.kIn True.intro e (fun z => nomatch z) h
  | int i => obtain ⟨t, q⟩ := (show ∃ t, u = Value.int i t from rx); cases q; exact PySem.W.kia_one PySem.W.kitx_int I.kIn True.intro e (fun z => nomatch z) h
  | str y => obtain ⟨t, q⟩ := (show ∃ t, u = Value.str y t from rx); cases q; exact PySem.W.kia_one PySem.W.kitx_str I.kIn True.intro e (fun z => nomatch z) h
  | flt y => obtain ⟨t, q⟩ := (show ∃ t, u = Value.float y t from rx); cases q; exact PySem.W.kia_one PySem.W.kitx_float I.kIn True.intro e (fun z => nomatch z) h
  | @lst a xs ea =>
    cases (show u = Value.ref a from rx)
    obtain ⟨_, _, n, _, h1⟩ := (show ObjOk X.prog X.w H s.heap a (.lst xs) from I.hok a _ ea)
    exact PySem.W.kia_one PySem.W.kitx_list I.kIn ⟨_, h1, rfl⟩ e (fun z => nomatch z) h
  | @frz a ob xs ea =>
    cases (show u = Value.ref a from rx)
    obtain ⟨_, _, _, n, _, h1⟩ := (show ObjOk X.prog X.w H s.heap a (.frz ob (.lst xs)) from I.hok a _ ea)
    exact PySem.W.kia_one PySem.W.kitx_list I.kIn ⟨_, h1, rfl⟩ e (fun z => nomatch z) h
  | @tup a xs ea =>
    cases (show u = Value.ref a from rx)
    obtain ⟨_, _, _, p⟩ := (show ObjOk X.prog X.w H s.heap a (.tup xs) from I.hok a _ ea)
    obtain ⟨o, h1, h2, _⟩ := p
    exact PySem.W.kia_one PySem.W.kitx_tuple I.kIn ⟨o, h1, h2⟩ e (fun z => nomatch z) h
  | @dK a kvs ea =>
    cases (show u = Value.ref a from rx)
    obtain ⟨_, _, vs, _, p⟩ := (show ObjOk X.prog X.w H s.heap a (.dK kvs) from I.hok a _ ea)
    obtain ⟨o, es, ep, h1, h2, _⟩ := p
    exact PySem.W.kia_one PySem.W.kitx_dict I.kIn ⟨o, h1, h2.1⟩ e (fun z => nomatch z) h
  | @dT a kvs ea =>
    cases (show u = Value.ref a from rx)
    obtain ⟨_, _, xs, _, o, es, ep, h1, h2, _⟩ := (show ObjOk X.prog X.w H s.heap a (.dT kvs) from I.hok a _ ea)
    exact PySem.W.kia_one PySem.W.kitx_dict I.kIn ⟨o, h1, h2.1⟩ e (fun z => nomatch z) h
  | @ins a C dx fs ea cl ha hn htk hm =>
    cases (show u = Value.ref a from rx)
    obtain ⟨mA, O, _⟩ := ins_get I.hok ea
    obtain ⟨od, J, _⟩ := O.look
    exact PySem.W.kia_one (PySem.W.kitx_own (cl.get _) cl.hd ha hn htk hm) I.kIn J e (fun z => nomatch z) h
end
end L2
namespace L2
open PySem PySem.Spec PyProof.Rows
structure Room (k : Nat) (A : Around) : Prop where
  hd : A.handled = none
  dp : A.depth + 3 * k + 5 < recursionLimit
  un : A.units + 16 * k + 200 < cLine
  gd : A.guards = some []
theorem Room.mono {j k : Nat} {A : Around} (r : Room k A) (h : j ≤ k) : Room j A := ⟨r.hd, by have := r.dp; omega, by have := r.un; omega, r.gd⟩
theorem Room.deeper {k : Nat} {A : Around} (r : Room (k + 1) A) (env : Env) : Room k (A.deeper env) :=
  ⟨r.hd, by have := r.dp; show A.depth + 1 + 3 * k + 5 < _; omega, by have := r.un; show A.units + 3 + 16 * k + 200 < _; omega, r.gd⟩
theorem Room.depth {k : Nat} {A : Around} (r : Room k A) : A.depth < recursionLimit := by have := r.dp; omega
theorem Room.units {k : Nat} {A : Around} (r : Room k A) : A.units + 64 < cLine := by have := r.un; omega
def tNil : TA := fun _ H Q => Q [] H
def tCons (ta : TE) (tr : TA) : TA := fun σ H Q => ta σ H fun x H1 => tr σ H1 fun xs H2 => Q (x :: xs) H2
section
variable {X : Cx} {e : Expr} {es : List Expr} {te : TE} {t : TA} {pos : Pos}
theorem pa_nil : PA X [] tNil := fun _ _ _ _ H Q I h => Calls.spliced_nil ⟨[], H, I, .nil, h⟩
theorem pa_cons (ha : PE X e te) (hr : PA X es t) (hs : starEach (e :: es) X.env = (false, eval e X.env) :: starEach es X.env := by rfl) : PA X (e :: es) (tCons te t) := by
  intro pos pins s σ H Q I h
  rw [hs]
  show wpAny _ _ (spliced ((false, eval e X.env) :: backTo pos (starEach es X.env))) _ _ s
  refine Calls.spliced_cons (thn (ha pins s σ H _ I h) fun u s1 ⟨x, H1, I1, r1, q1⟩ => ?_)
  exact thn (hr pos pins s1 σ H1 _ I1 q1) fun us s2 ⟨xs, H2, I2, r2, q2⟩ => ⟨x :: xs, H2, I2, .cons r1 r2, q2⟩
def tTup (t : TA) : TE := fun σ H Q => t σ H fun xs H1 => xs.length ≤ sizeLine ∧ ∀ p, H1 p = none → Q (.ref p) (upd H1 p (.tup xs))
def tLst (t : TA) : TE := fun σ H Q => t σ H fun xs H1 => xs.length ≤ sizeLine ∧ ∀ p, H1 p = none → Q (.ref p) (upd H1 p (.lst xs))
theorem pe_tup {x1} (h : PA X es t) : PE X (.Tuple es x1 pos) (tTup t) := by
  intro pins s σ H Q I hq
  refine wpAny_Tuple_spliced (thn (h pos pins s σ H _ I hq) fun us s1 ⟨xs, H1, I1, r, z, q⟩ => ⟨by rw [← r.length]; exact z, ?_⟩)
  have hf : H1 s1.heap.objs.size = none := I1.hok.fresh (Nat.le_refl _)
  refine ⟨.ref s1.heap.objs.size, upd H1 s1.heap.objs.size (.tup xs), I1.laid (t' := s1.toks) (fun b u e => Heap.get?_push_of_some _ e) (Nat.le_refl _) ?_, rfl, q _ hf⟩
  exact ⟨z, us, r, ⟨_, Heap.get?_push_size _ rfl, rfl, _, rfl⟩⟩
theorem pe_lst (h : PA X es t) : PE X (.List es pos) (tLst t) := by
  intro pins s σ H Q I hq
  refine wpAny_List_spliced (thn (h pos pins s σ H _ I hq) fun us s1 ⟨xs, H1, I1, r, z, q⟩ => ⟨by rw [← r.length]; exact z, ?_⟩)
  have hf : H1 s1.heap.objs.size = none := I1.hok.fresh (Nat.le_refl _)
  refine ⟨.ref s1.heap.objs.size, upd H1 s1.heap.objs.size (.lst xs), I1.laid (t' := s1.toks) (fun b u e => Heap.get?_push_of_some _ e) (Nat.le_refl _) ?_, rfl, q _ hf⟩
  exact ⟨z, us, 0, r, Heap.get?_push_size _ rfl⟩
end
abbrev Sp := List V → Hp → VK → XK → Prop
abbrev CXT := List Env → Hp → Shared → XK → Value → Shared → Prop
structure Env0 (P : Program) (w : World) (K : PySem.W.Frag) (mg : Str → Option Value) (base : Heap) (A : Around) (outer : List Env) (s : Shared) (H : Hp) : Prop where
  frames : A.frames = some outer
  mod : Mod K mg base
  bs : ∀ b o, base.get? b = some o → s.heap.get? b = some o ∧ H b = none
  bsz : base.objs.size ≤ s.heap.objs.size
  funs : s.heap.FunFrames base outer
  frf : ∀ b ∈ frs outer, H b = none
  hok : HOk P w H s.heap
  bare : AllBare s.gens
def CE (outer : List Env) (P : Program) (w : World) (H : Hp) (s : Shared) (Q : VK) (u : Value) (s' : Shared) : Prop :=
  ∃ v H', s'.os = s.os ∧ AllBare s'.gens ∧ Un (frs outer) [] H H' s.heap s'.heap ∧ HOk P w H' s'.heap ∧ RelV v u ∧ Q v H'
def CR (CX : CXT) (outer : List Env) (P : Program) (w : World) (H : Hp) (s : Shared) (Q : VK) (E : XK) (r : Result) (s' : Shared) : Prop :=
  match r with
  | .ok (.ret u) => CE outer P w H s Q u s'
  | .ok _ => False
  | .error e => CX outer H s E e s'
structure FnOk (P : Program) (w : World) (K : PySem.W.Frag) (mg : Str → Option Value) (base : Heap) (CX : CXT) (k : Nat) (f : Addr) (fd : FuncData) (ps : List Str) (sp : Sp) : Prop where
  len : ∀ vs H Q E, sp vs H Q E → vs.length = ps.length
  run : ∀ (A : Around) (outer : List Env) (s : Shared) (H : Hp) (args : Args) (us : List Value) (vs : List V) (Q : VK) (E : XK), Room k A → Env0 P w K mg base A outer s H → BindsTo s fd args (ps.zip us) → Vals vs us → sp vs H Q E →
    codeAny (model P w) A (.call (.ref f) args) (CR CX outer P w H s Q E) s
section
variable {X : Cx} {pins : List (Addr × Obj)} {σ : St} {H : Hp} {s s' : Shared}
theorem Inv.env0 (I : Inv X pins σ H s) : Env0 X.prog X.w X.K X.mg X.base X.A X.stack s H :=
  ⟨I.ok.frames, I.ok.mod, I.bs, Nat.le_trans I.ok.bsz I.sz, I.stack, I.stkFree, I.hok, I.bare⟩
theorem Inv.after {Q : VK} {u : Value} (I : Inv X pins σ H s) (h : CE X.stack X.prog X.w H s Q u s') : EP X pins σ Q u s' := by
  obtain ⟨v, H', os, bare, un, hok, r, q⟩ := h
  obtain ⟨hh, g, d, t, os'⟩ := s'
  obtain rfl : os' = s.os := os
  exact ⟨v, H', I.call (h' := hh) (g' := g) (d' := d) (t' := t) (ch := []) un hok bare (fun b z => absurd z (by simp)), r, q⟩
end
def tCall (sp : Sp) (dvs : List V) (E : XK) (t : TA) : TE := fun σ H Q => t σ H fun vs H1 => sp (vs ++ dvs) H1 Q E
def tMeth (C : Addr) (m : Str) (sp : Sp) (dvs : List V) (E : XK) (ta : TE) (t : TA) : TE := fun σ H Q => ta σ H fun x H1 => ∃ a dx fs, x = .ref a ∧ H1 a = some (.ins C dx fs) ∧ fs.lookup m = none ∧
  t σ H1 fun vs H2 => sp (x :: (vs ++ dvs)) H2 Q E
def tMake (C : Addr) (sp : Sp) (dvs : List V) (E : XK) (t : TA) : TE := fun σ H Q => t σ H fun vs H1 => ∀ x dx, H1 x = none → H1 dx = none → dx ≠ x →
  sp (.ref x :: (vs ++ dvs)) (upd (upd H1 dx (.own x)) x (.ins C dx [])) (fun v H2 => v = .non ∧ Q (.ref x) H2) E
def Binds (K : PySem.W.Frag) (fd : FuncData) (ps : List Str) (ds : List Value) : Prop :=
  ∀ (s : Shared) (us : List Value), K.In s.heap → (us ++ ds).length = ps.length → BindsTo s fd ⟨us, []⟩ (ps.zip (us ++ ds))
theorem Binds.all {K : PySem.W.Frag} {fd : FuncData} {ps : List Str} (h : ∀ us : List Value, us.length = ps.length → bindArgs fd ⟨us, []⟩ = pure (ps.zip us)) : Binds K fd ps [] := fun s us _ hl => by
  rw [List.append_nil] at hl ⊢
  exact .of_eq (h us hl)
def Passes (CX : CXT) (X : Cx) (E : XK) : Prop := ∀ (pins : List (Addr × Obj)) (σ : St) (H : Hp) (s : Shared) (e : Value) (s' : Shared), Inv X pins σ H s → CX X.stack H s E e s' → X.xe e s'
section
variable {X : Cx} {CX : CXT} {k : Nat} {f C : Addr} {fd : FuncData} {ps : List Str} {sp : Sp} {dvs : List V} {ds : List Value} {E : XK} {x m : Str} {p pos apos : Pos} {e o : Expr} {es : List Expr} {ta : TE} {t : TA}
theorem run_fn {pins : List (Addr × Obj)} {σ : St} {H : Hp} {s : Shared} {Q : VK} {us : List Value} {vs : List V} (F : FnOk X.prog X.w X.K X.mg X.base CX k f fd ps sp) (hr : Room k X.A) (hb : Binds X.K fd ps ds) (hd : Vals dvs ds) (hx : Passes CX X E)
    (I : Inv X pins σ H s) (r : Vals vs us) (h : sp (vs ++ dvs) H Q E) : wpAny (model X.prog X.w) X.A (call (.ref f) us) (EP X pins σ Q) X.xe s := by
  have r2 : Vals (vs ++ dvs) (us ++ ds) := r.append hd
  have hl : (us ++ ds).length = ps.length := by rw [← r2.length]; exact F.len _ _ _ _ h
  refine wpAny_call (codeAny_mono (F.run X.A X.stack s H ⟨us, []⟩ (us ++ ds) (vs ++ dvs) Q E hr I.env0 (hb s us I.kIn hl) r2 h) fun r s' hq => ?_)
  cases r with
  | error e => exact hx pins σ H s e s' I hq
  | ok fl =>
    cases fl with
    | ret u => exact I.after hq
    | next => exact False.elim hq
    | brk => exact False.elim hq
    | cont => exact False.elim hq
theorem pe_call (F : FnOk X.prog X.w X.K X.mg X.base CX k f fd ps sp) (hr : Room k X.A) (hg : Gl X x) (hm : X.mg x = some (.ref f)) (hk : PySem.W.keepIn X.K (.ref f) = true) (hb : Binds X.K fd ps ds) (hd : Vals dvs ds) (hx : Passes CX X E)
    (ha : PA X (e :: es) t) (hdb : (x == ("__debug__" : Str)) = false := by decide) (he : starEach (e :: es) X.env = (false, eval e X.env) :: starEach es X.env := by rfl) (hpl : (backTo pos (starEach es X.env)).any (·.1) = false := by rfl) :
    PE X (.Call (.Name x p) (e :: es) [] pos) (tCall sp dvs E t) := by
  intro pins s σ H Q I h
  refine wpAny_Call_Name_kw (ld_glob I hg hm ?_ hdb)
  refine PySem.W.callWith_K (h₀ := X.base) I.ok.mod.kin hk (thn (ha pos pins s σ H _ I h) fun us s1 ⟨vs, H1, I1, r, q⟩ => ⟨I1.kIn, ?_⟩) he hpl
  exact run_fn F hr hb hd hx I1 r q
structure Mk (K : PySem.W.Frag) (C f : Addr) : Prop where
  makes : PySem.W.makesIn K C = true
  init : PySem.W.findIn K (.ref C) "__init__" = some (some (.ref f))
  fn : PySem.W.isFn K (.ref f) = true
  kp : PySem.W.keepIn K (.ref C) = true
end
def PK (X : Cx) (kws : List Keyword) (t : TA) : Prop :=
  ∀ (pos : Pos) (pins : List (Addr × Obj)) (s : Shared) (σ : St) (H : Hp) (Q : List V → Hp → Prop), Inv X pins σ H s → t σ H Q → wpAny (model X.prog X.w) X.A (evalAll ((backToKw pos (keywordEach kws X.env)).map (·.2))) (AP X pins σ Q) X.xe s
section
variable {X : Cx} {CX : CXT} {k : Nat} {f C : Addr} {fd : FuncData} {ps ks : List Str} {sp : Sp} {E : XK} {x m : Str} {p pos apos kpos : Pos} {e o : Expr} {es : List Expr} {kws : List Keyword} {te ta : TE} {t tk : TA} {nm : Option Str}
structure KBinds (K : PySem.W.Frag) (fd : FuncData) (ps ks : List Str) (g : List Value → List Value → List Value) (gV : List V → List V → List V) : Prop where
  to : ∀ (s : Shared) (us ws : List Value), K.In s.heap → (g us ws).length = ps.length → BindsTo s fd ⟨us, ks.zip ws⟩ (ps.zip (g us ws))
  rel : ∀ {vs : List V} {us : List Value} {zs : List V} {ws : List Value}, Vals vs us → Vals zs ws → Vals (gV vs zs) (g us ws)
def tCallK (sp : Sp) (gV : List V → List V → List V) (E : XK) (t tk : TA) : TE := fun σ H Q => t σ H fun vs H1 => tk σ H1 fun zs H2 => sp (gV vs zs) H2 Q E
variable {g : List Value → List Value → List Value} {gV : List V → List V → List V}
end
structure FnScope (N P : List Str) (sc : Scope) : Prop where
  kind : sc.kind = .function
  co : sc.isCoroutine = false
  gen : sc.isGenerator = false
  nd : N.Nodup
  pre : N.take P.length = P
  par : ∀ x ∈ P, sc.names.lookup x = some .local ∨ sc.names.lookup x = some .cell
  nofree : ∀ y ∈ sc.names, y.2 ≠ .free
theorem bindL_out {kindOf : Str → Option NameKind} {x : Str} : ∀ {binds : List (Str × Value)} {m : Str → Option Value}, (∀ v, (x, v) ∉ binds) → bindL kindOf binds m x = m x
  | [], _, _ => rfl
  | (n, v) :: r, m, h => by
    unfold bindL
    rw [bindL_out fun w hw => h w (List.mem_cons_of_mem _ hw)]
    split
    · have : x ≠ n := by rintro rfl; exact h v List.mem_cons_self
      simp [this]
    · rfl
theorem bindC_out {kindOf : Str → Option NameKind} {x : Str} : ∀ {binds : List (Str × Value)} {m : Str → Option Value}, (∀ v, (x, v) ∉ binds) → bindC kindOf binds m x = m x
  | [], _, _ => rfl
  | (n, v) :: r, m, h => by
    unfold bindC
    rw [bindC_out fun w hw => h w (List.mem_cons_of_mem _ hw)]
    split
    · rfl
    · have : x ≠ n := by rintro rfl; exact h v List.mem_cons_self
      simp [this]
theorem bindL_get {kindOf : Str → Option NameKind} {x : Str} {v : Value} : ∀ {P : List Str} {vs : List Value} {i : Nat} {m : Str → Option Value}, P.Nodup → P[i]? = some x → vs[i]? = some v → kindOf x = some .local →
    bindL kindOf (P.zip vs) m x = some v
  | [], _, _, _, _, h, _, _ => by simp at h
  | _ :: _, [], _, _, _, _, h, _ => by simp at h
  | p :: P, w :: vs, 0, m, nd, h1, h2, hk => by
    simp at h1 h2; subst h1; subst h2
    show bindL kindOf ((p, w) :: P.zip vs) m p = _
    unfold bindL
    rw [bindL_out fun v hv => (List.nodup_cons.mp nd).1 (List.of_mem_zip hv).1, if_pos hk]
    simp
  | p :: P, w :: vs, i + 1, m, nd, h1, h2, hk => by
    show bindL kindOf ((p, w) :: P.zip vs) m x = _
    unfold bindL
    exact bindL_get (i := i) (List.nodup_cons.mp nd).2 (by simpa using h1) (by simpa using h2) hk
theorem bindC_get {kindOf : Str → Option NameKind} {x : Str} {v : Value} : ∀ {P : List Str} {vs : List Value} {i : Nat} {m : Str → Option Value}, P.Nodup → P[i]? = some x → vs[i]? = some v → kindOf x ≠ some .local →
    bindC kindOf (P.zip vs) m x = some v
  | [], _, _, _, _, h, _, _ => by simp at h
  | _ :: _, [], _, _, _, _, h, _ => by simp at h
  | p :: P, w :: vs, 0, m, nd, h1, h2, hk => by
    simp at h1 h2; subst h1; subst h2
    show bindC kindOf ((p, w) :: P.zip vs) m p = _
    unfold bindC
    rw [bindC_out fun v hv => (List.nodup_cons.mp nd).1 (List.of_mem_zip hv).1, if_neg hk]
    simp
  | p :: P, w :: vs, i + 1, m, nd, h1, h2, hk => by
    show bindC kindOf ((p, w) :: P.zip vs) m x = _
    unfold bindC
    exact bindC_get (i := i) (List.nodup_cons.mp nd).2 (by simpa using h1) (by simpa using h2) hk
def start (N : List Str) (vs : List V) : St := vs.map some ++ List.replicate (N.length - vs.length) none
def cxOf (CX : CXT) (P : Program) (w : World) (K : PySem.W.Frag) (mg : Str → Option Value) (base : Heap) (N : List Str) (qual : Str) (scope : Scope) (f : Addr) (cd : Value) (A : Around) (outer : List Env) (s : Shared) (H : Hp) (E : XK) : Cx where
  prog := P
  w := w
  K := K
  mg := mg
  base := base
  A := A.deeper (envOfC qual scope s.heap.objs.size f cd)
  N := N
  s₀ := s
  H₀ := H
  env := envOfC qual scope s.heap.objs.size f cd
  outer := outer
  stack := envOfC qual scope s.heap.objs.size f cd :: outer
  ex := []
  calm := true
  fn := fun _ => true
  pn := []
  xe := fun e s' => wpAny (model P w) (A.deeper (envOfC qual scope s.heap.objs.size f cd)) (leaving (envOfC qual scope s.heap.objs.size f cd) e) (fun _ s'' => CX outer H s E e s'') (fun e' s'' => CX outer H s E e' s'') s'
theorem cell_has {sc : Scope} {n : Nat} {x : Str} (h : sc.names.lookup x = some .cell) : ∃ c, (cellsFrom n sc.names []).lookup x = some c := by
  have q := PySem.W.cellsFrom_some sc.names n [] (.inl h)
  exact Option.isSome_iff_exists.mp q
theorem inv_start {CX : CXT} {P : Program} {w : World} {K : PySem.W.Frag} {mg : Str → Option Value} {base : Heap} {N ps : List Str} {qual : Str} {scope : Scope} {f : Addr} {cd : Value} {A : Around} {outer : List Env} {s s1 : Shared} {H : Hp} {E : XK} {us : List Value} {vs : List V}
    (S : FnScope N ps scope) (hd : A.handled = none) (e0 : Env0 P w K mg base A outer s H) (hl : vs.length = ps.length) (r : Vals vs us)
    (x : InCallC s s.heap.objs.size (bindL (envOfC qual scope s.heap.objs.size f cd).kindOf (ps.zip us) fun _ => none) (cellsFrom (s.heap.objs.size + 1) scope.names []) (bindC (envOfC qual scope s.heap.objs.size f cd).kindOf (ps.zip us) fun _ => none) s1) :
    Inv (cxOf CX P w K mg base N qual scope f cd A outer s H E) [] (start N vs) H s1 := by
  have hpl : ps.length ≤ N.length := by have := congrArg List.length S.pre; rw [List.length_take] at this; omega
  obtain ⟨h1, tk, rfl, hk⟩ := x.done
  have noA : ∀ b : Addr, b ∉ (cxOf CX P w K mg base N qual scope f cd A outer s H E).ex := fun b z => absurd (show b ∈ ([] : List Addr) from z) (by simp)
  refine ⟨⟨e0.mod, S.kind, rfl, rfl, Nat.le_refl _, fun y z c h1 h2 => ?_, fun y hy => ?_, fun y c _ h => ?_, fun _ => hd, Around.frames_deeper e0.frames, .inr ⟨rfl, rfl⟩, fun b z => absurd z (noA b), e0.bs, e0.bsz, fun b _ _ => noA b, fun b z => absurd z (noA b), e0.funs, e0.frf⟩,
    rfl, e0.bare, Un.kept hk, ⟨_, x.toInCall.ns, fun i y v h1 h2 h3 => ?_⟩, fun y c h => ⟨_, x.cell y c h⟩, e0.hok.fresh (Nat.le_refl _), fun y c h => ?_, fun p hp => absurd (show p ∈ ([] : List (Addr × Obj)) from hp) (by simp), e0.hok.kept hk, ?_⟩
  · exact name_of_addr x.apart (PySem.mem_of_lookup h1) (PySem.mem_of_lookup h2)
  · have hy : scope.names.lookup y = some .cell ∨ scope.names.lookup y = some .free := hy
    rcases hy with hy | hy
    · exact cell_has hy
    · exact absurd rfl (S.nofree _ (PySem.mem_of_lookup hy))
  · exact Nat.le_of_lt (x.above y c (PySem.mem_of_lookup h))
  · have hi : i < vs.length := by
      unfold start at h2
      by_cases hi : i < vs.length
      · exact hi
      · rw [List.getElem?_append_right (by simpa using hi)] at h2
        rw [List.getElem?_replicate] at h2
        split at h2 <;> cases h2
    have ha : vs[i]? = some v := by
      unfold start at h2
      rw [List.getElem?_append_left (by simpa using hi), List.getElem?_map] at h2
      cases e : vs[i]? with
      | none => rw [e] at h2; cases h2
      | some a => rw [e] at h2; cases h2; rfl
    obtain ⟨u, hu, rv⟩ := r.get ha
    have hp : ps[i]? = some y := by
      rw [← S.pre, List.getElem?_take_of_lt (by omega)]; exact h1
    have ndP : ps.Nodup := by rw [← S.pre]; exact S.nd.sublist (List.take_sublist _ _)
    refine ⟨u, rv, ?_⟩
    rcases S.par y (List.mem_of_getElem? hp) with k | k
    · exact .inl ⟨k, bindL_get ndP hp hu k⟩
    · obtain ⟨c, e⟩ := cell_has (n := s.heap.objs.size + 1) k
      refine .inr ⟨.inl k, c, e, ?_⟩
      have q := x.cell y c e
      rw [bindC_get ndP hp hu (by show scope.names.lookup y ≠ _; rw [k]; decide)] at q
      exact q
  · exact e0.hok.fresh (Nat.le_of_lt (x.above y c (PySem.mem_of_lookup h)))
  · unfold start
    show _ = N.length
    rw [List.length_append, List.length_map, List.length_replicate]
    omega
theorem fn_of {CX : CXT} {P : Program} {w : World} {K : PySem.W.Frag} {mg : Str → Option Value} {base : Heap} {k : Nat} {f : Addr} {name qual : Str} {params : Arguments} {body : List Stmt} {scope : Scope} {dV kV doc pm cdv ct oc : Value} {an od : Option Addr}
    {osl : Array (Option Value)} {N ps : List Str} {sp : Sp} (lk : K.lookup f = some ⟨oc, od, .func (PySem.W.fnOf name qual params body scope dV kV doc pm an cdv ct), osl⟩) (hcd : PySem.W.codeIn K cdv qual = true) (S : FnScope N ps scope)
    (len : ∀ vs H Q E, sp vs H Q E → vs.length = ps.length)
    (hbody : ∀ (A : Around) (outer : List Env) (s : Shared) (H : Hp) (vs : List V) (Q : VK) (E : XK), Room k (A.deeper (envOfC qual scope s.heap.objs.size f cdv)) → sp vs H Q E →
      ∃ t, PSs (cxOf CX P w K mg base N qual scope f cdv A outer s H E) body t ∧ t { nx := fun _ H' => Q .non H', rt := Q } (start N vs) H) :
    FnOk P w K mg base CX (k + 1) f (PySem.W.fnOf name qual params body scope dV kV doc pm an cdv ct) ps sp := by
  refine ⟨len, fun A outer s H args us vs Q E hr e0 hb r hsp => ?_⟩
  have hl := len _ _ _ _ hsp
  have KX : K.In s.heap := e0.mod.kin.keeps fun b o e => (e0.bs b o e).1
  have lim : s.heap.NoLimit := e0.mod.nolimit.keeps fun b o e => (e0.bs b o e).1
  have hkind : ∀ y ∈ ps.zip us, scope.names.lookup y.1 = some .local ∨ (scope.names.lookup y.1 = some .cell ∧ ((cellsFrom (s.heap.objs.size + 1) scope.names []).lookup y.1).isSome = true) := fun ⟨n, v⟩ hy => by
    rcases S.par n (List.of_mem_zip hy).1 with q | q
    · exact .inl q
    · exact .inr ⟨q, PySem.W.cellsFrom_some _ _ _ (.inl q)⟩
  refine codeAny_call_function hr.depth (KX _ _ lk) rfl S.co S.gen rfl (PySem.W.codeRec_of KX hcd) (hb _ _ _ _ ?_)
  refine wpAny_newFunctionEnv_cells S.kind hkind fun env he s1 x => ?_
  subst he
  refine ⟨lim.keeps x.toInCall.keep, codeAny_func ?_⟩
  obtain ⟨t, ht, hq⟩ := hbody A outer s H vs Q E (hr.deeper _) hsp
  have I : Inv (cxOf CX P w K mg base N qual scope f cdv A outer s H E) [] (start N vs) H s1 := inv_start S hr.hd e0 hl r x
  refine wpAny_mono (ht [] s1 (start N vs) H _ I hq) (fun fl s' hs => ?_) fun e s' hs => hs
  have fin : ∀ {σ' : St} {H' : Hp} {v : V} {u : Value}, Inv (cxOf CX P w K mg base N qual scope f cdv A outer s H E) [] σ' H' s' → RelV v u → Q v H' → CE outer P w H s Q u s' :=
    fun {σ' H' v u} J rv q => ⟨v, H', J.os, J.bare, J.base, J.hok, rv, q⟩
  cases fl with
  | ret u =>
    obtain ⟨v, σ', H', J, rv, q⟩ := hs
    exact fin J rv q
  | next =>
    obtain ⟨σ', H', J, q⟩ := hs
    exact fin (v := V.non) (u := Value.none) J rfl q
  | brk =>
    obtain ⟨_, _, _, q⟩ := hs
    exact False.elim q
  | cont =>
    obtain ⟨_, _, _, q⟩ := hs
    exact False.elim q
end L2
namespace L2
open PySem PySem.Spec PyProof.Rows
section
variable {X : Cx} {x : Str} {p pos : Pos} {e : Expr} {es : List Expr} {t : TA} {id T : String} {r : List V → Hp → VK → Prop}
def tCB (r : List V → Hp → VK → Prop) (t : TA) : TE := fun σ H Q => t σ H fun vs H1 => r vs H1 Q
theorem pe_callB (hc : CallR X (.builtin id) r) (hg : Gl X x) (hm : X.mg x = none) (hv : bootBuiltins x = some (.builtin id)) (ha : PA X (e :: es) t) (hn : x ≠ "__name__" := by decide) (hdb : (x == ("__debug__" : Str)) = false := by decide)
    (he : starEach (e :: es) X.env = (false, eval e X.env) :: starEach es X.env := by rfl) (hpl : (backTo pos (starEach es X.env)).any (·.1) = false := by rfl) : PE X (.Call (.Name x p) (e :: es) [] pos) (tCB r t) := by
  intro pins s σ H Q I h
  refine wpAny_Call_Name_kw (ld_blt I hg hm hv ?_ hn hdb)
  exact PyProof.Rows.callWith_builtin1 (thn (ha pos pins s σ H _ I h) fun us s1 ⟨vs, H1, I1, r1, q1⟩ => hc pins s1 σ H1 vs us Q I1 r1 q1) he hpl
theorem pe_callTy (hc : CallR X (.type T) r) (hg : Gl X x) (hm : X.mg x = none) (hv : bootBuiltins x = some (.type T)) (ha : PA X (e :: es) t) (hn : x ≠ "__name__" := by decide) (hdb : (x == ("__debug__" : Str)) = false := by decide)
    (he : starEach (e :: es) X.env = (false, eval e X.env) :: starEach es X.env := by rfl) (hpl : (backTo pos (starEach es X.env)).any (·.1) = false := by rfl) : PE X (.Call (.Name x p) (e :: es) [] pos) (tCB r t) := by
  intro pins s σ H Q I h
  refine wpAny_Call_Name_kw (ld_blt I hg hm hv ?_ hn hdb)
  exact PyProof.Rows.callWith_type1 (thn (ha pos pins s σ H _ I h) fun us s1 ⟨vs, H1, I1, r1, q1⟩ => hc pins s1 σ H1 vs us Q I1 r1 q1) he hpl
end
end L2
namespace HT
open PySem PyProof.Rows
def lexLt : List Int → List Int → Bool
  | [], [] => false
  | [], _ :: _ => true
  | _ :: _, [] => false
  | x :: xs, y :: ys => if x = y then lexLt xs ys else decide (x < y)
theorem lexLt_cons (x y : Int) (xs ys : List Int) : lexLt (x :: xs) (y :: ys) = if x = y then lexLt xs ys else decide (x < y) := rfl
theorem lexLt_nil_nil : lexLt [] [] = false := rfl
theorem lexLt_nil_cons (y : Int) (ys : List Int) : lexLt [] (y :: ys) = true := rfl
theorem lexLt_cons_nil (x : Int) (xs : List Int) : lexLt (x :: xs) [] = false := rfl
section
open PySem.SeqAt
open PySem.AutoSeq1 (wpAny_loadPart')
open PySem.MeetsSeq PySem.MeetsSeq2 PySem.MeetsSeq3
end
section
variable {prog : Program} {w : World} {A : Around} {E : Value → Shared → Prop} {s : Shared}
theorem cat_tup {t b : Addr} {vs ws : List Value} {Q : Value → Shared → Prop} (ht : IsTup s.heap t vs.toArray) (hb : IsTup s.heap b ws.toArray) (hv : vs ≠ [])
    (h1 : ws = [] → Q (.ref t) s) (h2 : ws ≠ [] → Q (.ref s.heap.objs.size) { s with heap := s.heap.push { cls := .type "tuple", data := .seq (vs ++ ws).toArray } })
    (hsz : vs.length + ws.length ≤ sizeLine) : wpAny (model prog w) A (binaryOp .Add (.ref t) (.ref b)) Q E s := by
  obtain ⟨⟨cls, dd, data, sl⟩, ho, hc, n, hd⟩ := id ht
  obtain ⟨⟨cls2, dd2, data2, sl2⟩, ho2, hc2, n2, hd2⟩ := id hb
  simp only at hc hd hc2 hd2
  subst hc hd hc2 hd2
  have e : vs.toArray ++ ws.toArray = (vs ++ ws).toArray := by simp
  by_cases hw : ws = []
  · exact concat_meets ⟨_, ho, rfl⟩ ⟨_, ho2, rfl⟩ noFill_tuple_add seq_tuple_add PySem.F.slot_tuple_add PySem.F.entry_tuple_add (PySem.F.args_tuple_add_2 _ _)
      (tuple_addW1 t b vs.toArray ws.toArray n n2 dd dd2 sl sl2 (by simpa using hv) (by simp [hw])) ⟨ho, ho2, h1 hw⟩
  · refine concat_meets ⟨_, ho, rfl⟩ ⟨_, ho2, rfl⟩ noFill_tuple_add seq_tuple_add PySem.F.slot_tuple_add PySem.F.entry_tuple_add (PySem.F.args_tuple_add_2 _ _)
      (tuple_addW2 t b vs.toArray ws.toArray n n2 dd dd2 sl sl2 (by simpa using hv) (by simpa using hw) (by rw [List.size_toArray, List.size_toArray]; exact hsz)) ⟨ho, ho2, ?_⟩
    rw [e]
    exact h2 hw
def sIx (n d : Nat) : Option Int → Nat
  | none => d
  | some v => if v < 0 then (v + (n : Int)).toNat else min v.toNat n
theorem sIx_none (n d : Nat) : sIx n d none = d := rfl
theorem sIx_nat (n d k : Nat) : sIx n d (some (k : Int)) = min k n := by
  show (if (k : Int) < 0 then ((k : Int) + (n : Int)).toNat else min (k : Int).toNat n) = min k n
  rw [if_neg (by omega), Int.toNat_natCast]
end
end HT
namespace L2
open PySem PySem.Spec PyProof.Rows
abbrev TO := St → Hp → (Option Int → Hp → Prop) → Prop
def PO (X : Cx) (e : Option Expr) (t : TO) : Prop :=
  ∀ (pins : List (Addr × Obj)) (s : Shared) (σ : St) (H : Hp) (Q : Option Int → Hp → Prop), Inv X pins σ H s → t σ H Q →
    wpAny (model X.prog X.w) X.A (evalPart e X.env) (fun u s' => ∃ o H', Inv X pins σ H' s' ∧ IsPart u o ∧ Q o H') X.xe s
def tNoPart : TO := fun _ H Q => Q none H
def tPart (t : TE) : TO := fun σ H Q => t σ H fun x H1 => ∃ i, x = .int i ∧ Q (some i) H1
theorem intsAre_of {ns : List Int} : ∀ {us : List Value}, Vals (ns.map V.int) us → IntsAre us ns := by
  induction ns with
  | nil => intro us r; rw [List.map_nil] at r; cases r; exact .nil
  | cons n ns ih =>
    intro us r
    rw [List.map_cons] at r
    cases r with
    | cons r1 r2 =>
      obtain ⟨t, e⟩ := r1
      subst e
      exact .cons n t (ih r2)
section
variable {X : Cx} {e : Expr} {te : TE} {lo hi : Option Expr} {tl th : TO} {pos p2 : Pos}
theorem po_none : PO X none tNoPart := by
  intro pins s σ H Q I h
  rw [evalPart_none]
  exact wpAny_pure ⟨none, H, I, .none, h⟩
theorem po_some (h : PE X e te) : PO X (some e) (tPart te) := by
  intro pins s σ H Q I hw
  rw [evalPart_some]
  refine thn (h pins s σ H _ I hw) fun u s1 ⟨x, H1, I1, r1, q1⟩ => ?_
  obtain ⟨i, rfl, q⟩ := q1
  obtain ⟨t, rfl⟩ := r1
  exact ⟨some i, H1, I1, .int i t, q⟩
def SlR (X : Cx) (r : V → Option Int → Option Int → Hp → VK → Prop) : Prop :=
  ∀ (pins : List (Addr × Obj)) (s : Shared) (σ : St) (H : Hp) (x : V) (v vl vu : Value) (lo hi : Option Int) (sl : Addr) (Q : VK), Inv X pins σ H s → RelV x v → s.heap.IsSliceOf sl vl vu .none → IsPart vl lo → IsPart vu hi → r x lo hi H Q →
    ∃ T id, typeLookup (.type T) "__getitem__" = pure (some (.builtin id)) ∧ s.TypeIs v T ∧ wpAny (model X.prog X.w) X.A (getItem v (.ref sl)) (EP X pins σ Q) X.xe s
def tSl (r : V → Option Int → Option Int → Hp → VK → Prop) (te : TE) (tl th : TO) : TE := fun σ H Q => te σ H fun x H1 => tl σ H1 fun l H2 => th σ H2 fun u H3 => r x l u H3 Q
theorem pe_slice {r : V → Option Int → Option Int → Hp → VK → Prop} (hr : SlR X r) (he : PE X e te) (hl : PO X lo tl) (hu : PO X hi th) : PE X (.Subscript e (.Slice lo hi none p2) pos) (tSl r te tl th) := by
  intro pins s σ H Q I h
  refine Subscript_ (thn (he pins s σ H _ I h) fun v s1 ⟨x, H1, I1, r1, q1⟩ => ?_)
  refine wpAny_Slice (thn (hl pins s1 σ H1 _ I1 q1) fun vl s2 ⟨l, H2, I2, pl, q2⟩ => thn (hu pins s2 σ H2 _ I2 q2) fun vu s3 ⟨u, H3, I3, pu, q3⟩ => ?_)
  rw [evalPart_none]
  refine wpAny_pure ?_
  have I4 : Inv X pins σ H3 { s3 with heap := s3.heap.push { cls := .type "slice", data := .fields #[vl, vu, .none] } } := I3.kept (t' := s3.toks) fun b ob q => Heap.get?_push_of_some _ q
  obtain ⟨T, id, hT, ht, hg⟩ := hr pins { s3 with heap := s3.heap.push { cls := .type "slice", data := .fields #[vl, vu, .none] } } σ H3 x v vl vu l u s3.heap.objs.size Q I4 r1 (Heap.IsSliceOf.new ..) pl pu q3
  show wpAny (model X.prog X.w) X.A (subscriptTail e (.Slice lo hi none p2) v (.ref s3.heap.objs.size)) (EP X pins σ Q) X.xe { s3 with heap := s3.heap.push { cls := .type "slice", data := .fields #[vl, vu, .none] } }
  exact tail_any (ops := [.ref s3.heap.objs.size, v]) ht hT hg (by with_unfolding_all rfl)
def cutV (xs : List V) (lo hi : Option Int) : List V := (xs.drop (HT.sIx xs.length 0 lo)).take (HT.sIx xs.length xs.length hi - HT.sIx xs.length 0 lo)
theorem cutV_length (xs : List V) (lo hi : Option Int) : (cutV xs lo hi).length ≤ xs.length := by
  unfold cutV
  rw [List.length_take, List.length_drop]
  omega
def rSlT (K : PySem.W.Frag) : V → Option Int → Option Int → Hp → VK → Prop := fun x lo hi H Q => ∃ a xs, x = .ref a ∧ SqT K H a xs ∧
  ¬ (HT.sIx xs.length 0 lo = 0 ∧ HT.sIx xs.length xs.length hi = xs.length) ∧ ∀ p, H p = none → Q (.ref p) (upd H p (.tup (cutV xs lo hi)))
def rLtT (K : PySem.W.Frag) : R2 := fun x y H Q => ∃ a b ns ms, x = .ref a ∧ y = .ref b ∧ SqT K H a (ns.map V.int) ∧ SqT K H b (ms.map V.int) ∧ Q (.bl (HT.lexLt ns ms)) H
def rCatT (K : PySem.W.Frag) : R2 := fun x y H Q => ∃ a b xs ys, x = .ref a ∧ y = .ref b ∧ SqT K H a xs ∧ SqT K H b ys ∧ xs ≠ [] ∧ xs.length + ys.length ≤ sizeLine ∧
  (ys = [] → Q (.ref a) H) ∧ (ys ≠ [] → ∀ p, H p = none → Q (.ref p) (upd H p (.tup (xs ++ ys))))
theorem Vals.nil_iff {xs : List V} {us : List Value} (r : Vals xs us) : us = [] ↔ xs = [] := by
  cases r with
  | nil => simp
  | cons _ _ => simp
theorem op_catT : OpR X (binaryOp .Add) (rCatT X.K) := by
  intro pins s σ H x y v u Q I rx ry h
  obtain ⟨a, b, xs, ys, rfl, rfl, ha, hb, hx, hz, q1, q2⟩ := h
  cases rx
  cases ry
  obtain ⟨its, r1, p1, _⟩ := I.tuple ha
  obtain ⟨its2, r2, p2, _⟩ := I.tuple hb
  refine HT.cat_tup p1 p2 (fun z => hx (r1.nil_iff.mp z)) (fun z => ⟨.ref a, H, I, rfl, q1 (r2.nil_iff.mp z)⟩) (fun z => ?_) (by rw [← r1.length, ← r2.length]; exact hz)
  refine ⟨.ref s.heap.objs.size, _, I.laid (t' := s.toks) (o := .tup (xs ++ ys)) (fun b ob q => Heap.get?_push_of_some _ q) (Nat.le_refl _) ?_, rfl, q2 (fun w => z (r2.nil_iff.mpr w)) _ (I.hok.fresh (Nat.le_refl _))⟩
  exact ⟨by rw [List.length_append]; exact hz, _, r1.append r2, IsTup.new _ _⟩
end
end L2
namespace L2
open PySem PySem.Spec PyProof.Rows
def ixN (n : Nat) (i : Int) : Option Nat := if 0 ≤ i then (if i < n then some i.toNat else none) else if -(n : Int) ≤ i then some (i + n).toNat else none
def atI {α : Type} (xs : List α) (i : Int) : Option α := (ixN xs.length i).bind fun j => xs[j]?
theorem ixN_seq {n : Nat} {i : Int} {j : Nat} (h : ixN n i = some j) : seqIndex? i n = some j ∧ j < n ∧ -(n : Int) ≤ i ∧ i < n := by
  unfold ixN at h
  by_cases h0 : 0 ≤ i
  · rw [if_pos h0] at h
    by_cases h1 : i < n
    · rw [if_pos h1] at h
      have e : i.toNat = j := Option.some.inj h
      exact ⟨by rw [seqIndex_of h0 h1, e], by omega, by omega, h1⟩
    · rw [if_neg h1] at h; cases h
  · rw [if_neg h0] at h
    by_cases h1 : -(n : Int) ≤ i
    · rw [if_pos h1] at h
      have e : (i + n).toNat = j := Option.some.inj h
      exact ⟨by rw [seqIndex_neg (by omega) h1, e], by omega, h1, by omega⟩
    · rw [if_neg h1] at h; cases h
theorem atI_get {α : Type} {xs : List α} {i : Int} {v : α} (h : atI xs i = some v) : ∃ j, seqIndex? i xs.length = some j ∧ xs[j]? = some v ∧ j < xs.length ∧ -(xs.length : Int) ≤ i ∧ i < xs.length := by
  unfold atI at h
  cases e : ixN xs.length i with
  | none => rw [e] at h; cases h
  | some j =>
    rw [e] at h
    obtain ⟨h1, h2, h3, h4⟩ := ixN_seq e
    exact ⟨j, h1, h, h2, h3, h4⟩
theorem atI_nat {α : Type} {xs : List α} {j : Nat} {v : α} (h : xs[j]? = some v) : atI xs (j : Int) = some v := by
  have hj : j < xs.length := (List.getElem?_eq_some_iff.mp h).1
  have e : ixN xs.length (j : Int) = some j := by
    unfold ixN
    rw [if_pos (by omega), if_pos (by omega)]; simp
  unfold atI; rw [e]; exact h
def PlainIx (b : Expr) : Prop := ∀ o i, subscripted b false o i = operate [o, i] (getItem o i)
def IxR (X : Cx) (r : R2) : Prop :=
  ∀ (value slice : Expr) (pins : List (Addr × Obj)) (s : Shared) (σ : St) (H : Hp) (x y : V) (v u : Value) (Q : VK), Inv X pins σ H s → RelV x v → RelV y u → r x y H Q →
    subscripted slice false v u = operate [v, u] (getItem v u) → wpAny (model X.prog X.w) X.A (subscriptTail value slice v u) (EP X pins σ Q) X.xe s
def MtR (X : Cx) (id : String) (r : V → List V → Hp → VK → Prop) : Prop :=
  ∀ (pins : List (Addr × Obj)) (s : Shared) (σ : St) (H : Hp) (x : V) (xs : List V) (v : Value) (us : List Value) (Q : VK), Inv X pins σ H s → RelV x v → Vals xs us → r x xs H Q →
    wpAny (model X.prog X.w) X.A (call (.builtin id) (v :: us)) (EP X pins σ Q) X.xe s
section
variable {X : Cx} {a b : Expr} {ta tb : TE} {pos : Pos}
theorem pe_ix {r : R2} (hr : IxR X r) (ha : PE X a ta) (hb : PE X b tb) (hs : PlainIx b) : PE X (.Subscript a b pos) (tOp r ta tb) := by
  intro pins s σ H Q I h
  exact Subscript_ (binT ha hb I h fun v u s2 x y H2 I2 rx ry q => hr a b pins s2 σ H2 x y v u Q I2 rx ry q (hs _ _))
def rIxL (K : PySem.W.Frag) : R2 := fun x y H Q => ∃ p xs i v, x = .ref p ∧ y = .int i ∧ SqL K H p xs ∧ atI xs i = some v ∧ Q v H
def rIxT (K : PySem.W.Frag) : R2 := fun x y H Q => ∃ p xs i v, x = .ref p ∧ y = .int i ∧ SqT K H p xs ∧ atI xs i = some v ∧ Q v H
def rIxS : R2 := fun x y H Q => ∃ z i c, x = .str z ∧ y = .int i ∧ z.length ≤ sizeLine ∧ atI z.cps.toList i = some c ∧ Q (.str ⟨#[c]⟩) H
theorem ix_list : IxR X (rIxL X.K) := by
  intro value slice pins s σ H x y v u Q I rx ry h hs
  obtain ⟨p, xs, i, z, rfl, rfl, hq, he, q⟩ := h
  cases rx
  obtain ⟨t, rfl⟩ := ry
  obtain ⟨its, r, pl, hz⟩ := I.list hq
  obtain ⟨j, h1, h2, h3, h4, h5⟩ := atI_get he
  obtain ⟨w, ew, rw'⟩ := r.get h2
  have hl := r.length
  have hn := line63
  have fin : EP X pins σ Q w s := ⟨z, H, I, rw', q⟩
  by_cases h0 : 0 ≤ i
  · have hj : i.toNat = j := by
      rw [seqIndex_of h0 h5] at h1
      exact Option.some.inj h1
    exact item_listR pl.isList h0 (by omega) (by rw [hj]; simpa using ew) fin hs
  · have hj : (i + (its.toArray.size : Int)).toNat = j := by
      rw [seqIndex_neg (by omega) h4] at h1
      rw [List.size_toArray, ← hl]
      exact Option.some.inj h1
    exact subscriptTail_builtinR (x := w) pl.isList.typeIs slot_list_getitem.lookup
      (wpAny_getItem_list_neg (Q := fun r s' => r = w ∧ EP X pins σ Q r s') pl.isList (by omega) (by rw [List.size_toArray] <;> omega) (by omega) (by rw [hj]; simpa using ew) ⟨rfl, fin⟩) hs
theorem ix_tup : IxR X (rIxT X.K) := by
  intro value slice pins s σ H x y v u Q I rx ry h hs
  obtain ⟨p, xs, i, z, rfl, rfl, hq, he, q⟩ := h
  cases rx
  obtain ⟨t, rfl⟩ := ry
  obtain ⟨its, r, pl, hz⟩ := I.tuple hq
  obtain ⟨j, h1, h2, h3, h4, h5⟩ := atI_get he
  obtain ⟨w, ew, rw'⟩ := r.get h2
  have hl := r.length
  have hn := line63
  have fin : EP X pins σ Q w s := ⟨z, H, I, rw', q⟩
  exact subscriptTail_builtinR (x := w) pl.typeIs slot_tuple_getitem.lookup
    (getItem_tuple (j := j) (Q := fun r s' => r = w ∧ EP X pins σ Q r s') pl (by omega) (by omega) (by rw [List.size_toArray, ← hl]; exact h1) (by simpa using ew) ⟨rfl, fin⟩) hs
def rIx (K : PySem.W.Frag) : R2 := fun x y H Q => rIxL K x y H Q ∨ rIxT K x y H Q ∨ rIxS x y H Q
theorem mapSeq_set (its : List Value) (n j : Nat) (u : Value) : Obj.mapSeq (·.setIfInBounds j u) { cls := .type "list", data := .seq its.toArray n } = { cls := .type "list", data := .seq (its.set j u).toArray n } := by
  simp [Obj.mapSeq]
theorem Inv.lst {pins : List (Addr × Obj)} {σ : St} {H : Hp} {s : Shared} {p : Addr} {xs : List V} (I : Inv X pins σ H s) (h : H p = some (.lst xs)) :
    ∃ (its : List Value) (n : Nat), Vals xs its ∧ s.heap.get? p = some { cls := .type "list", data := .seq its.toArray n } ∧ xs.length ≤ sizeLine := by
  obtain ⟨z, its, n, r, e⟩ := I.hok p _ h
  exact ⟨its, n, r, e, z⟩
theorem Inv.lstUpd {pins : List (Addr × Obj)} {σ : St} {H : Hp} {s : Shared} {p : Addr} {xs ys : List V} {its its' : List Value} {n n' : Nat} {f : Obj → Obj} (I : Inv X pins σ H s) (h : H p = some (.lst xs))
    (ho : s.heap.get? p = some { cls := .type "list", data := .seq its.toArray n }) (hf : f { cls := .type "list", data := .seq its.toArray n } = { cls := .type "list", data := .seq its'.toArray n' }) (r : Vals ys its') (hz : ys.length ≤ sizeLine) (t : Nat) :
    Inv X pins σ (upd H p (.lst ys)) { s with heap := s.heap.update p f, toks := t } := by
  have e : (s.heap.update p f).get? p = some { cls := .type "list", data := .seq its'.toArray n' } := by
    rw [Heap.get?_update_self f ho (by rw [hf] <;> rfl), hf]
  refine I.write (x := p) (e := p) (by rw [h]; trivial) (.inl rfl) (fun b u hb q => (Heap.get?_update_other _ _ (Ne.symm hb)).trans q) ⟨_, e⟩ ?_
  exact ⟨hz, its', n', r, e⟩
def rSetL : V → V → V → Hp → (Hp → Prop) → Prop := fun o i v H Q => ∃ p xs k j, o = .ref p ∧ i = .int k ∧ H p = some (.lst xs) ∧ ixN xs.length k = some j ∧ Q (upd H p (.lst (xs.set j v)))
theorem set_list : PSet X rSetL := by
  intro pins s σ H o i v ov iv u Q I ro ri rv h
  obtain ⟨p, xs, k, j, rfl, rfl, hp, hj, q⟩ := h
  cases ro
  obtain ⟨t, rfl⟩ := ri
  obtain ⟨its, n, r, ho, hz⟩ := I.lst hp
  obtain ⟨h1, h2, h3, h4⟩ := ixN_seq hj
  have hl := r.length
  have hn := line63
  have I' : Inv X pins σ (upd H p (.lst (xs.set j v))) { s with heap := s.heap.update p (Obj.mapSeq (·.setIfInBounds j u)) } :=
    I.lstUpd hp ho (mapSeq_set its n j u) (r.set rv j) (by rw [List.length_set]; exact hz) s.toks
  by_cases h0 : 0 ≤ k
  · have hk : k.toNat = j := by
      rw [seqIndex_of h0 h4] at h1
      exact Option.some.inj h1
    exact PySem.W.ki_setAt ho h0 (by omega) (by rw [List.size_toArray, ← hl]; exact h4) (by rw [hk]; exact ⟨_, I', q⟩)
  · have hk : (k + (its.toArray.size : Int)).toNat = j := by
      rw [seqIndex_neg (by omega) h3] at h1
      rw [List.size_toArray, ← hl]
      exact Option.some.inj h1
    exact PySem.W.ki_setBack ho (by omega) (by rw [List.size_toArray, ← hl]; exact h3) (by omega) (by rw [hk]; exact ⟨_, I', q⟩)
theorem slice_bounds (lo hi : Option Int) (n : Nat) : (sliceBounds lo hi none n).1 = ((HT.sIx n 0 lo : Nat) : Int) ∧ (sliceBounds lo hi none n).2.1 = ((HT.sIx n n hi : Nat) : Int) ∧ (sliceBounds lo hi none n).2.2 = 1 := by
  refine ⟨?_, ?_, rfl⟩
  · cases lo with
    | none => simp [sliceBounds, HT.sIx]
    | some i =>
      simp only [sliceBounds, HT.sIx, Option.getD_none, show (1 : Int) > 0 by decide, if_true]
      by_cases h : i < 0
      · simp only [h, if_true] <;> omega
      · simp only [h, if_false] <;> omega
  · cases hi with
    | none => simp [sliceBounds, HT.sIx]
    | some i =>
      simp only [sliceBounds, HT.sIx, Option.getD_none, show (1 : Int) > 0 by decide, if_true]
      by_cases h : i < 0
      · simp only [h, if_true] <;> omega
      · simp only [h, if_false] <;> omega
theorem slicePick_cut (its : List Value) (lo hi : Option Int) : slicePick its.toArray lo hi none = ((its.drop (HT.sIx its.length 0 lo)).take (HT.sIx its.length its.length hi - HT.sIx its.length 0 lo)).toArray := by
  obtain ⟨h1, h2, h3⟩ := slice_bounds lo hi its.toArray.size
  unfold slicePick
  rw [h1, h2, h3]
  simp only [sliceRange_one, pick_run, List.size_toArray] <;> rfl
def rSlL (K : PySem.W.Frag) : V → Option Int → Option Int → Hp → VK → Prop := fun x lo hi H Q => ∃ a xs, x = .ref a ∧ SqL K H a xs ∧ ∀ p, H p = none → Q (.ref p) (upd H p (.lst (cutV xs lo hi)))
theorem sl_list : SlR X (rSlL X.K) := by
  intro pins s σ H x v vl vu lo hi sl Q I rx hs pl pu h
  obtain ⟨a, xs, rfl, hx, q⟩ := h
  cases rx
  obtain ⟨its, r, ht, hz⟩ := I.list hx
  have hlen := r.length
  refine ⟨"list", _, slot_list_getitem.lookup, ht.isList.typeIs, ?_⟩
  refine wpAny_getItem_list_slice ht.isList hs pl pu .none (by simp) ?_ (by rw [List.size_toArray] <;> omega)
  rw [slicePick_cut, ← hlen]
  refine ⟨.ref s.heap.objs.size, _, I.laid (t' := s.toks) (o := .lst (cutV xs lo hi)) (fun b ob q => Heap.get?_push_of_some _ q) (Nat.le_refl _) ?_, rfl, q _ (I.hok.fresh (Nat.le_refl _))⟩
  exact ⟨Nat.le_trans (cutV_length xs lo hi) hz, _, 0, (r.drop (HT.sIx xs.length 0 lo)).take (HT.sIx xs.length xs.length hi - HT.sIx xs.length 0 lo), Heap.get?_push_size _ rfl⟩
def flatV : V → Bool
  | .non => true
  | .bl _ => true
  | .int _ => true
  | .str _ => true
  | _ => false
def eqV : V → V → Bool
  | .non, .non => true
  | .bl a, .bl b => a == b
  | .bl a, .int b => (if a then 1 else 0) == b
  | .int a, .bl b => a == (if b then 1 else 0)
  | .int a, .int b => a == b
  | .str a, .str b => a == b
  | _, _ => false
def eqU (x : V) (u : Value) : Bool := match u with
  | .none => eqV .non x
  | .bool b => eqV (.bl b) x
  | .int i _ => eqV (.int i) x
  | .str z _ => eqV (.str z) x
  | _ => false
def inV (x : V) (xs : List V) : Bool := xs.any fun y => eqV y x
def rIn (K : PySem.W.Frag) (neg : Bool) : R2 := fun x y H Q => ∃ p xs, y = .ref p ∧ (SqL K H p xs ∨ SqT K H p xs) ∧ flatV x = true ∧ xs.all flatV = true ∧ Q (.bl (if neg then !inV x xs else inV x xs)) H
theorem call_len_seq : CallR X (.builtin "len") (fun xs H Q => ∃ p ys, xs = [.ref p] ∧ (SqL X.K H p ys ∨ SqT X.K H p ys) ∧ Q (.int ys.length) H) := by
  intro pins s σ H xs us Q I r h
  obtain ⟨p, ys, rfl, hq, q⟩ := h
  obtain ⟨u, rfl, rx⟩ := vals1 r
  cases rx
  have hn := line63
  rcases hq with hq | hq
  · obtain ⟨its, r', pl, hz⟩ := I.list hq
    have hlen := r'.length
    exact Calls.call_len_list pl.isList (by simp only [List.size_toArray] <;> omega) ⟨.int ys.length, H, I.tok _, ⟨s.toks + 1, by rw [List.size_toArray, hlen]⟩, q⟩
  · obtain ⟨its, r', pl, hz⟩ := I.tuple hq
    have hlen := r'.length
    exact len_tuple pl (by simp only [List.size_toArray] <;> omega) ⟨.int ys.length, H, I.tok _, ⟨s.toks + 1, by rw [List.size_toArray, hlen]⟩, q⟩
def tyV (K : PySem.W.Frag) (T : String) (x : V) (H : Hp) : Prop := match x with
  | .str _ => T = "str"
  | .int _ => T = "int"
  | .ref p => (T = "list" ∧ ∃ xs, SqL K H p xs) ∨ (T = "tuple" ∧ ∃ o, K.lookup p = some o ∧ o.cls = .type "tuple" ∧ o.dict = none) ∨
      (T = "dict" ∧ ((∃ kvs, H p = some (.dK kvs)) ∨ ∃ kvs, H p = some (.dT kvs))) ∨ (T = "set" ∧ ∃ S n, H p = some (.set S n))
  | _ => False
theorem tyV_is {pins : List (Addr × Obj)} {σ : St} {H : Hp} {s : Shared} {T : String} {x : V} {v : Value} (I : Inv X pins σ H s) (r : RelV x v) (ty : tyV X.K T x H) :
    s.TypeIs v T ∧ ∀ a, v = .ref a → ∃ ob, s.heap.get? a = some ob ∧ ob.dict = none := by
  cases x with
  | str z =>
    obtain ⟨t, rfl⟩ := r
    cases (show T = "str" from ty)
    exact ⟨typeIs_str s z t, fun _ e => nomatch e⟩
  | int i =>
    obtain ⟨t, rfl⟩ := r
    cases (show T = "int" from ty)
    exact ⟨typeIs_int s i t, fun _ e => nomatch e⟩
  | ref p =>
    cases r
    rcases ty with ⟨rfl, xs, hq⟩ | ⟨rfl, o, hk, hc, hd⟩ | ⟨rfl, hk⟩ | ⟨rfl, S, n, hk⟩
    · obtain ⟨its, _, pl, _⟩ := I.list hq
      refine ⟨pl.isList.typeIs, fun a e => ?_⟩
      cases e
      obtain ⟨o, n, e, c, hd, _⟩ := pl
      exact ⟨o, e, hd⟩
    · refine ⟨⟨o, I.kIn p o hk, hc⟩, fun a e => ?_⟩
      cases e
      exact ⟨o, I.kIn _ o hk, hd⟩
    · have z : ∃ o, s.heap.get? p = some o ∧ o.ExactDict := by
        rcases hk with ⟨kvs, hk⟩ | ⟨kvs, hk⟩
        · obtain ⟨_, _, _, _, o, _, _, e, ex, _⟩ := I.hok p _ hk
          exact ⟨o, e, ex⟩
        · obtain ⟨_, _, _, _, o, _, _, e, ex, _⟩ := I.hok p _ hk
          exact ⟨o, e, ex⟩
      obtain ⟨o, e, ex⟩ := z
      refine ⟨⟨o, e, ex.1⟩, fun a e2 => ?_⟩
      cases e2
      exact ⟨o, e, ex.2.1⟩
    · obtain ⟨o, _, _, _, e, ex, _⟩ := I.hok p _ hk
      refine ⟨⟨o, e, ex.1⟩, fun a e2 => ?_⟩
      cases e2
      exact ⟨o, e, ex.2.1⟩
  | _ => exact False.elim ty
def tBM0 (K : PySem.W.Frag) (T : String) (r : V → List V → Hp → VK → Prop) (to : TE) : TE := fun σ H Q => to σ H fun x H1 => tyV K T x H1 ∧ r x [] H1 Q
def tBM (K : PySem.W.Frag) (T : String) (r : V → List V → Hp → VK → Prop) (to : TE) (t : TA) : TE := fun σ H Q => to σ H fun x H1 => tyV K T x H1 ∧ t σ H1 fun xs H2 => r x xs H2 Q
variable {o e : Expr} {es : List Expr} {to : TE} {t : TA} {name : Str} {apos cpos : Pos} {T id : String} {r : V → List V → Hp → VK → Prop}
theorem pe_bm0 (pa : PlainAttrs T) (slot : Slot T name id) (hty : typeOf (.builtin id) = pure (.type "method_descriptor")) (hm : MtR X id r) (ho : PE X o to)
    (hbase : attributeBase o name X.env (eval o X.env) = eval o X.env := by rfl) (hline : (apos.endLine == cpos.line) = true := by rfl) : PE X (.Call (.Attribute o name apos) [] [] cpos) (tBM0 X.K T r to) := by
  intro pins s σ H Q I h
  refine wpAny_Call_method0_late hbase hline (thn (ho pins s σ H _ I h) fun v s1 ⟨x, H1, I1, r1, ty, q1⟩ => ?_)
  obtain ⟨h1, h2⟩ := tyV_is I1 r1 ty
  exact ⟨T, id, pa, slot, hty, h1, h2, Calls.callWith_builtin rfl (PySem.evalArgs_none (hm pins s1 σ H1 x [] v [] Q I1 r1 .nil q1))⟩
theorem pe_bm (pa : PlainAttrs T) (slot : Slot T name id) (hty : typeOf (.builtin id) = pure (.type "method_descriptor")) (hm : MtR X id r) (ho : PE X o to) (ha : PA X (e :: es) t)
    (hbase : attributeBase o name X.env (eval o X.env) = eval o X.env := by rfl)
    (hfew : ((backTo cpos (starEach (e :: es) X.env)).all (fun x => !x.1) && (backToKw cpos (keywordEach [] X.env)).all (fun x => x.1.isSome)
      && decide ((e :: es).length + ([] : List Keyword).length + (if ([] : List Keyword).isEmpty then 0 else 1) < 30)) = true := by rfl)
    (hline : (apos.endLine == cpos.line) = true := by rfl) (hs : starEach (e :: es) X.env = (false, eval e X.env) :: starEach es X.env := by rfl) (hplain : (backTo cpos (starEach es X.env)).any (·.1) = false := by rfl) :
    PE X (.Call (.Attribute o name apos) (e :: es) [] cpos) (tBM X.K T r to t) := by
  intro pins s σ H Q I h
  refine wpAny_Call_method_late hbase hfew hline rfl (thn (ho pins s σ H _ I h) fun v s1 ⟨x, H1, I1, r1, ty, q1⟩ => ?_)
  obtain ⟨h1, h2⟩ := tyV_is I1 r1 ty
  refine ⟨T, id, pa, slot, hty, h1, h2, ?_⟩
  have hA := ha cpos pins s1 σ H1 _ I1 q1
  rw [hs] at hA ⊢
  refine Calls.callWith_builtin (by show (false || (backTo cpos (starEach es X.env)).any (·.1)) = false; rw [hplain] <;> rfl) (Calls.evalArgs_plain ?_)
  exact thn hA fun us s2 ⟨vs, H2, I2, r2, q2⟩ => hm pins s2 σ H2 x vs v us Q I2 r1 r2 q2
end
end L2
namespace L2
open PySem PySem.Spec PyProof.Rows
def MtM (X : Cx) (id : String) (r : V → List V → Hp → VK → Prop) : Prop :=
  ∀ (pins : List (Addr × Obj)) (s : Shared) (σ : St) (H : Hp) (x : V) (xs : List V) (v : Value) (us : List Value) (Q : VK), Inv X pins σ H s → RelV x v → Vals xs us → r x xs H Q →
    wpAny (model X.prog X.w) X.A (call (.builtin id) (v :: us)) (EP X pins σ Q) X.xe s
theorem Vals.one : ∀ {x : V} {us : List Value}, Vals [x] us → ∃ u, us = [u] ∧ RelV x u
  | _, _, .cons r .nil => ⟨_, rfl, r⟩
theorem Vals.two : ∀ {x y : V} {us : List Value}, Vals [x, y] us → ∃ u v, us = [u, v] ∧ RelV x u ∧ RelV y v
  | _, _, _, .cons r (.cons q .nil) => ⟨_, _, rfl, r, q⟩
theorem Vals.zero : ∀ {us : List Value}, Vals [] us → us = []
  | _, .nil => rfl
theorem Vals.dropLast {xs : List V} {us : List Value} (h : Vals xs us) : Vals xs.dropLast us.dropLast := by
  induction h with
  | nil => exact .nil
  | cons r t ih =>
    cases t with
    | nil => exact .nil
    | cons q t' => exact .cons r ih
theorem erase_last {α : Type} (l : List α) : l.eraseIdx (l.length - 1) = l.dropLast := by
  induction l with
  | nil => rfl
  | cons a r ih =>
    cases r with
    | nil => rfl
    | cons b r =>
      have e : (a :: b :: r).length - 1 = ((b :: r).length - 1) + 1 := by
        have h1 : (a :: b :: r).length = r.length + 2 := rfl
        have h2 : (b :: r).length = r.length + 1 := rfl
        omega
      rw [e, List.eraseIdx_cons_succ, ih]
      all_goals rfl
section
variable {X : Cx} {pins : List (Addr × Obj)} {σ : St} {H : Hp} {s : Shared} {l b : Addr} {xs ys zs : List V}
theorem Inv.lset {its its' : List Value} {n : Nat} {f : Array Value → Array Value} {t' : Nat} (I : Inv X pins σ H s) (hH : H l = some (.lst xs))
    (e : s.heap.get? l = some { cls := .type "list", data := .seq its.toArray n }) (hf : f its.toArray = its'.toArray) (hv : Vals ys its') (hz : ys.length ≤ sizeLine) :
    Inv X pins σ (upd H l (.lst ys)) { s with heap := s.heap.update l (Obj.mapSeq f), toks := t' } := by
  have q := PySem.IsL.update e f
  rw [hf] at q
  refine I.write (x := l) (e := l) (by rw [hH]; exact trivial) (.inl rfl) (fun b' u hb hu => (Heap.get?_update_other s.heap (Obj.mapSeq f) (Ne.symm hb)).trans hu) ⟨_, q⟩ ?_
  exact ⟨hz, its', _, hv, q⟩
theorem Inv.lnew {its : List Value} {t' : Nat} (I : Inv X pins σ H s) (hv : Vals ys its) (hz : ys.length ≤ sizeLine) :
    Inv X pins σ (upd H s.heap.objs.size (.lst ys)) { s with heap := s.heap.push { cls := .type "list", data := .seq its.toArray }, toks := t' } :=
  I.laid (fun _ _ q => Heap.get?_push_of_some _ q) (Nat.le_refl _) ⟨hz, its, 0, hv, Heap.get?_push_size _ rfl⟩
theorem Inv.fresh (I : Inv X pins σ H s) : H s.heap.objs.size = none := I.hok.fresh (Nat.le_refl _)
theorem Inv.lstM (I : Inv X pins σ H s) (hH : H l = some (.lst xs)) : xs.length ≤ sizeLine ∧ ∃ (its : List Value) (n : Nat), Vals xs its ∧ xs.length = its.length ∧ s.heap.get? l = some { cls := .type "list", data := .seq its.toArray n } := by
  obtain ⟨z, its, n, r, e⟩ := I.hok l _ hH
  exact ⟨z, its, n, r, r.length, e⟩
theorem notLongL {n : Nat} (h : n ≤ sizeLine) : Builtin.List.listTooLong n = false := by
  unfold Builtin.List.listTooLong
  exact decide_eq_false (by omega)
end
section
variable {X : Cx}
def rAppend : V → List V → Hp → VK → Prop := fun x vs H Q => ∃ l xs y, x = .ref l ∧ vs = [y] ∧ H l = some (.lst xs) ∧ xs.length < sizeLine ∧ Q .non (upd H l (.lst (xs ++ [y])))
theorem mt_append : MtM X "list.append" rAppend := by
  intro pins s σ H x vs v us Q I rx rv h
  obtain ⟨l, xs, y, rfl, rfl, hH, hz, q⟩ := h
  cases rx
  obtain ⟨u, rfl, ru⟩ := rv.one
  obtain ⟨z, its, n, r, hl, e⟩ := I.lstM hH
  refine call_meets F.slot_list_append ⟨_, e, rfl⟩ F.entry_list_append (F.args_list_append_2 _ _) (PySem.list_append l its.toArray n u (by rw [List.size_toArray]; omega)) ⟨e, ?_⟩
  refine ⟨.non, _, I.lset (its' := its ++ [u]) hH e (by simp) (r.append (.cons ru .nil)) ?_, rfl, q⟩
  rw [List.length_append, List.length_singleton]
  omega
def rExtend : V → List V → Hp → VK → Prop := fun x vs H Q => ∃ l b xs zs, x = .ref l ∧ vs = [.ref b] ∧ H l = some (.lst xs) ∧ H b = some (.lst zs) ∧ xs.length + zs.length ≤ sizeLine ∧ Q .non (upd H l (.lst (xs ++ zs)))
theorem mt_extend : MtM X "list.extend" rExtend := by
  intro pins s σ H x vs v us Q I rx rv h
  obtain ⟨l, b, xs, zs, rfl, rfl, hH, hB, hz, q⟩ := h
  cases rx
  obtain ⟨u, rfl, ru⟩ := rv.one
  cases ru
  obtain ⟨z, its, n, r, hl, e⟩ := I.lstM hH
  obtain ⟨z2, its2, n2, r2, hl2, e2⟩ := I.lstM hB
  have hsz : its.toArray.size + its2.toArray.size ≤ sizeLine := by rw [List.size_toArray, List.size_toArray]; omega
  have hlong : ¬ (!its.toArray.isEmpty && Builtin.List.listTooLong (its.toArray.size + its2.toArray.size)) = true := by
    rw [notLongL hsz, Bool.and_false]
    exact Bool.false_ne_true
  refine call_meets F.slot_list_extend ⟨_, e, rfl⟩ F.entry_list_extend (F.args_list_extend_2 _ _)
    (AutoSeq1.list_extend_list_list_0 l its.toArray n b its2.toArray n2 hlong (by rw [List.size_toArray]; omega) (by omega)) ⟨e, e2, ?_⟩
  refine ⟨.non, _, I.lset (its' := its ++ its2) hH e (by simp) (r.append r2) ?_, rfl, q⟩
  rw [List.length_append]
  omega
def rPop : V → List V → Hp → VK → Prop := fun x vs H Q => ∃ l xs y, x = .ref l ∧ vs = [] ∧ H l = some (.lst xs) ∧ xs[xs.length - 1]? = some y ∧ Q y (upd H l (.lst xs.dropLast))
theorem mt_pop : MtM X "list.pop" rPop := by
  intro pins s σ H x vs v us Q I rx rv h
  obtain ⟨l, xs, y, rfl, rfl, hH, hy, q⟩ := h
  cases rx
  have hus := rv.zero
  subst hus
  obtain ⟨z, its, n, r, hl, e⟩ := I.lstM hH
  obtain ⟨u, hu, ru⟩ := r.get hy
  have hy' : its.toArray[its.toArray.size - 1]? = some u := by
    show its.toArray[its.length - 1]? = some u
    rw [← Array.getElem?_toList, ← hl]
    exact hu
  refine call_meets F.slot_list_pop ⟨_, e, rfl⟩ F.entry_list_pop (F.args_list_pop_1 _) (MeetsSeq.list_pop_last l its.toArray n u hy' (by rw [List.size_toArray]; omega)) ⟨e, ?_⟩
  refine ⟨y, _, I.lset (its' := its.dropLast) hH e ?_ r.dropLast ?_, ru, q⟩
  · show its.toArray.eraseIdxIfInBounds (its.toArray.size - 1) = its.dropLast.toArray
    rw [List.size_toArray, List.eraseIdxIfInBounds_toArray, erase_last]
  · rw [List.length_dropLast]
    omega
def rPopAt : V → List V → Hp → VK → Prop := fun x vs H Q => ∃ l xs i k y, x = .ref l ∧ vs = [.int i] ∧ H l = some (.lst xs) ∧ -(2 ^ 63) ≤ i ∧ i < 2 ^ 63 ∧ seqIndex? i xs.length = some k ∧ xs[k]? = some y ∧ Q y (upd H l (.lst (xs.eraseIdx k)))
def rReverse : V → List V → Hp → VK → Prop := fun x vs H Q => ∃ l xs, x = .ref l ∧ vs = [] ∧ H l = some (.lst xs) ∧ Q .non (upd H l (.lst xs.reverse))
def rClear : V → List V → Hp → VK → Prop := fun x vs H Q => ∃ l xs, x = .ref l ∧ vs = [] ∧ H l = some (.lst xs) ∧ Q .non (upd H l (.lst []))
def rCat : R2 := fun x y H Q => ∃ l b xs zs, x = .ref l ∧ y = .ref b ∧ H l = some (.lst xs) ∧ H b = some (.lst zs) ∧ xs.length + zs.length ≤ sizeLine ∧ ∀ p, H p = none → Q (.ref p) (upd H p (.lst (xs ++ zs)))
theorem op_cat : OpR X (binaryOp .Add) rCat := by
  intro pins s σ H x y v u Q I rx ry h
  obtain ⟨l, b, xs, zs, rfl, rfl, hH, hB, hz, q⟩ := h
  cases rx
  cases ry
  obtain ⟨z, its, n, r, hl, e⟩ := I.lstM hH
  obtain ⟨z2, its2, n2, r2, hl2, e2⟩ := I.lstM hB
  refine PySem.P.add_list e e2 ?_ (by rw [List.size_toArray, List.size_toArray]; omega)
  have ea : its.toArray ++ its2.toArray = (its ++ its2).toArray := by simp
  rw [ea]
  exact ⟨.ref _, _, I.lnew (t' := s.toks) (r.append r2) (by rw [List.length_append]; omega), rfl, q _ I.fresh⟩
def rRep : R2 := fun x y H Q => ∃ l k xs, x = .ref l ∧ y = .int k ∧ H l = some (.lst xs) ∧ -(2 ^ 63) ≤ k ∧ k < 2 ^ 63 ∧ xs.length * k.toNat ≤ sizeLine ∧
  ∀ p, H p = none → Q (.ref p) (upd H p (.lst (List.replicate k.toNat xs).flatten))
end
section
variable {prog : Program} {w : World} {A : Around} {E : Value → Shared → Prop} {s : Shared}
set_option maxRecDepth 100000 in
end
section
variable {X : Cx}
end
end L2
namespace Att
open PySem PySem.W PySem.Calls PyProof.Rows
theorem ints_of_wellAll {P : Params} {h : Heap} : ∀ (ns : List Int) (vs : List Value), WellAll P h vs (ns.map WData.int) → IntsAre vs ns := by
  intro ns
  induction ns with
  | nil =>
    intro vs w
    rw [List.map_nil] at w
    cases w
    exact .nil
  | cons n ns ih =>
    intro vs w
    rw [List.map_cons] at w
    cases w with
    | cons a b =>
      cases a
      exact .cons _ _ (ih _ b)
theorem script_of {l : OpenLaw} {n : Nat} (hn : l.most = some n) {P : Params} {h : Heap} {args : List WData} {vals : List Value}
    (hpre : l.row.toRowW.claim.pre args = true) (hwl : WellAll P h vals args) :
    ∃ a vs ns, vals = [Value.ref a] ∧ args = [WData.list (ns.map WData.int)] ∧ h.get? a = some { cls := .type "list", data := .seq vs.toArray } ∧ IntsAre vs ns ∧ ns.length ≤ n := by
  have hsh : WShape.hasAll [] args [.list .int] = true := (pre_splitW hpre).1
  have hc : l.pre.holds [] { args := args } = true := (pre_splitW hpre).2
  obtain ⟨d, r, rfl, h1, h2⟩ := hasAllW_cons hsh
  obtain rfl := hasAllW_nil h2
  obtain ⟨xs, rfl, h3⟩ := hasW_list h1
  obtain ⟨ns, rfl⟩ := items_int h3
  have hlen : ns.length ≤ n := by
    unfold OpenLaw.pre at hc
    have h4 : (WTm.not (.lt (.lit (.int (n : Int))) (.len (.arg 0)))).holds [] { args := [.list (ns.map .int)] } = true := by
      have h4 := (holds_andW hc).1
      rw [hn] at h4
      exact h4
    have h5 := condW_of h4 (w_not (w_lt w_lit (w_len_list (w_arg rfl))))
    rw [List.length_map] at h5
    refine Nat.le_of_not_lt fun q => ?_
    have q' : (n : Int) < ((ns.length : Nat) : Int) := by omega
    first
      | (rw [decide_eq_true q'] at h5; exact absurd h5 (by decide))
      | (simp at h5; omega)
  cases hwl with
  | cons w1 w2 =>
    cases w2
    cases w1 with
    | list ho hall => exact ⟨_, _, ns, rfl, rfl, ho, ints_of_wellAll ns _ hall, hlen⟩
theorem post_true (l : OpenLaw) (args : List WData) : l.row.toRowW.claim.post args (.bool true) args = true :=
  postW_of (r := l.row.toRowW) (X := (true == true))
    (show WShape.has [] (.bool true) .bool = true by first | rfl | decide | simp [WShape.has, WShape.arms, WShape.armsAll])
    (show (WTm.eq .res (.lit (.bool true))).value [] { args := args, res := some (.bool true), after := args } = some (.bool (true == true)) from w_eq_bool (w_res rfl) w_lit) rfl
theorem attach_call {l : OpenLaw} {n : Nat} {q : Program} {loose : List Str} {XP : (Str → Option Value) → Heap → Prop} {YP : World → Heap → Prop} {d : DefRec}
    (hn : l.most = some n) (hdf : d.params.defaults = [])
    (call : ∀ (w : World) (s₀ s₁ : Shared) (mg mb : Str → Option Value) (fa : Addr) (o : Obj) (pm cd doc : Value) (a : Addr) (vs : List Value) (ns : List Int),
      Ground q loose [] XP w s₀ mg mb s₁.heap → YP w s₁.heap →
      s₁.heap.get? fa = some o → o.data = .func (docDef d.name d.params d.body d.scope pm cd doc) → s₁.heap.CodeRec cd d.name → mg d.name = some (.ref fa) →
      s₁.heap.get? a = some { cls := .type "list", data := .seq vs.toArray } → IntsAre vs ns → ns.length ≤ n → s₁.gens = #[] →
      codeAny (model l.prog w) callerA (.call (.ref fa) ⟨[.ref a], []⟩) (fun r s' => r = .ok (.ret (.bool true)) ∧ OldK s₁.heap s'.heap ∧ s'.os = s₁.os ∧ AllBare s'.gens) s₁) :
    WalkO q loose XP YP l.row.toRowW d [] (fun f vs => PySem.call f vs) := by
  intro w s₀ s₁ mg mb G Y fa o pm cd doc dV kV ho hd hcd hD hmg hg args vals as hpre hlay hrd hwl hlo
  obtain rfl : dV = .none := Dflts.none hD hdf
  obtain rfl : kV = .none := Dflts.noKw hD
  obtain ⟨a, vs, ns, rfl, rfl, hobj, hints, hlen⟩ := script_of hn hpre hwl
  refine enter_call (codeAny_mono (call w s₀ s₁ mg mb fa o pm cd doc a vs ns G Y ho (fd_plain hd) hcd hmg hobj hints hlen hg) fun r s' hq => ?_)
  obtain ⟨rfl, h2, h3, h4⟩ := hq
  exact ⟨.inl ⟨.bool true, .bool true, [], rfl, fun _ => rfl, .bool true, post_true l _, fun _ => ⟨List.Pairwise.nil, fun _ hm => (nomatch hm)⟩⟩, h2, h3, h4⟩
section
variable {prog : Program} {w : World} {A : Around} {E : Value → Shared → Prop} {s : Shared} {K : Frag}
def noObjs (h : Heap) : Heap := { h with objs := #[] }
def ledger (h : Heap) (L d : Addr) : List (Addr × Obj) := (List.range h.objs.size).filterMap fun a => if a = L ∨ a = d then none else (h.get? a).map fun o => (a, o)
end
end Att
namespace L2
open PySem PySem.Spec PyProof.Rows
theorem vals_ints : ∀ {vs : List Value} {ns : List Int}, IntsAre vs ns → Vals (ns.map V.int) vs
  | _, _, .nil => .nil
  | _, _, .cons n t h => .cons ⟨t, rfl⟩ (vals_ints h)
def Only (H : Hp) : Prop := ∀ b, H b = none ∨ ∃ o xs, H b = some (.frz o (.lst xs))
theorem law_call {P : Program} {w : World} {K : PySem.W.Frag} {mg mb : Str → Option Value} {CX : CXT} {k : Nat} {fa a : Addr} {fd : FuncData} {x : Str} {sp : Sp} {s₁ : Shared} {vs : List Value} {ns : List Int}
    (KX : K.In s₁.heap) (hns : s₁.heap.Ns mainGlobals mg) (hb : s₁.heap.Ns builtinsNs mb) (hbb : ∀ x : Str, x ≠ "__name__" → mb x = bootBuiltins x) (hlim : s₁.heap.NoLimit) (hg : s₁.gens = #[])
    (ha : s₁.heap.get? a = some { cls := .type "list", data := .seq vs.toArray }) (hi : IntsAre vs ns) (hl : ns.length ≤ sizeLine) (hr : Room k callerA)
    (F : ∀ base : Heap, K.In base → base.Ns mainGlobals mg → FnOk P w K mg base CX k fa fd [x] sp) (hbind : ∀ (s : Shared) (u : Value), BindsTo s fd ⟨[u], []⟩ [(x, u)])
    (hsp : ∀ H : Hp, Only H → SqL K H a (ns.map V.int) → sp [.ref a] H (fun v _ => v = .bl true) fun _ _ _ => False)
    (hCX : ∀ H e s', CX [] H s₁ (fun _ _ _ => False) e s' → False) :
    codeAny (model P w) callerA (.call (.ref fa) ⟨[.ref a], []⟩) (fun r s' => r = .ok (.ret (.bool true)) ∧ OldK s₁.heap s'.heap ∧ s'.os = s₁.os ∧ AllBare s'.gens) s₁ := by
  have rv := vals_ints hi
  have lenV := hi.length
  have core : ∀ H : Hp, Only H → SqL K H a (ns.map V.int) → HOk P w H s₁.heap → (∀ b, H b ≠ none → b = a) → (H a ≠ none → K.lookup a = none) →
      codeAny (model P w) callerA (.call (.ref fa) ⟨[.ref a], []⟩) (fun r s' => r = .ok (.ret (.bool true)) ∧ OldK s₁.heap s'.heap ∧ s'.os = s₁.os ∧ AllBare s'.gens) s₁ := by
    intro H hO hS hok hA hK
    have base_of : ∀ {b : Addr} {o : Obj}, s₁.heap.get? b = some o → H b = none → (hidT s₁.heap H).get? b = some o := fun e n => hidT_get e n
    have noA : ∀ {b : Addr} {o : Obj} {es : Array DictEntry} {ep : Nat}, s₁.heap.get? b = some o → o.data = .dict es ep → H b = none := fun {b o es ep} e d => by
      cases q : H b with
      | none => rfl
      | some u =>
        have e' : b = a := hA b (by rw [q]; simp)
        subst e'
        rw [ha] at e; cases e
        have d' : Data.seq vs.toArray _ = Data.dict es ep := d
        cases d'
    have nsK : ∀ {b : Addr} {m : Str → Option Value}, s₁.heap.Ns b m → (hidT s₁.heap H).Ns b m := fun {b m} ⟨o, es, ep, e, d, r⟩ => ⟨o, es, ep, base_of e (noA e d), d, r⟩
    have hKb : K.In (hidT s₁.heap H) := fun b o e => base_of (KX b o e) (by
      cases q : H b with
      | none => rfl
      | some u =>
        have e' : b = a := hA b (by rw [q]; simp)
        subst e'
        rw [hK (by rw [q]; simp)] at e; cases e)
    have hM : Mod K mg (hidT s₁.heap H) := ⟨hKb, nsK hns, ⟨mb, nsK hb, hbb⟩, let ⟨mc, h1, h2⟩ := hlim; ⟨mc, nsK h1, h2⟩⟩
    have e0 : Env0 P w K mg (hidT s₁.heap H) callerA [] s₁ H := ⟨rfl, hM, fun b o e => of_hidT e, Nat.le_of_eq (hidT_size _ _), trivial, fun b hb => absurd (show b ∈ ([] : List Addr) from hb) (by simp), hok, .of_eq hg⟩
    refine codeAny_mono ((F _ hKb (nsK hns)).run callerA [] s₁ H ⟨[.ref a], []⟩ [.ref a] [.ref a] _ _ hr e0 (hbind s₁ (.ref a)) (.cons rfl .nil) (hsp H hO hS)) fun r s' h => ?_
    cases r with
    | error e => exact (hCX H e s' h).elim
    | ok fl =>
      cases fl with
      | next => exact False.elim h
      | brk => exact False.elim h
      | cont => exact False.elim h
      | ret u =>
        obtain ⟨v, H', os, bare, un, hok', r', q⟩ := h
        have q' : v = .bl true := q
        subst q'
        obtain rfl : u = Value.bool true := r'
        refine ⟨rfl, OldK.of_keep fun b o e => ?_, os, bare⟩
        cases q : H b with
        | none => exact un.keep b o e q (by intro z; exact absurd (show b ∈ ([] : List Addr) from z) (by simp)) (by simp)
        | some u =>
          rcases hO b with z | ⟨ob, xs, z⟩
          · rw [q] at z; cases z
          · have z2 := un.frzs b ob _ z
            obtain ⟨e1, _⟩ := hok b _ z
            obtain ⟨e2, _⟩ := hok' b _ z2
            rw [e] at e1; cases e1
            exact e2
  cases hk : K.lookup a with
  | some o =>
    have e := KX a o hk
    rw [ha] at e
    cases e
    refine core (fun _ => none) (fun _ => .inl rfl) (.inr ⟨_, vs.toArray, _, hk, rfl, rfl, rfl, by rw [List.size_toArray, lenV]; exact hl, by simpa using rv⟩) (fun b u z => by have z' : (none : Option HO) = some u := z; cases z') (fun b z => absurd rfl z) fun z => absurd rfl z
  | none =>
    refine core (fun b => if b = a then some (.frz { cls := .type "list", data := .seq vs.toArray } (.lst (ns.map V.int))) else none) (fun b => ?_) (.inl (.inr ⟨{ cls := .type "list", data := .seq vs.toArray }, if_pos rfl⟩)) (fun b u z => ?_) (fun b z => ?_) fun _ => hk
    · by_cases hb : b = a
      · exact .inr ⟨_, _, if_pos hb⟩
      · exact .inl (if_neg hb)
    · by_cases hb : b = a
      · have z' := (if_pos hb).symm.trans z
        cases z'
        subst hb
        exact ⟨ha, by rw [List.length_map]; exact hl, vs, _, rv, ha⟩
      · have z' := (if_neg hb).symm.trans z
        cases z'
    · by_cases hb : b = a
      · exact hb
      · exact absurd (if_neg hb) z
end L2
namespace L2
open PySem PySem.Spec PyProof.Rows
abbrev KOf {K : PySem.W.Frag} {h : Heap} (_ : K.In h) : PySem.W.Frag := K
theorem walk_of {l : PySem.W.OpenLaw} {n k : Nat} {q : Program} {loose : List Str} {XP : (Str → Option Value) → Heap → Prop} {YP : World → Heap → Prop} {d : DefRec} {K : Params → PySem.W.Frag} {CX : World → CXT} {sp : World → Sp} {x : Str}
    (hn : l.most = some n) (hn2 : n ≤ sizeLine) (hdf : d.params.defaults = []) (hr : Room k callerA)
    (hY : ∀ (w : World) (h : Heap), YP w h → (K w.params).In h)
    (F : ∀ (w : World) (mg : Str → Option Value) (fa : Addr) (h : Heap), (K w.params).In h → h.Ns mainGlobals mg → mg d.name = some (.ref fa) →
      ∃ fd : FuncData, (∀ (s : Shared) (u : Value), BindsTo s fd ⟨[u], []⟩ [(x, u)]) ∧
        ∀ base : Heap, (K w.params).In base → base.Ns mainGlobals mg → FnOk l.prog w (K w.params) mg base (CX w) k fa fd [x] (sp w))
    (hsp : ∀ (w : World) (H : Hp) (a : Addr) (ns : List Int), ns.length ≤ n → Only H → SqL (K w.params) H a (ns.map V.int) → sp w [.ref a] H (fun v _ => v = .bl true) fun _ _ _ => False)
    (hCX : ∀ (w : World) (H : Hp) (s : Shared) (e : Value) (s' : Shared), CX w [] H s (fun _ _ _ => False) e s' → False) :
    PySem.W.WalkO q loose XP YP l.row.toRowW d [] (fun f vs => PySem.call f vs) := by
  refine Att.attach_call hn hdf fun w s₀ s₁ mg mb fa o pm cd doc a vs ns G Y ho hd hcd hmg hobj hints hlen hg => ?_
  have KX := hY w _ Y
  obtain ⟨fd, hb, hF⟩ := F w mg fa _ KX G.T.g hmg
  exact law_call KX G.T.g G.T.b G.T.builtins G.T.nolimit hg hobj hints (Nat.le_trans hlen hn2) hr hF hb (fun H hO hS => hsp w H a ns hlen hO hS) fun H e s' => hCX w H s₁ e s'
end L2
namespace L2
open PySem PySem.Spec PyProof.Rows
def inClass (s : Stmt) (j : Nat) : Stmt := match s with
  | .ClassDef _ _ _ body _ _ _ _ _ _ _ => body.getD j (.Pass ⟨0, 0, 0, 0⟩)
  | _ => .Pass ⟨0, 0, 0, 0⟩
def defArgs (s : Stmt) : Arguments := match s with
  | .FunctionDef _ a _ _ _ _ _ _ _ _ => a
  | _ => { posonlyargs := [], args := [], vararg := none, kwonlyargs := [], kw_defaults := [], kwarg := none, defaults := [] }
def defBody (s : Stmt) : List Stmt := match s with
  | .FunctionDef _ _ b _ _ _ _ _ _ _ => b
  | _ => []
def defScope (s : Stmt) : Scope := match s with
  | .FunctionDef _ _ _ _ _ _ sc _ _ _ => sc
  | _ => { kind := .function, names := [], isGenerator := false, isCoroutine := false }
abbrev CX0 : CXT := fun _ _ _ _ _ _ => False
abbrev E0 : XK := fun _ _ _ => False
theorem pass0 {X : Cx} : Passes CX0 X E0 := fun _ _ _ _ _ _ _ h => h.elim
structure Fun (K : PySem.W.Frag) (x qual : Str) (st : Stmt) (f : Addr) (fd : FuncData) : Prop where
  ex : ∃ (oc : Value) (od : Option Addr) (kV doc pm : Value) (an : Option Addr) (cdv ct : Value) (osl : Array (Option Value)),
    fd = PySem.W.fnOf x qual (defArgs st) (defBody st) (defScope st) .none kV doc pm an cdv ct ∧ K.lookup f = some ⟨oc, od, .func fd, osl⟩ ∧ PySem.W.codeIn K cdv qual = true
  kp : PySem.W.keepIn K (.ref f) = true
section
variable {P : Program} {w : World} {K : PySem.W.Frag} {mg : Str → Option Value} {base : Heap}
theorem Fun.ok {x qual : Str} {st : Stmt} {f : Addr} {fd : FuncData} {N ps : List Str} {k : Nat} {sp : Sp} (F : Fun K x qual st f fd) (S : FnScope N ps (defScope st)) (len : ∀ vs H Q E, sp vs H Q E → vs.length = ps.length)
    (hbody : ∀ (cdv : Value) (A : Around) (outer : List Env) (s : Shared) (H : Hp) (vs : List V) (Q : VK) (E : XK), Room k (A.deeper (envOfC qual (defScope st) s.heap.objs.size f cdv)) → sp vs H Q E →
      ∃ t, PSs (cxOf CX0 P w K mg base N qual (defScope st) f cdv A outer s H E).nox (defBody st) t ∧ t { nx := fun _ H' => Q .non H', rt := Q } (start N vs) H) : FnOk P w K mg base CX0 (k + 1) f fd ps sp := by
  obtain ⟨oc, od, kV, doc, pm, an, cdv, ct, osl, rfl, lk, hcd⟩ := F.ex
  refine fn_of lk hcd S len fun A outer s H vs Q E hr hsp => ?_
  obtain ⟨t, h, q⟩ := hbody cdv A outer s H vs Q E hr hsp
  exact ⟨t, h.nox, q⟩
theorem Fun.binds {x qual : Str} {st : Stmt} {f : Addr} {fd : FuncData} {ps : List Str} (F : Fun K x qual st f fd)
    (h : ∀ (kV doc pm : Value) (an : Option Addr) (cdv ct : Value) (us : List Value), us.length = ps.length → bindArgs (PySem.W.fnOf x qual (defArgs st) (defBody st) (defScope st) .none kV doc pm an cdv ct) ⟨us, []⟩ = pure (ps.zip us)) : Binds K fd ps [] := by
  obtain ⟨oc, od, kV, doc, pm, an, cdv, ct, osl, rfl, lk, hcd⟩ := F.ex
  exact .all (h kV doc pm an cdv ct)
theorem fun_mk {x qual : Str} {st : Stmt} {f : Addr} {oc : Value} {od an : Option Addr} {osl : Array (Option Value)} {kV doc pm cdv ct : Value} (l : K.lookup f = some ⟨oc, od, .func (PySem.W.fnOf x qual (defArgs st) (defBody st) (defScope st) .none kV doc pm an cdv ct), osl⟩)
    (c : PySem.W.codeIn K cdv qual = true) (k : PySem.W.keepIn K (.ref f) = true) : Fun K x qual st f (PySem.W.fnOf x qual (defArgs st) (defBody st) (defScope st) .none kV doc pm an cdv ct) := ⟨⟨oc, od, kV, doc, pm, an, cdv, ct, osl, rfl, l, c⟩, k⟩
end
theorem small1000 {n : Nat} (h : n ≤ 1000) : n < sizeLine := Nat.lt_of_le_of_lt h (by decide)
section
variable {X : Cx}
theorem pv (i : Nat) {x : Str} {pos : Pos} (hN : X.N[i]? = some x := by rfl) (hv : Vis X.env.scope x := by first | exact Or.inl rfl | exact Or.inr (Or.inl rfl) | exact Or.inr (Or.inr rfl)) (hd : (x == ("__debug__" : Str)) = false := by decide)
    (hcd : (x == ("__classdict__" : Str)) = false := by decide) : PE X (.Name x pos) (tVar i) := pe_var hN hv hd hcd
end
theorem iteF {A B : Prop} (h : B) : if false = true then A else B := by
  rw [if_neg Bool.false_ne_true]
  exact h
theorem iteT {A B : Prop} (h : A) : if true = true then A else B := by
  rw [if_pos rfl]
  exact h
theorem ite2 {c A B : Prop} [Decidable c] (h1 : c → A) (h2 : ¬ c → B) : if c then A else B := by
  by_cases h : c
  · rw [if_pos h]
    exact h1 h
  · rw [if_neg h]
    exact h2 h
theorem iteNS {c A B : Prop} [Decidable c] (hc : c) (h : B) : if (!decide c) = true then A else B := by
  rw [decide_eq_true hc]
  exact iteF h
def Same (H H' : Hp) : Prop := ∀ b o, H b = some o → H' b = some o
theorem Same.refl (H : Hp) : Same H H := fun _ _ h => h
theorem Same.trans {H H1 H2 : Hp} (a : Same H H1) (b : Same H1 H2) : Same H H2 := fun c o h => b c o (a c o h)
theorem Same.free {H H' : Hp} (e : Same H H') {l : Addr} (h : H' l = Option.none) : H l = Option.none := by
  cases q : H l with
  | none => rfl
  | some o =>
    rw [e l o q] at h
    cases h
theorem Same.seq {K : PySem.W.Frag} {H H' : Hp} {a : Addr} {xs : List V} (e : Same H H') (h : SqL K H a xs) : SqL K H' a xs := by
  rcases h with (h | ⟨o, h⟩) | h
  · exact .inl (.inl (e _ _ h))
  · exact .inl (.inr ⟨o, e _ _ h⟩)
  · exact .inr h
end L2
set_option Elab.async false
set_option linter.all false
set_option maxRecDepth 100000
namespace L2
open PySem PySem.Spec PyProof.Rows
def clOf (cells : List (Str × Addr)) : List (Str × NameKind) → List (Str × Addr) → List (Str × Addr)
  | [], acc => acc
  | (n, k) :: r, acc => if k == .free then clOf cells r ((n, (cells.lookup n).getD 0) :: acc) else clOf cells r acc
theorem closureFor_of {sc : Scope} {env : Env} (h : ∀ y ∈ sc.names, y.2 = .free → ∃ c, env.cells.lookup y.1 = some c) :
    closureFor sc env = pure (clOf env.cells sc.names []) := by
  have go : ∀ (names : List (Str × NameKind)) (acc : List (Str × Addr)), (∀ y ∈ names, y.2 = .free → ∃ c, env.cells.lookup y.1 = some c) →
      (forIn names acc fun (x : Str × NameKind) (r : List (Str × Addr)) => if (x.2 == NameKind.free) = true then (do let c ← cellOf env x.1; pure (ForInStep.yield ((x.1, c) :: r))) else pure (ForInStep.yield r) : Sem (List (Str × Addr))) = pure (clOf env.cells names acc) := by
    intro names
    induction names with
    | nil => intro acc _; rfl
    | cons y r ih =>
      intro acc hy
      obtain ⟨n, k⟩ := y
      rw [List.forIn_cons]
      cases hk : (k == NameKind.free) with
      | false =>
        have e1 : clOf env.cells ((n, k) :: r) acc = clOf env.cells r acc := by
          show (if (k == NameKind.free) = true then _ else _) = _
          rw [hk]; rfl
        rw [e1, ← ih acc fun z hz => hy z (List.mem_cons_of_mem _ hz)]
        simp only [hk, Bool.false_eq_true, if_false, pure_bind]
      | true =>
        have hk' : k = .free := by simpa using hk
        obtain ⟨c, hc⟩ := hy (n, k) List.mem_cons_self hk'
        have e1 : clOf env.cells ((n, k) :: r) acc = clOf env.cells r ((n, c) :: acc) := by
          show (if (k == NameKind.free) = true then _ else _) = _
          rw [hk, hc]; rfl
        have e2 : cellOf env n = pure c := by
          unfold cellOf
          rw [hc]
        rw [e1, ← ih ((n, c) :: acc) fun z hz => hy z (List.mem_cons_of_mem _ hz)]
        simp only [hk, if_true, e2, pure_bind]
  have q := go sc.names [] h
  unfold closureFor
  first
    | (rw [show (forIn sc.names ([] : List (Str × Addr)) _ : Sem (List (Str × Addr))) = pure (clOf env.cells sc.names []) from q]; rfl)
    | (simp only [bind_pure]; exact q)
    | exact q
theorem clOf_lookup (cells : List (Str × Addr)) : ∀ (names : List (Str × NameKind)) (acc : List (Str × Addr)) (x : Str) (c : Addr), (clOf cells names acc).lookup x = some c →
    (∃ y ∈ names, y.1 = x ∧ y.2 = .free ∧ c = (cells.lookup x).getD 0) ∨ acc.lookup x = some c
  | [], acc, x, c, h => .inr h
  | (n, k) :: r, acc, x, c, h => by
    by_cases hk : (k == NameKind.free) = true
    · have e : clOf cells ((n, k) :: r) acc = clOf cells r ((n, (cells.lookup n).getD 0) :: acc) := by
        show (if (k == NameKind.free) = true then _ else _) = _
        rw [if_pos hk]
      rw [e] at h
      rcases clOf_lookup cells r _ x c h with ⟨y, hy, q⟩ | q
      · exact .inl ⟨y, List.mem_cons_of_mem _ hy, q⟩
      · rw [List.lookup_cons] at q
        by_cases hx : (x == n) = true
        · rw [hx] at q
          have hx' : x = n := by simpa using hx
          subst hx'
          exact .inl ⟨(x, k), List.mem_cons_self, rfl, by simpa using hk, (Option.some.inj q).symm⟩
        · have hx' : (x == n) = false := by simpa using hx
          rw [hx'] at q
          exact .inr q
    · have e : clOf cells ((n, k) :: r) acc = clOf cells r acc := by
        show (if (k == NameKind.free) = true then _ else _) = _
        rw [if_neg hk]
      rw [e] at h
      rcases clOf_lookup cells r _ x c h with ⟨y, hy, q⟩ | q
      · exact .inl ⟨y, List.mem_cons_of_mem _ hy, q⟩
      · exact .inr q
theorem clOf_acc (cells : List (Str × Addr)) : ∀ (names : List (Str × NameKind)) (acc : List (Str × Addr)) (x : Str), ((∃ y ∈ names, y.1 = x ∧ y.2 = .free) ∨ ∃ c, acc.lookup x = some c) →
    ∃ c, (clOf cells names acc).lookup x = some c
  | [], acc, x, h => by
    rcases h with ⟨y, hy, _⟩ | h
    · cases hy
    · exact h
  | (n, k) :: r, acc, x, h => by
    by_cases hk : (k == NameKind.free) = true
    · have e : clOf cells ((n, k) :: r) acc = clOf cells r ((n, (cells.lookup n).getD 0) :: acc) := by
        show (if (k == NameKind.free) = true then _ else _) = _
        rw [if_pos hk]
      rw [e]
      refine clOf_acc cells r _ x ?_
      by_cases hx : (x == n) = true
      · exact .inr ⟨_, by rw [List.lookup_cons, hx]⟩
      · have hx' : (x == n) = false := by simpa using hx
        rcases h with ⟨y, hy, q⟩ | ⟨c, q⟩
        · rcases List.mem_cons.mp hy with rfl | hy
          · exact absurd (by simpa using q.1.symm) hx
          · exact .inl ⟨y, hy, q⟩
        · exact .inr ⟨c, by rw [List.lookup_cons, hx']; exact q⟩
    · have e : clOf cells ((n, k) :: r) acc = clOf cells r acc := by
        show (if (k == NameKind.free) = true then _ else _) = _
        rw [if_neg hk]
      rw [e]
      refine clOf_acc cells r _ x ?_
      rcases h with ⟨y, hy, q⟩ | h
      · rcases List.mem_cons.mp hy with rfl | hy
        · exact absurd (by simpa using q.2) hk
        · exact .inl ⟨y, hy, q⟩
      · exact .inr h
structure CompSc (N N' : List Str) (o c : Scope) : Prop where
  kind : c.kind = .function
  okind : o.kind = .function
  nocell : ∀ y ∈ c.names, y.2 ≠ .cell
  loc : ∀ y ∈ c.names, y.2 = .local → c.names.lookup y.1 = some .local
  free : ∀ y ∈ c.names, y.2 = .free → c.names.lookup y.1 = some .free ∧ (o.names.lookup y.1 = some .cell ∨ o.names.lookup y.1 = some .free)
  len : N.length ≤ N'.length
  same : ∀ i ∈ List.range N.length, ∀ x ∈ N'[i]?, c.names.lookup x = some .local ∨ c.names.lookup x = some .free → c.names.lookup x = some .free ∧ N[i]? = some x
  nd : N'.Nodup
def compCx (X : Cx) (c : Scope) (N' : List Str) (C : Addr) (s : Shared) (H : Hp) (fp : List Addr) : Cx :=
  { X with N := N', s₀ := s, H₀ := H, env := compEnvC c (clOf X.env.cells c.names []) C X.env, outer := X.stack, stack := X.stack, ex := fp, fn := fun _ => false, pn := [], xe := fun _ _ => False }
theorem relabel_lookup {env : Env} (hf : env.scope.kind = .function) : ∀ (names : List (Str × NameKind)) (x : Str),
    (names.map fun (p : Str × NameKind) => if (p.2 == NameKind.free && env.scope.kind == .function && env.kindOf p.1 == some .cell) = true then (p.1, NameKind.cell) else (p.1, p.2)).lookup x =
      match names.lookup x with
      | some .free => if env.kindOf x = some .cell then some .cell else some .free
      | k => k
  | [], x => rfl
  | (n, k) :: r, x => by
    have ih := relabel_lookup hf r x
    rw [List.map_cons]
    by_cases hx : (x == n) = true
    · have hx' : x = n := by simpa using hx
      subst hx'
      have e2 : List.lookup x ((x, k) :: r) = some k := by rw [List.lookup_cons]; simp
      rw [e2]
      by_cases hk : k = .free
      · subst hk
        by_cases hc : env.kindOf x = some .cell
        · simp [List.lookup_cons, hf, hc]
        · simp [List.lookup_cons, hf, hc]
      · have hk' : (k == NameKind.free) = false := by simpa using hk
        rw [hk']
        simp only [Bool.false_and, Bool.false_eq_true, if_false, List.lookup_cons, beq_self_eq_true]
        all_goals (cases k <;> first | rfl | exact absurd rfl hk)
    · have hx' : (x == n) = false := by simpa using hx
      have e2 : List.lookup x ((n, k) :: r) = List.lookup x r := by rw [List.lookup_cons, hx']
      rw [e2, ← ih]
      by_cases hc : (k == NameKind.free && env.scope.kind == .function && env.kindOf n == some .cell) = true
      · simp only [hc, if_true, List.lookup_cons, hx']
      · simp only [hc, if_false, List.lookup_cons, hx', Bool.false_eq_true]
section
variable {X : Cx} {N N' : List Str} {o c : Scope}
theorem comp_kind (S : CompSc N N' o c) (ho : X.env.scope = o) (cl : List (Str × Addr)) (C : Addr) (x : Str) : (compEnvC c cl C X.env).kindOf x =
    match c.names.lookup x with
    | some .free => if X.env.kindOf x = some .cell then some .cell else some .free
    | k => k := relabel_lookup (env := X.env) (by rw [ho]; exact S.okind) c.names x
theorem lookup_mem {names : List (Str × NameKind)} {x : Str} {k : NameKind} (h : names.lookup x = some k) : (x, k) ∈ names := PySem.mem_of_lookup h
theorem comp_cell (S : CompSc N N' o c) (ho : X.env.scope = o) (ok : X.Ok) {x : Str} {a : Addr} (h : (clOf X.env.cells c.names []).lookup x = some a) :
    X.env.cells.lookup x = some a ∧ c.names.lookup x = some .free := by
  rcases clOf_lookup _ _ _ _ _ h with ⟨y, hy, rfl, hf, e⟩ | q
  · have hk := S.free y hy hf
    have hv : X.env.kindOf y.1 = some .cell ∨ X.env.kindOf y.1 = some .free := by
      show X.env.scope.names.lookup y.1 = _ ∨ X.env.scope.names.lookup y.1 = _
      rw [ho]; exact hk.2
    obtain ⟨b, hb⟩ := ok.has y.1 hv
    rw [hb] at e
    exact ⟨by rw [hb, e]; rfl, hk.1⟩
  · cases q
theorem comp_has (S : CompSc N N' o c) (ho : X.env.scope = o) (ok : X.Ok) {x : Str} (h : c.names.lookup x = some .free) : ∃ a, (clOf X.env.cells c.names []).lookup x = some a ∧ X.env.cells.lookup x = some a := by
  obtain ⟨a, ha⟩ := clOf_acc X.env.cells c.names [] x (.inl ⟨(x, .free), lookup_mem h, rfl, rfl⟩)
  exact ⟨a, ha, (comp_cell S ho ok ha).1⟩
theorem comp_ok (S : CompSc N N' o c) (ho : X.env.scope = o) {pins : List (Addr × Obj)} {σ : St} {H : Hp} {s : Shared} {fp : List Addr} (I : Inv X pins σ H s)
    (hf : ∀ b ∈ fp, FpOk X pins H b) (ht : ∀ b ∈ fp, b < s.heap.objs.size) : (compCx X c N' s.heap.objs.size s H fp).Ok where
  mod := I.ok.mod
  kind := S.kind
  glob := I.ok.glob
  blt := I.ok.blt
  above := Nat.le_refl _
  inj := fun x y a h1 h2 => I.ok.inj x y a (comp_cell S ho I.ok h1).1 (comp_cell S ho I.ok h2).1
  has := fun x hx => by
    have e := comp_kind (X := X) S ho (clOf X.env.cells c.names []) s.heap.objs.size x
    have hx' : (compEnvC c (clOf X.env.cells c.names []) s.heap.objs.size X.env).kindOf x = some .cell ∨ (compEnvC c (clOf X.env.cells c.names []) s.heap.objs.size X.env).kindOf x = some .free := hx
    rw [e] at hx'
    cases q : c.names.lookup x with
    | none => rw [q] at hx'; rcases hx' with z | z <;> cases z
    | some k =>
      by_cases hk : k = .free
      · subst hk
        obtain ⟨a, ha, _⟩ := comp_has S ho I.ok q
        exact ⟨a, ha⟩
      · rw [q] at hx'
        have hc : k = .cell := by
          cases k <;> first | rfl | exact absurd rfl hk | (rcases hx' with z | z <;> cases z)
        subst hc
        exact absurd rfl (S.nocell _ (lookup_mem q))
  cab := fun x a h => by cases (show false = true from h)
  hd := I.ok.hd
  frames := I.ok.frames
  stk := .inl rfl
  exf := fun b hb => ⟨Nat.ne_of_lt (ht b hb), fun x a h => (hf b hb).2.2.2.2.1 x a (comp_cell S ho I.ok h).1⟩
  bs := fun b ob e => I.bs b ob e
  bsz := Nat.le_trans I.ok.bsz I.sz
  noex := fun b ob e hb => by
    rcases (hf b hb).2.2.2.1 with z | z
    · exact I.ok.noex b ob e z
    · exact absurd (Nat.lt_of_lt_of_le (Heap.lt_size e) (Nat.le_trans I.ok.bsz z)) (Nat.lt_irrefl _)
  exfs := fun b hb hb' => by
    rcases List.mem_cons.mp (I.stkSub b hb') with z | z
    · exact (hf b hb).2.1 z
    · exact (hf b hb).2.2.1 z
  funs := I.stack
  frf := I.stkFree
theorem comp_inv (S : CompSc N N' o c) (hN : X.N = N) (ho : X.env.scope = o) {pins : List (Addr × Obj)} {σ : St} {H : Hp} {s : Shared} {fp : List Addr} {h₁ : Heap} {tk : Nat} {m₀ : Str → Option Value} (I : Inv X pins σ H s)
    (hf : ∀ b ∈ fp, FpOk X pins H b) (ht : ∀ b ∈ fp, b < s.heap.objs.size) (hns : h₁.Ns s.heap.objs.size m₀) (hk : ∀ b ob, s.heap.get? b = some ob → h₁.get? b = some ob) :
    Inv (compCx X c N' s.heap.objs.size s H fp) [] (σ ++ List.replicate (N'.length - N.length) none) H { s with heap := h₁, toks := tk } where
  ok := comp_ok S ho I hf ht
  os := rfl
  bare := I.bare
  base := Un.kept hk
  loc := by
    refine ⟨m₀, hns, fun i x v e1 e2 e3 => ?_⟩
    obtain ⟨m, hn, hl⟩ := I.loc
    have hlen : σ.length = N.length := by rw [I.len, hN]
    have hi : i < σ.length := by
      by_cases hi : i < σ.length
      · exact hi
      · rw [List.getElem?_append_right (by omega), List.getElem?_replicate] at e2
        split at e2 <;> cases e2
    have e2' : σ[i]? = some (some v) := by rw [List.getElem?_append_left hi] at e2; exact e2
    have kd := comp_kind (X := X) S ho (clOf X.env.cells c.names []) s.heap.objs.size x
    have vis : c.names.lookup x = some .local ∨ c.names.lookup x = some .free := by
      have e3' : (compEnvC c (clOf X.env.cells c.names []) s.heap.objs.size X.env).kindOf x = some .local ∨ (compEnvC c (clOf X.env.cells c.names []) s.heap.objs.size X.env).kindOf x = some .cell ∨ (compEnvC c (clOf X.env.cells c.names []) s.heap.objs.size X.env).kindOf x = some .free := e3
      rw [kd] at e3'
      cases q : c.names.lookup x with
      | none => rw [q] at e3'; rcases e3' with z | z | z <;> cases z
      | some k =>
        cases k with
        | «local» => exact .inl rfl
        | free => exact .inr rfl
        | cell => exact absurd rfl (S.nocell _ (lookup_mem q))
        | _ => rw [q] at e3'; rcases e3' with z | z | z <;> cases z
    obtain ⟨hfr, hNi⟩ := S.same i (List.mem_range.mpr (by omega)) x (by rw [show N'[i]? = some x from e1]; rfl) vis
    have hok : X.env.kindOf x = some .cell ∨ X.env.kindOf x = some .free := by
      show X.env.scope.names.lookup x = _ ∨ X.env.scope.names.lookup x = _
      rw [ho]; exact (S.free _ (lookup_mem hfr) rfl).2
    obtain ⟨u, r, l⟩ := hl i x v (by rw [hN]; exact hNi) e2' (.inr hok)
    refine ⟨u, r, .inr ⟨?_, ?_⟩⟩
    · show (compEnvC c (clOf X.env.cells c.names []) s.heap.objs.size X.env).kindOf x = some .cell ∨ (compEnvC c (clOf X.env.cells c.names []) s.heap.objs.size X.env).kindOf x = some .free
      rw [kd, hfr]
      show (if X.env.kindOf x = some .cell then some NameKind.cell else some NameKind.free) = some .cell ∨ (if X.env.kindOf x = some .cell then some NameKind.cell else some NameKind.free) = some .free
      by_cases q : X.env.kindOf x = some .cell
      · rw [if_pos q]; exact .inl rfl
      · rw [if_neg q]; exact .inr rfl
    · obtain ⟨a, ha, ha'⟩ := comp_has S ho I.ok hfr
      refine ⟨a, ha, ?_⟩
      rcases l with ⟨z, _⟩ | ⟨_, a', e, ob, hob, hd⟩
      · rcases hok with q | q <;> rw [q] at z <;> cases z
      · rw [ha'] at e; cases e
        exact ⟨ob, hk _ _ hob, hd⟩
  cell := fun x a h => by
    obtain ⟨v, ob, e, d⟩ := I.cell x a (comp_cell S ho I.ok h).1
    exact ⟨v, ob, hk _ _ e, d⟩
  free := I.hok.fresh (Nat.le_refl _)
  freeC := fun x a h => I.freeC x a (comp_cell S ho I.ok h).1
  pin := fun p hp => absurd (show p ∈ ([] : List (Addr × Obj)) from hp) (by simp)
  hok := I.hok.kept hk
  len := by
    have hlen : σ.length = N.length := by rw [I.len, hN]
    have := S.len
    show (σ ++ List.replicate (N'.length - N.length) none).length = N'.length
    rw [List.length_append, List.length_replicate]
    omega
end
end L2
set_option Elab.async false
set_option linter.all false
set_option maxRecDepth 100000
namespace L2
open PySem PySem.Spec PyProof.Rows
abbrev testsOf (ifs : List Expr) (env : Env) : Sem Bool :=
  forIn ifs true fun k r => if r = true then do let ok ← isTrue k env (eval k env); pure (ForInStep.yield ok) else pure (ForInStep.yield r)
def PTs (X : Cx) (ifs : List Expr) (t : TT) : Prop :=
  ∀ (pins : List (Addr × Obj)) (s : Shared) (σ : St) (H : Hp) (Q : Bool → Hp → Prop), Inv X pins σ H s → t σ H Q → wpAny (model X.prog X.w) X.A (testsOf ifs X.env) (TP X pins σ Q) X.xe s
def tYes : TT := fun _ H Q => Q true H
theorem pts_nil {X : Cx} : PTs X [] tYes := fun _ _ _ H _ I h => wpAny_tests_nil ⟨H, I, h⟩
theorem pts_one {X : Cx} {e : Expr} {t : TT} (h : PT X e t) : PTs X [e] t := fun pins s σ H Q I q => wpAny_tests_one (h pins s σ H Q I q)
section
variable {prog : Program} {w : World} {A : Around} {R : Result → Shared → Prop} {s : Shared}
theorem compLoop_any {elt target iter : Expr} {ifs : List Expr} {scope : Scope} {pos : Pos} {it acc : Value} {env : Env} {E : Value → Shared → Prop} (I : Nat → Shared → Prop)
    (hE : ∀ e s', E e s' → False)
    (turn : ∀ n s, I n s → wpAny (model prog w) A (pyNext it) (fun r s₁ => match r with
      | none => R (.ok .next) s₁
      | some v => wpAny (model prog w) A (letOwnedTupleGo target it v) (fun _ s₀ => wpAny (model prog w) A (assign target env v) (fun _ s₂ =>
          wpAny (model prog w) A (testsOf ifs env) (fun ok s₃ =>
            if ok = true then wpAny (model prog w) A (eval elt env) (fun x s₄ =>
              wpAny (model prog w) A (call (.builtin "list.append") [acc, x]) (fun _ s₅ => ∃ m, m < n ∧ I m s₅) E s₄) E s₃
            else ∃ m, m < n ∧ I m s₃) E s₂) E s₀) E s₁) E s)
    (n : Nat) (h : I n s) : codeAny (model prog w) A (.compLoop (.ListComp elt [⟨target, iter, ifs, 0⟩] scope pos) 0 it acc env) R s := by
  have go : ∀ {α : Type} {t : Sem α} {Q : α → Shared → Prop} {s : Shared}, wpAny (model prog w) A t Q E s → wpAny (model prog w) A t Q (notedBy (model prog w) A env fun e s' => R (.error e) s') s :=
    fun {α t Q s} q => wpAny_mono q (fun _ _ z => z) fun e s' z => (hE e s' z).elim
  refine codeAny_loop rfl I (fun n s hI => ?_) n h
  show wpAny _ A ((compTurn (.ListComp elt [⟨target, iter, ifs, 0⟩] scope pos) 0 it acc env).onRaise (fun x => do noteFrame x env; theTreesLotGoes x)) _ _ s
  refine wpAny_noted ?_
  rw [compTurn_list]
  refine wpAny_bind (wpAny_standAt (wpAny_bind (thn (go (turn n s hI)) fun r s₁ h₁ => ?_)))
  cases r with
  | none => exact wpAny_pure h₁
  | some v =>
    refine wpAny_bind (thn (go h₁) fun _ s₀ h₀ => wpAny_bind (thn (go h₀) fun _ s₂ h₂ => wpAny_bind (thn (go h₂) fun ok s₃ h₃ => ?_)))
    cases ok with
    | false => exact wpAny_pure ⟨rfl, h₃⟩
    | true =>
      exact wpAny_bind (wpAny_bind (thn (go h₃) fun x s₄ h₄ => wpAny_bind (thn (go h₄) fun _ s₅ h₅ => wpAny_pure (wpAny_pure ⟨rfl, h₅⟩))))
end
def CompGo (J : It) (D : Addr) (k : Nat) (σ : St) (H1 : Hp) (g : TG) (tc : TT) (te : TE) (Q : VK) : Prop :=
  ∃ W : Nat → Nat → List V → St → Hp → Prop, (∃ m, W 0 m [] (σ ++ List.replicate k none) (upd H1 D (.lst []))) ∧
    ∀ i m ys σ2 H2, W i m ys σ2 H2 → (J.stop i H2 ∧ Q (.ref D) H2) ∨
      (J.go i H2 ∧ ∃ N : List V → St → Hp → Prop, (∀ ys' σ' H', N ys' σ' H' → ∃ m', m' < m ∧ W (i + 1) m' ys' σ' H') ∧ ∀ x H3, J.yld i H2 x H3 → g x σ2 H3 fun σ4 H4 => tc σ4 H4 fun b H5 =>
        if b = true then te σ4 H5 fun y H6 => H6 D = some (.lst ys) ∧ ys.length < sizeLine ∧ N (ys ++ [y]) σ4 (upd H6 D (.lst (ys ++ [y]))) else N ys σ4 H5)
def tComp (n : Nat) (wi : TI) (g : TG) (tc : TT) (te : TE) : TE := fun σ H Q => wi σ H fun J H1 => ∀ D, H1 D = none → CompGo J D n σ H1 g tc te Q
section
variable {X : Cx} {N N' : List Str} {o c : Scope}
theorem comp_run {elt tg iter : Expr} {ifs : List Expr} {pos pos' : Pos} {wi : TI} {g : TG} {tc : TT} {te : TE} {use : Option (Value → Sem Unit)} {QQ : Value → Shared → Prop} (S : CompSc N N' o c) (hN : X.N = N) (ho : X.env.scope = o) (hc : X.calm = true)
    (hi : PI X tg iter wi) (hg : ∀ C s H fp, PG (compCx X c N' C s H fp) tg g) (ht : ∀ C s H fp, PTs (compCx X c N' C s H fp) ifs tc) (he : ∀ C s H fp, PE (compCx X c N' C s H fp) elt te)
    (hs : ∀ x, foldedSetIterable iter X.env x = pure x) {pins : List (Addr × Obj)} {s : Shared} {σ : St} {H : Hp} {Q : VK} (I : Inv X pins σ H s) (h : tComp (N'.length - N.length) wi g tc te σ H Q)
    (post : ∀ (D C : Addr) (s5 : Shared) (H5 : Hp) (m : Str → Option Value), Inv X pins σ H5 s5 → H5 C = none → s5.heap.Ns C m → C ≠ X.env.locals → X.s₀.heap.objs.size ≤ C → (∀ x a, X.env.cells.lookup x = some a → a ≠ C) → (∀ p ∈ X.pn ++ pins, p.1 ≠ C) →
      Q (.ref D) H5 → compPost (model X.prog X.w) X.A X.xe use QQ (.ref D) C (.ok .next) s5) :
    wpAny (model X.prog X.w) X.A (comprehension (.ListComp elt [⟨tg, iter, ifs, 0⟩] c pos) c X.env pos' (newList []) false (eval iter X.env) use) QQ X.xe s := by
  have hclos : closureFor c X.env = pure (clOf X.env.cells c.names []) := closureFor_of fun y hy hf => by
    refine I.ok.has y.1 ?_
    show X.env.scope.names.lookup y.1 = _ ∨ X.env.scope.names.lookup y.1 = _
    rw [ho]; exact (S.free y hy hf).2
  refine wpAny_comprehension_free (use := use) rfl hs hclos S.kind S.loc (thn (hi pins s σ H _ I h) fun v s1 h1 => thn h1 fun itv s2 h2 => ?_)
  obtain ⟨it, fp, tn, J, H2, e, I2, T, st2, f2, hR⟩ := h2
  subst e
  have hD : H2 s2.heap.objs.size = none := I2.fresh
  have I3 : Inv X pins σ (upd H2 s2.heap.objs.size (.lst [])) { s2 with heap := s2.heap.push { cls := .type "list", data := .seq ([] : List Value).toArray } } :=
    I2.lnew (ys := []) (its := []) (t' := s2.toks) .nil (Nat.zero_le _)
  have fpl : ∀ b ∈ fp, b < s2.heap.objs.size := fun b hb => by
    obtain ⟨ob, e, _⟩ := T.obj 0 _ st2 b hb
    exact Heap.lt_size e
  refine wpAny_newObj_type (wpAny_newFunctionEnv S.nocell (by intro y hy; simp at hy) (fun h₁ hns₁ hsb₁ => ?_) S.kind)
  have e3 : ∃ s3 : Shared, s3 = { s2 with heap := s2.heap.push { cls := .type "list", data := .seq ([] : List Value).toArray } } := ⟨_, rfl⟩
  obtain ⟨s3, hs3⟩ := e3
  have e3 : s3.heap = s2.heap.push { cls := .type "list", data := .seq ([] : List Value).toArray } := by rw [hs3]
  have sz3 : s3.heap.objs.size = s2.heap.objs.size + 1 := by rw [e3, Heap.size_push]
  have fpl3 : ∀ b ∈ fp, b < s3.heap.objs.size := fun b hb => Nat.lt_of_lt_of_le (fpl b hb) (by rw [sz3]; exact Nat.le_succ _)
  have f3 : ∀ b ∈ fp, FpOk X pins (upd H2 s2.heap.objs.size (.lst [])) b := fun b hb => ⟨by rw [upd_ne (Nat.ne_of_lt (fpl b hb))]; exact (f2 b hb).1, (f2 b hb).2⟩
  have st3 : tn 0 s3.heap := T.keep 0 _ _ st2 fun b _ ob e => by rw [e3]; exact Heap.get?_push_of_some _ e
  rw [← hs3] at I3
  show codeAny (model X.prog X.w) X.A (.compStart _ 0 (.ref it) (.ref s2.heap.objs.size) (compEnvC c (clOf X.env.cells c.names []) (s2.heap.push { cls := .type "list", data := .seq ([] : List Value).toArray }).objs.size X.env))
    (compPost (model X.prog X.w) X.A X.xe use QQ (.ref s2.heap.objs.size) (s2.heap.push { cls := .type "list", data := .seq ([] : List Value).toArray }).objs.size)
    { s2 with heap := h₁, toks := s2.toks + ([] : List (Str × Value)).length }
  have hns : h₁.Ns s3.heap.objs.size (fun x => ([] : List (Str × Value)).reverse.lookup x) := by rw [e3]; exact hns₁
  have hk1 : ∀ b ob, s3.heap.get? b = some ob → h₁.get? b = some ob := fun b ob e => by
    rw [e3] at e
    exact hsb₁.extBut b ob (Nat.ne_of_lt (Heap.lt_size e)) (Heap.get?_push_of_some _ e)
  rw [← e3]
  have es4 : ({ s2 with heap := h₁, toks := s2.toks + ([] : List (Str × Value)).length } : Shared) = { s3 with heap := h₁, toks := s2.toks } := by rw [hs3]; rfl
  rw [es4]
  obtain ⟨W, ⟨m0, w0⟩, turn⟩ := hR s2.heap.objs.size hD
  have I4 := comp_inv (tk := s2.toks) S hN ho I3 f3 fpl3 hns hk1
  have st4 : tn 0 h₁ := T.keep 0 _ _ st3 fun b _ ob e => hk1 b ob e
  generalize hX : compCx X c N' s3.heap.objs.size s3 (upd H2 s2.heap.objs.size (.lst [])) fp = Y at I4
  have Yp : Y.prog = X.prog := by rw [← hX]; rfl
  have Yw : Y.w = X.w := by rw [← hX]; rfl
  have YK : Y.K = X.K := by rw [← hX]; rfl
  have Yc : Y.calm = true := by rw [← hX]; exact hc
  have YA : Y.A = X.A := by rw [← hX]; rfl
  have Yenv : Y.env = compEnvC c (clOf X.env.cells c.names []) s3.heap.objs.size X.env := by rw [← hX]; rfl
  have Yl : Y.env.locals = s3.heap.objs.size := by rw [Yenv]; rfl
  have Yxe : Y.xe = fun _ _ => False := by rw [← hX]; rfl
  have hg' := hg s3.heap.objs.size s3 (upd H2 s2.heap.objs.size (.lst [])) fp
  have ht' := ht s3.heap.objs.size s3 (upd H2 s2.heap.objs.size (.lst [])) fp
  have he' := he s3.heap.objs.size s3 (upd H2 s2.heap.objs.size (.lst [])) fp
  rw [hX] at hg' ht' he'
  have stat : ∀ {H' : Hp}, (∀ b ∈ fp, H' b = none) → ∀ b ∈ fp, FpOk Y [] H' b := fun {H'} hn b hb => by
    obtain ⟨_, q1, q2, q3, q4, _⟩ := f3 b hb
    have z1 := I4.ok.exf b (by rw [← hX]; exact hb)
    refine ⟨hn b hb, z1.1, I4.ok.exfs b (by rw [← hX]; exact hb), .inl (by rw [← hX]; exact hb), z1.2, fun p hp => ?_⟩
    have hp' : p ∈ ([] : List (Addr × Obj)) := by
      have : Y.pn = [] := by rw [← hX]; rfl
      rw [this] at hp; exact hp
    cases hp'
  have fin : ∀ (s5 : Shared) (σ5 : St) (H5 : Hp), Inv Y [] σ5 H5 s5 → Q (.ref s2.heap.objs.size) H5 → compPost (model X.prog X.w) X.A X.xe use QQ (.ref s2.heap.objs.size) s3.heap.objs.size (.ok .next) s5 := fun s5 σ5 H5 I5 q => by
    obtain ⟨m, hn, _⟩ := id I5.loc
    rw [Yl] at hn
    have hCn : H5 s3.heap.objs.size = none := by have := I5.free; rw [Yl] at this; exact this
    have un : Un (frs X.stack) fp (upd H2 s2.heap.objs.size (.lst [])) H5 s3.heap s5.heap := by
      have := I5.base
      rw [← hX] at this
      exact this
    have os5 : s5.os = s3.os := by have := I5.os; rw [← hX] at this; exact this
    have hok5 : HOk X.prog X.w H5 s5.heap := by
      have := I5.hok
      rw [Yp, Yw] at this
      exact this
    refine post _ _ s5 H5 m (I3.call' (s' := s5) (ch := fp) os5 un hok5 I5.bare fun b hb => ?_) hCn hn (Nat.ne_of_gt I3.lt) I3.sz (fun x a e => ?_) (fun p hp => ?_) q
    · obtain ⟨_, q1, _, q3, q4, q5⟩ := f3 b hb
      exact ⟨q3, q1, q4, q5⟩
    · obtain ⟨v, ob, e', _⟩ := I3.cell x a e
      exact Nat.ne_of_lt (Heap.lt_size e')
    · exact Nat.ne_of_lt (Heap.lt_size (I3.pin p hp).1)
  have loop : codeAny (model X.prog X.w) X.A (.compLoop (.ListComp elt [⟨tg, iter, ifs, 0⟩] c pos) 0 (.ref it) (.ref s2.heap.objs.size) (compEnvC c (clOf X.env.cells c.names []) s3.heap.objs.size X.env))
      (compPost (model X.prog X.w) X.A X.xe use QQ (.ref s2.heap.objs.size) s3.heap.objs.size) { s3 with heap := h₁, toks := s2.toks } := by
    rw [← Yenv, ← YA]
    refine compLoop_any (E := fun _ _ => False) (fun n s' => ∃ i ys σ' H', Inv Y [] σ' H' s' ∧ tn i s'.heap ∧ (∀ b ∈ fp, H' b = none) ∧ W i n ys σ' H') (fun _ _ z => z) ?_ m0
      ⟨0, [], _, _, I4, st4, fun b hb => (f3 b hb).1, ?_⟩
    · rintro n s5 ⟨i, ys, σ5, H5, I5, st5, fr5, w5⟩
      rcases turn i n ys σ5 H5 w5 with ⟨stop, qn⟩ | ⟨go, Nn, hNn, step⟩
      · refine thn (T.done Y Yp Yw YK Yc i [] s5 σ5 H5 _ I5 (stat fr5) st5 stop) fun r s6 ⟨hr, I6⟩ => ?_
        subst hr
        have fq := fin s6 σ5 H5 I6 qn
        rw [← YA] at fq
        exact fq
      · refine thn (T.item Y Yp Yw YK Yc i [] s5 σ5 H5 _ I5 (stat fr5) st5 go) fun r s6 ⟨u, hr, h6⟩ => ?_
        subst hr
        refine thn h6 fun _ s7 ⟨x, H7, I7, r7, y7, st7, fr7⟩ => ?_
        have I7' := I7.pinned (stat fr7) (T.obj _ _ st7)
        have back : ∀ {σ9 : St} {H9 : Hp} {s9 : Shared}, Inv Y ([] ++ pinsAt fp s7.heap) σ9 H9 s9 → Inv Y [] σ9 H9 s9 ∧ tn (i + 1) s9.heap ∧ ∀ b ∈ fp, H9 b = none := fun {σ9 H9 s9} I9 => by
          refine ⟨I9.unpinned, T.keep _ _ _ st7 fun b hb ob e => (I9.pin (b, ob) (List.mem_append_right _ (List.mem_append_right _ (mem_pinsAt hb e)))).1, fun b hb => ?_⟩
          obtain ⟨ob, e, d⟩ := T.obj _ _ st7 b hb
          exact (I9.pin (b, ob) (List.mem_append_right _ (List.mem_append_right _ (mem_pinsAt hb e)))).2.1
        have P1 := hg' _ s7 σ5 H7 x u _ I7' r7 (step x H7 y7)
        rw [Yp, Yw, Yxe] at P1
        refine thn P1 fun _ s8 ⟨σ8, H8, I8, q8⟩ => ?_
        have P2 := ht' _ s8 σ8 H8 _ I8 q8
        rw [Yp, Yw, Yxe] at P2
        refine thn P2 fun ok s9 ⟨H9, I9, q9⟩ => ?_
        cases ok with
        | false =>
          rw [if_neg Bool.false_ne_true] at q9
          rw [if_neg Bool.false_ne_true]
          obtain ⟨b1, b2, b3⟩ := back I9
          obtain ⟨m', hm', w9⟩ := hNn _ _ _ q9
          exact ⟨m', hm', i + 1, ys, σ8, H9, b1, b2, b3, w9⟩
        | true =>
          rw [if_pos rfl] at q9
          rw [if_pos rfl]
          have P3 := he' _ s9 σ8 H9 _ I9 q9
          rw [Yp, Yw, Yxe] at P3
          refine thn P3 fun y s10 ⟨vy, H10, I10, r10, hDl, hsz, q10⟩ => ?_
          have P4 := mt_append (X := Y) _ s10 σ8 H10 (.ref s2.heap.objs.size) [vy] (.ref s2.heap.objs.size) [y] (fun _ H' => Nn (ys ++ [vy]) σ8 H') I10 rfl (.cons r10 .nil) ⟨_, ys, vy, rfl, rfl, hDl, hsz, q10⟩
          rw [Yp, Yw, Yxe] at P4
          refine thn P4 fun _ s11 ⟨_, H11, I11, _, q11⟩ => ?_
          obtain ⟨b1, b2, b3⟩ := back I11
          obtain ⟨m', hm', w11⟩ := hNn _ _ _ q11
          exact ⟨m', hm', i + 1, ys ++ [vy], σ8, H11, b1, b2, b3, w11⟩
    · exact w0
  have lp := T.self X.A 0 { s3 with heap := h₁, toks := s2.toks } (fun it' s' => codeAny (model X.prog X.w) X.A (.compLoop (.ListComp elt [⟨tg, iter, ifs, 0⟩] c pos) 0 it' (.ref s2.heap.objs.size) (compEnvC c (clOf X.env.cells c.names []) s3.heap.objs.size X.env))
      (compPost (model X.prog X.w) X.A X.xe use QQ (.ref s2.heap.objs.size) s3.heap.objs.size) s') (fun _ _ => False) st4 loop
  exact codeAny_compStart_list loop (wpAny_mono lp (fun _ _ z => z) fun _ _ z => z.elim)
theorem Inv.let {pins : List (Addr × Obj)} {σ : St} {H : Hp} {s : Shared} {C : Addr} {h' : Heap} (I : Inv X pins σ H s) (hn : H C = none) (hL : C ≠ X.env.locals) (h1 : X.s₀.heap.objs.size ≤ C)
    (h2 : ∀ x a, X.env.cells.lookup x = some a → a ≠ C) (h3 : ∀ p ∈ X.pn ++ pins, p.1 ≠ C) (hs : Heap.SameBut C s.heap h') : Inv X pins σ H { s with heap := h' } :=
  I.turned (t' := s.toks) (fun b ob hb e => hs.extBut b ob hb e) hn hL (.inr h1) h2 h3
theorem pe_comp {elt tg iter : Expr} {ifs : List Expr} {pos : Pos} {wi : TI} {g : TG} {tc : TT} {te : TE} (S : CompSc N N' o c) (hN : X.N = N) (ho : X.env.scope = o) (hc : X.calm = true)
    (hi : PI X tg iter wi) (hg : ∀ C s H fp, PG (compCx X c N' C s H fp) tg g) (ht : ∀ C s H fp, PTs (compCx X c N' C s H fp) ifs tc) (he : ∀ C s H fp, PE (compCx X c N' C s H fp) elt te)
    (hs : ∀ x, foldedSetIterable iter X.env x = pure x := by intro _; rfl) :
    PE X (.ListComp elt [⟨tg, iter, ifs, 0⟩] c pos) (tComp (N'.length - N.length) wi g tc te) := by
  intro pins s σ H Q I h
  rw [eval_ListComp]
  refine comp_run (use := none) S hN ho hc hi hg ht he hs I h fun D C s5 H5 m I5 hCn hn n1 n2 n3 n4 q => ⟨m, hn, fun h' hsb => ?_⟩
  exact ⟨.ref D, H5, I5.let hCn n1 n2 n3 n4 hsb, rfl, q⟩
theorem ps_setComp {i : Nat} {x : Str} {elt tg iter : Expr} {ifs : List Expr} {pos pos' spos : Pos} {wi : TI} {g : TG} {tc : TT} {te : TE} (hnd : X.N.Nodup) (hx : X.N[i]? = some x) (hl : Loc X.env.scope x) (S : CompSc N N' o c) (hN : X.N = N) (ho : X.env.scope = o) (hc : X.calm = true)
    (hi : PI X tg iter wi) (hg : ∀ C s H fp, PG (compCx X c N' C s H fp) tg g) (ht : ∀ C s H fp, PTs (compCx X c N' C s H fp) ifs tc) (he : ∀ C s H fp, PE (compCx X c N' C s H fp) elt te)
    (hsw : swapsWith (.ListComp elt [⟨tg, iter, ifs, 0⟩] c pos) (some (.Name x pos')) spos.line X.env = pure true)
    (hs : ∀ x, foldedSetIterable iter X.env x = pure x := by intro _; rfl) (hf : X.fn x = true ∨ X.env.scope.names.lookup x = some .local := by first | exact .inl rfl | exact .inr rfl | assumption) :
    PS X (.Assign [.Name x pos'] (.ListComp elt [⟨tg, iter, ifs, 0⟩] c pos) spos) (tAsg (tComp (N'.length - N.length) wi g tc te) (gName i)) := by
  intro pins s σ H D I h
  rw [exec_Assign_Name_used _ _ _ _ hsw]
  refine wpAny_bind (wpAny_standAt (wpAny_bind ?_))
  show wpAny _ X.A (do let _ ← comprehension (.ListComp elt [⟨tg, iter, ifs, 0⟩] c pos) c X.env _ (newList []) false (eval iter X.env) (some (assign (.Name x pos') X.env))) _ _ s
  refine wpAny_bind (thn (comp_run (QQ := fun _ s' => SP X pins D .next s') (use := some (assign (.Name x pos') X.env)) S hN ho hc hi hg ht he hs I h ?_) fun _ s' hq => wpAny_pure (wpAny_pure hq))
  intro L C s5 H5 m I5 hCn hn n1 n2 n3 n4 q
  show wpAny _ X.A (assign (.Name x pos') X.env (.ref L)) _ _ _
  refine wpAny_assign_Name (store_ok2 (v := .ref L) I5 hnd hx hl rfl (fun s6 I6 ⟨a, hsb, ha⟩ => ?_) hf)
  have nCa : C ≠ a := by
    rcases ha with z | z
    · rw [z]; exact n1
    · exact (n3 x a z).symm
  exact ⟨m, hn.sameBut hsb nCa, fun h' hsb' => ⟨_, H5, I6.let hCn n1 n2 n3 n4 hsb', q⟩⟩
end
end L2
set_option Elab.async false
set_option linter.all false
set_option maxRecDepth 100000
namespace L2
open PySem PySem.Spec PyProof.Rows
section
variable {X : Cx}
def rIsi (K : PySem.W.Frag) : List V → Hp → VK → Prop := fun xs H Q => ∃ x c t b, xs = [x, .ty c] ∧ TyOf K H x t ∧ PySem.W.kitOne K t (.type c) = some b ∧ Q (.bl b) H
theorem call_isi : CallR X (.builtin "isinstance") (rIsi X.K) := by
  intro pins s σ H xs us Q I r h
  obtain ⟨x, c, t, b, rfl, ty, e, q⟩ := h
  obtain ⟨u, w', rfl, rx, rc⟩ := vals2 r
  cases rc
  exact isinst_ok I rx ty e fun tk => ⟨.bl b, H, I.tok _, rfl, q⟩
def rIsiT (K : PySem.W.Frag) : List V → Hp → VK → Prop := fun xs H Q => ∃ (x : V) (tp : Addr) (cs : List String) (t : Value) (b : Bool), xs = [x, .ref tp] ∧ H tp = some (.tup (cs.map V.ty)) ∧ TyOf K H x t ∧ PySem.W.kitAny K t (cs.map Value.type) = some b ∧ Q (.bl b) H
theorem vals_ty {cs : List String} : ∀ {us : List Value}, Vals (cs.map V.ty) us → us = cs.map Value.type := by
  induction cs with
  | nil => intro us r; rw [List.map_nil] at r; cases r; rfl
  | cons y ys ih =>
    intro us r
    rw [List.map_cons] at r
    cases r with
    | cons r1 r2 => rw [show _ = Value.type y from r1, ih r2]; rfl
theorem call_isiT : CallR X (.builtin "isinstance") (rIsiT X.K) := by
  intro pins s σ H xs us Q I r h
  obtain ⟨x, tp, cs, t, b, rfl, ht, ty, e, q⟩ := h
  obtain ⟨u, w', rfl, rx, rc⟩ := vals2 r
  cases rc
  obtain ⟨_, its, rv, ⟨ot, e1, e2, n, e3⟩⟩ := I.hok tp _ ht
  have ei := vals_ty rv
  subst ei
  obtain ⟨oc, od, dt, sl⟩ := ot
  have e2' : oc = Value.type "tuple" := e2
  have e3' : dt = Data.seq (cs.map Value.type).toArray n := e3
  subst e2'; subst e3'
  have fin : ∀ tk, EP X pins σ Q (.bool b) { s with toks := tk } := fun tk => ⟨.bl b, H, I.tok _, rfl, q⟩
  cases ty with
  | non => cases (show u = Value.none from rx); exact PySem.W.kia_tup PySem.W.kitx_none I.kIn True.intro e1 e (fun z => nomatch z) fin
  | bl y => cases (show u = Value.bool y from rx); exact PySem.W.kia_tup PySem.W.kitx_bool I.kIn True.intro e1 e (fun z => nomatch z) fin
  | int i => obtain ⟨t, q⟩ := (show ∃ t, u = Value.int i t from rx); cases q; exact PySem.W.kia_tup PySem.W.kitx_int I.kIn True.intro e1 e (fun z => nomatch z) fin
  | str y => obtain ⟨t, q⟩ := (show ∃ t, u = Value.str y t from rx); cases q; exact PySem.W.kia_tup PySem.W.kitx_str I.kIn True.intro e1 e (fun z => nomatch z) fin
  | flt y => obtain ⟨t, q⟩ := (show ∃ t, u = Value.float y t from rx); cases q; exact PySem.W.kia_tup PySem.W.kitx_float I.kIn True.intro e1 e (fun z => nomatch z) fin
  | @lst a xs ea =>
    cases (show u = Value.ref a from rx)
    obtain ⟨_, _, n, _, h1⟩ := (show ObjOk X.prog X.w H s.heap a (.lst xs) from I.hok a _ ea)
    exact PySem.W.kia_tup PySem.W.kitx_list I.kIn ⟨_, h1, rfl⟩ e1 e (fun z => nomatch z) fin
  | @frz a ob xs ea =>
    cases (show u = Value.ref a from rx)
    obtain ⟨_, _, _, n, _, h1⟩ := (show ObjOk X.prog X.w H s.heap a (.frz ob (.lst xs)) from I.hok a _ ea)
    exact PySem.W.kia_tup PySem.W.kitx_list I.kIn ⟨_, h1, rfl⟩ e1 e (fun z => nomatch z) fin
  | @tup a xs ea =>
    cases (show u = Value.ref a from rx)
    obtain ⟨_, _, _, p⟩ := (show ObjOk X.prog X.w H s.heap a (.tup xs) from I.hok a _ ea)
    obtain ⟨o, h1, h2, _⟩ := p
    exact PySem.W.kia_tup PySem.W.kitx_tuple I.kIn ⟨o, h1, h2⟩ e1 e (fun z => nomatch z) fin
  | @dK a kvs ea =>
    cases (show u = Value.ref a from rx)
    obtain ⟨_, _, vs, _, p⟩ := (show ObjOk X.prog X.w H s.heap a (.dK kvs) from I.hok a _ ea)
    obtain ⟨o, es, ep, h1, h2, _⟩ := p
    exact PySem.W.kia_tup PySem.W.kitx_dict I.kIn ⟨o, h1, h2.1⟩ e1 e (fun z => nomatch z) fin
  | @dT a kvs ea =>
    cases (show u = Value.ref a from rx)
    obtain ⟨_, _, xs, _, o, es, ep, h1, h2, _⟩ := (show ObjOk X.prog X.w H s.heap a (.dT kvs) from I.hok a _ ea)
    exact PySem.W.kia_tup PySem.W.kitx_dict I.kIn ⟨o, h1, h2.1⟩ e1 e (fun z => nomatch z) fin
  | @ins a C dx fs ea cl ha hn htk hm =>
    cases (show u = Value.ref a from rx)
    obtain ⟨mA, O, _⟩ := ins_get I.hok ea
    obtain ⟨od, J, _⟩ := O.look
    exact PySem.W.kia_tup (PySem.W.kitx_own (cl.get _) cl.hd ha hn htk hm) I.kIn J e1 e (fun z => nomatch z) fin
theorem call_all (hc : X.calm = true) : CallR X (.builtin "all") (fun xs H Q => ∃ (p : Addr) (bs : List Bool), xs = [.ref p] ∧ SqL X.K H p (bs.map V.bl) ∧ Q (.bl (bs.all id)) H) := by
  intro pins s σ H xs us Q I r h
  obtain ⟨p, bs, rfl, hq, q⟩ := h
  obtain ⟨u, rfl, rx⟩ := vals1 r
  cases rx
  obtain ⟨its, rv, pl, hz⟩ := I.list hq
  have hl := pl.isList
  have hlt : p < s.heap.objs.size := by obtain ⟨_, e, _⟩ := hl; exact Heap.lt_size e
  refine call_all_walk (wpAny_pyIter_list hl ?_)
  refine ⟨s.heap.objs.size, [s.heap.objs.size, p], [s.heap.objs.size], its.toArray.size, _, _, fun i => (bs[i]?).getD true, rfl, Walks.list (A := X.A.in1) (I.ok.hd hc) _ p (Nat.ne_of_lt hlt) its.toArray,
    ⟨⟨_, Heap.get?_push_size _ rfl, rfl, rfl⟩, hl.push _⟩, fun i v s' Q' E' hP hQ => ?_, fun h' tk hk => ?_⟩
  · have hP' : its[i]? = some v := by simpa using hP
    have hi : i < its.length := (List.getElem?_eq_some_iff.mp hP').1
    have hlen := rv.length
    have hb : (bs.map V.bl)[i]? = some (V.bl (bs[i]'(by rw [List.length_map] at hlen; omega))) := by
      rw [List.getElem?_map, List.getElem?_eq_getElem (by rw [List.length_map] at hlen; omega)]; rfl
    obtain ⟨u', hu', ru'⟩ := rv.get hb
    rw [hP'] at hu'; cases hu'
    obtain rfl : v = Value.bool _ := ru'
    have hQ2 : Q' ((bs[i]?).getD true) s' := hQ
    rw [List.getElem?_eq_getElem (by rw [List.length_map] at hlen; omega)] at hQ2
    exact wpAny_truthy_bool hQ2
  · have e : ((List.range its.toArray.size).all fun i => (bs[i]?).getD true) = bs.all id := by
      have hlen := rv.length
      rw [List.length_map] at hlen
      rw [List.size_toArray, ← hlen, Bool.eq_iff_iff, List.all_eq_true, List.all_eq_true]
      constructor
      · intro z b hb
        obtain ⟨i, hi, rfl⟩ := List.mem_iff_getElem.mp hb
        have := z i (List.mem_range.mpr hi)
        rw [List.getElem?_eq_getElem hi] at this
        exact this
      · intro z i hi
        have hi' := List.mem_range.mp hi
        rw [List.getElem?_eq_getElem hi']
        exact z _ (List.getElem_mem hi')
    refine ⟨.bl (bs.all id), H, I.kept fun b ob e' => hk b ob (fun hm => ?_) (Heap.get?_push_of_some _ e'), by rw [e]; rfl, q⟩
    rw [List.mem_singleton.mp hm] at e'
    exact Nat.lt_irrefl _ (Heap.lt_size e')
def rSlS : V → Option Int → Option Int → Hp → VK → Prop := fun x lo hi H Q => ∃ z, x = .str z ∧ z.length ≤ sizeLine ∧ Q (.str (Txt.slice z lo hi)) H
end
end L2
set_option Elab.async false
set_option linter.all false
set_option maxRecDepth 100000
namespace L2
open PySem PySem.Spec PyProof.Rows
inductive Src where
  | l (a : Addr) | t (a : Addr) | s (z : Str)
def Src.val : Src → V
  | .l a => .ref a
  | .t a => .ref a
  | .s z => .str z
def oneSign (c : Nat) : V := .str ⟨#[c]⟩
def Src.its (K : PySem.W.Frag) (H : Hp) : Src → List V → Prop
  | .l a, xs => SqL K H a xs
  | .t a, xs => SqT K H a xs
  | .s z, xs => xs = z.cps.toList.map oneSign
def Src.at (h : Heap) (i : Addr) : Src → Nat → Prop
  | .l a, k => h.IsListIter i a k
  | .t a, k => h.IsTupleIter i a k
  | .s z, k => ∃ tk, h.IsStrIter i (strIterType z) z tk k
def Src.raw (h : Heap) : Src → List Value → Prop
  | .l a, us => h.IsList a us.toArray
  | .t a, us => h.IsTuple a us.toArray
  | .s _, _ => True
def Src.fit : Src → List Value → Nat → Value → Prop
  | .l _, us, k, u => us[k]? = some u
  | .t _, us, k, u => us[k]? = some u
  | .s z, _, k, u => ∃ c tk, z.cps[k]? = some c ∧ u = .str ⟨#[c]⟩ tk
def Src.many : Src → List Value → Nat
  | .l _, us => us.length
  | .t _, us => us.length
  | .s z, _ => z.cps.size
def Src.off : Src → Addr → Prop
  | .l a, b => a ≠ b
  | .t a, b => a ≠ b
  | .s _, _ => True
theorem Src.at_obj {h : Heap} {i : Addr} : ∀ {S : Src} {k : Nat}, S.at h i k → ∃ o vs, h.get? i = some o ∧ o.data = .fields vs
  | .l _, _, ⟨o, e, _, d⟩ => ⟨o, _, e, d⟩
  | .t _, _, ⟨o, e, _, d⟩ => ⟨o, _, e, d⟩
  | .s _, _, ⟨_, o, e, _, d⟩ => ⟨o, _, e, d⟩
theorem Src.at_keep {h h' : Heap} {i : Addr} (k' : ∀ o, h.get? i = some o → h'.get? i = some o) : ∀ {S : Src} {k : Nat}, S.at h i k → S.at h' i k
  | .l _, _, ⟨o, e, d⟩ => ⟨o, k' o e, d⟩
  | .t _, _, ⟨o, e, d⟩ => ⟨o, k' o e, d⟩
  | .s _, _, ⟨tk, o, e, d⟩ => ⟨tk, o, k' o e, d⟩
theorem Src.raw_keep {h h' : Heap} {b : Addr} (k' : ∀ c o, c ≠ b → h.get? c = some o → h'.get? c = some o) : ∀ {S : Src} {us : List Value}, S.off b → S.raw h us → S.raw h' us
  | .l _, _, f, ⟨o, e, d⟩ => ⟨o, k' _ o f e, d⟩
  | .t _, _, f, ⟨o, e, d⟩ => ⟨o, k' _ o f e, d⟩
  | .s _, _, _, _ => trivial
section
variable {prog : Program} {w : World} {A : Around} {E : Value → Shared → Prop} {s : Shared}
theorem nextOf_tuple {it t : Addr} {i : Nat} {items : Array Value} {x : Value} {Q : Value → Shared → Prop} (hit : s.heap.IsTupleIter it t i) (ht : s.heap.IsTuple t items) (hx : items[i]? = some x)
    (hQ : ∀ h', h'.IsTupleIter it t (i + 1) → Heap.SameBut it s.heap h' → Q x { s with heap := h' }) : wpAny (model prog w) A (Builtin.SmallTypes.nextOf (.ref it)) Q E s := by
  obtain ⟨o, ho, hc, hd⟩ := id hit
  obtain ⟨ol, hol, _, nl, hdl⟩ := ht
  unfold Builtin.SmallTypes.nextOf
  refine wpAny_bind (wpAny_callSpecial?_slot (name := Str.ofString "__next__") hit.typeIs F.slot_tuple_iterator_next
    (wpAny_call_entry F.slot_tuple_iterator_next hit.typeIs F.entry_tuple_iterator_next ?_ (F.args_tuple_iterator_next_1 _)))
  show wpAny _ _ (field (.ref it) 0 >>= _) _ _ s
  refine wpAny_bind (wpAny_field ho hd (x := .ref t) rfl ?_)
  show wpAny _ _ (if (Value.ref t == Value.none) = true then _ else _) _ _ s
  rw [if_neg (show ¬ ((Value.ref t == Value.none) = true) from Bool.false_ne_true)]
  show wpAny _ _ (field (.ref it) 1 >>= _) _ _ s
  refine wpAny_bind (wpAny_field ho hd (x := .int i 0) rfl ?_)
  show wpAny _ _ (seqItems? (.ref t) >>= _) _ _ s
  refine wpAny_bind (wpAny_seqItems hol hdl ?_)
  simp only [Int.toNat_natCast, hx]
  refine wpAny_bind (wpAny_setField ho hd (by simp) (wpAny_pure ⟨x, rfl, wpAny_pure (hQ _ ?_ (Heap.SameBut.update ..))⟩))
  exact ⟨_, Heap.get?_update_self _ ho (Obj.isFreed_of_fields (Obj.data_mapFields hd _)), (Obj.cls_mapFields ..).trans hc, by
    rw [Obj.data_mapFields hd]; simp [rawInt]⟩
theorem nextOf_item {i : Addr} {k : Nat} {us : List Value} {Q : Value → Shared → Prop} : ∀ {S : Src}, S.at s.heap i k → S.raw s.heap us → k < S.many us →
    (∀ h' tk u, S.fit us k u → S.at h' i (k + 1) → Heap.SameBut i s.heap h' → Q u { s with heap := h', toks := tk }) → wpAny (model prog w) A (Builtin.SmallTypes.nextOf (.ref i)) Q E s
  | .l a, h1, h2, h3, hQ => wpAny_nextOf_list_item h1 h2 (x := us[k]'h3) (by rw [List.getElem?_toArray]; exact List.getElem?_eq_getElem h3) fun h' q1 q2 => hQ h' s.toks _ (List.getElem?_eq_getElem h3) q1 q2
  | .t a, h1, h2, h3, hQ => nextOf_tuple h1 h2 (x := us[k]'h3) (by rw [List.getElem?_toArray]; exact List.getElem?_eq_getElem h3) fun h' q1 q2 => hQ h' s.toks _ (List.getElem?_eq_getElem h3) q1 q2
  | .s z, ⟨tk, h1⟩, h2, h3, hQ => by
    have hx : z.cps[k]? = some z.cps[k] := Array.getElem?_eq_getElem h3
    by_cases ha : z.cps.all (· < 128) = true
    · have e : strIterType z = "str_ascii_iterator" := by unfold strIterType; rw [if_pos ha]
      rw [e] at h1
      exact wpAny_nextOf_ascii_item h1 hx fun h' q1 q2 => hQ h' _ _ ⟨_, _, hx, rfl⟩ ⟨tk, by rw [e]; exact q1⟩ q2
    · have e : strIterType z = "str_iterator" := by unfold strIterType; rw [if_neg ha]
      rw [e] at h1
      exact wpAny_nextOf_wide_item h1 hx fun h' q1 q2 => hQ h' _ _ ⟨_, _, hx, rfl⟩ ⟨tk, by rw [e]; exact q1⟩ q2
theorem nextOf_tuple_end {it t : Addr} {i : Nat} {items : Array Value} {Q : Value → Shared → Prop} (hh : A.handled = none) (hit : s.heap.IsTupleIter it t i) (ht : s.heap.IsTuple t items) (hx : items[i]? = none)
    (hE : ∀ h' e, Heap.ExtBut it s.heap h' → (∃ o, h'.get? e = some o ∧ o.cls = .type "StopIteration") → E (.ref e) { s with heap := h' }) : wpAny (model prog w) A (Builtin.SmallTypes.nextOf (.ref it)) Q E s := by
  obtain ⟨o, ho, hc, hd⟩ := id hit
  obtain ⟨ol, hol, _, nl, hdl⟩ := ht
  unfold Builtin.SmallTypes.nextOf
  refine wpAny_bind (wpAny_callSpecial?_slot (name := Str.ofString "__next__") hit.typeIs F.slot_tuple_iterator_next
    (wpAny_call_entry F.slot_tuple_iterator_next hit.typeIs F.entry_tuple_iterator_next ?_ (F.args_tuple_iterator_next_1 _)))
  show wpAny _ _ (field (.ref it) 0 >>= _) _ _ s
  refine wpAny_bind (wpAny_field ho hd (x := .ref t) rfl ?_)
  show wpAny _ _ (if (Value.ref t == Value.none) = true then _ else _) _ _ s
  rw [if_neg (show ¬ ((Value.ref t == Value.none) = true) from Bool.false_ne_true)]
  show wpAny _ _ (field (.ref it) 1 >>= _) _ _ s
  refine wpAny_bind (wpAny_field ho hd (x := .int i 0) rfl ?_)
  show wpAny _ _ (seqItems? (.ref t) >>= _) _ _ s
  refine wpAny_bind (wpAny_seqItems hol hdl ?_)
  simp only [Int.toNat_natCast, hx]
  refine wpAny_bind (wpAny_rule (wpAny_bind (wpAny_setField ho hd (by simp) ?_)))
  show wpAny _ _ (newExc (.type "StopIteration") [] >>= _) _ _ _
  refine wpAny_bind ?_
  simp only [newExc, newTuple]
  refine wpAny_bind (wpAny_newObj_type ?_ (by size_fits))
  refine wpAny_bind (m := firstArgMember _ _) (wpAny_of_eq (a := Value.none) (by first | rfl | (simp only [firstArgMember]; rfl)) ?_)
  refine wpAny_newObj_type ?_ (by size_fits)
  simp only [raiseNew]
  refine wpAny_bind (wpAny_handled ?_)
  first | rw [show A.in1.handled = none from hh] | rw [hh]
  refine wpAny_bind (wpAny_pure (wpAny_throw ?_))
  exact hE _ _ (((Heap.SameBut.update ..).extBut.push _).push _) ⟨_, Heap.get?_push_size _ rfl, rfl⟩
theorem nextOf_end {i : Addr} {k : Nat} {us : List Value} {Q : Value → Shared → Prop} (hh : A.handled = none) : ∀ {S : Src}, S.at s.heap i k → S.raw s.heap us → S.many us ≤ k →
    (∀ h' e, Heap.ExtBut i s.heap h' → (∃ o, h'.get? e = some o ∧ o.cls = .type "StopIteration") → E (.ref e) { s with heap := h' }) → wpAny (model prog w) A (Builtin.SmallTypes.nextOf (.ref i)) Q E s
  | .l a, h1, h2, h3, hE => wpAny_nextOf_list_end hh h1 h2 (by rw [List.getElem?_toArray]; exact List.getElem?_eq_none h3) hE
  | .t a, h1, h2, h3, hE => nextOf_tuple_end hh h1 h2 (by rw [List.getElem?_toArray]; exact List.getElem?_eq_none h3) hE
  | .s z, ⟨tk, h1⟩, h2, h3, hE => by
    have hx : z.cps[k]? = none := Array.getElem?_eq_none h3
    by_cases ha : z.cps.all (· < 128) = true
    · have e : strIterType z = "str_ascii_iterator" := by unfold strIterType; rw [if_pos ha]
      rw [e] at h1
      exact wpAny_nextOf_ascii_end hh h1 hx hE
    · have e : strIterType z = "str_iterator" := by unfold strIterType; rw [if_neg ha]
      rw [e] at h1
      exact wpAny_nextOf_wide_end hh h1 hx hE
structure ZipOff (z TI TO i1 i2 : Addr) (S1 S2 : Src) : Prop where
  TIz : TI ≠ z
  TOz : TO ≠ z
  i1z : i1 ≠ z
  i2z : i2 ≠ z
  TITO : TI ≠ TO
  TIi1 : TI ≠ i1
  TIi2 : TI ≠ i2
  TOi1 : TO ≠ i1
  TOi2 : TO ≠ i2
  i12 : i1 ≠ i2
  s1z : S1.off z
  s1TO : S1.off TO
  s1i1 : S1.off i1
  s1i2 : S1.off i2
  s2z : S2.off z
  s2TO : S2.off TO
  s2i1 : S2.off i1
  s2i2 : S2.off i2
theorem zip_step {z TI TO i1 i2 : Addr} {S1 S2 : Src} {k : Nat} {us1 us2 : List Value} {a b : Value} {Q : Option Value → Shared → Prop} (D : ZipOff z TI TO i1 i2 S1 S2)
    (hz : IsZip s.heap z TI TO .none) (hTI : IsPair s.heap TI (.ref i1) (.ref i2)) (hTO : IsPair s.heap TO a b)
    (h1 : S1.at s.heap i1 k) (h2 : S2.at s.heap i2 k) (r1 : S1.raw s.heap us1) (r2 : S2.raw s.heap us2) (m1 : k < S1.many us1) (m2 : k < S2.many us2)
    (hQ : ∀ h' tk x y, S1.fit us1 k x → S2.fit us2 k y → IsZip h' z TI TO (rawInt s.heap.objs.size) → IsPair h' TO x y → S1.at h' i1 (k + 1) → S2.at h' i2 (k + 1) → IsPair h' s.heap.objs.size x y → h'.objs.size = s.heap.objs.size + 1 →
      (∀ c o, c ≠ z → c ≠ TO → c ≠ i1 → c ≠ i2 → s.heap.get? c = some o → h'.get? c = some o) → Q (some (.ref s.heap.objs.size)) { s with heap := h', toks := tk }) :
    wpAny (model prog w) A (pyNext (.ref z)) Q E s := by
  have hT : s.TypeIs (.ref z) "zip" := ⟨_, hz, rfl⟩
  unfold pyNext
  refine wpAny_bind (wpAny_attempt (wpAny_callSpecial?_slot (name := Str.ofString "__next__") hT F.slot_zip_next (wpAny_call_entry F.slot_zip_next hT F.entry_zip_next ?_ (F.args_zip_next_1 _))))
  show wpAny _ _ (field (.ref z) 2 >>= _) _ _ _
  refine wpAny_bind (wpAny_field hz rfl (x := .bool false) rfl ?_)
  show wpAny _ _ (field (.ref z) 3 >>= _) _ _ _
  refine wpAny_bind (wpAny_field hz rfl (x := .ref TI) rfl (wpAny_bind (wpAny_seqItems hTI rfl ?_)))
  show wpAny _ _ (Builtin.SmallTypes.ownedTupleIsFree (.ref z) >>= _) _ _ _
  unfold Builtin.SmallTypes.ownedTupleIsFree
  refine wpAny_bind (wpAny_bind (wpAny_field hz rfl (x := .none) rfl (wpAny_pure ?_)))
  simp only [if_true]
  refine wpAny_bind (wpAny_rule (wpAny_bind (wpAny_field hz rfl (x := .ref TO) rfl (wpAny_bind (wpAny_setField_rec hz (by simp) fun h₁ hz₁ hs₁ => ?_)))))
  replace hz₁ : IsZip h₁ z TI TO .ellipsis := hz₁
  refine wpAny_bind ?_
  simp only [List.zipIdx_cons, List.zipIdx_nil, List.forIn_cons, List.forIn_nil]
  refine wpAny_bind (wpAny_bind (wpAny_onRaise ?_))
  show wpAny _ _ (Builtin.SmallTypes.nextOf (.ref i1) >>= _) _ _ _
  refine wpAny_bind (nextOf_item (S := S1) (us := us1) (k := k) (S1.at_keep (fun o e => hs₁.extBut _ o D.i1z e) h1) (S1.raw_keep (fun c o n e => hs₁.extBut c o n e) D.s1z r1) m1 fun h₂ tk₂ x fx h1₂ hs₂ => wpAny_pure ?_)
  have hs₂' : Heap.SameBut i1 h₁ h₂ := hs₂
  have hTO₂ : IsPair h₂ TO a b := hs₂'.extBut _ _ D.TOi1 (hs₁.extBut _ _ D.TOz hTO)
  refine wpAny_bind (wpAny_seqItems hTO₂ rfl (wpAny_bind (wpAny_updateSeq_pair hTO₂ fun h₃ hTO₃ hs₃ => wpAny_bind (wpAny_letGo (wpAny_pure ?_)))))
  replace hTO₃ : IsPair h₃ TO x b := hTO₃
  have hs₃' : Heap.SameBut TO h₂ h₃ := hs₃
  refine wpAny_bind (wpAny_bind (wpAny_onRaise ?_))
  show wpAny _ _ (Builtin.SmallTypes.nextOf (.ref i2) >>= _) _ _ _
  refine wpAny_bind (nextOf_item (S := S2) (us := us2) (k := k)
    (S2.at_keep (fun o e => hs₃'.extBut _ o D.TOi2.symm (hs₂'.extBut _ o D.i12.symm (hs₁.extBut _ o D.i2z e))) h2)
    (S2.raw_keep (fun c o n e => hs₃'.extBut c o n e) D.s2TO (S2.raw_keep (fun c o n e => hs₂'.extBut c o n e) D.s2i1 (S2.raw_keep (fun c o n e => hs₁.extBut c o n e) D.s2z r2))) m2 fun h₄ tk₄ y fy h2₄ hs₄ => wpAny_pure ?_)
  have hs₄' : Heap.SameBut i2 h₃ h₄ := hs₄
  have hTO₄ : IsPair h₄ TO x b := hs₄'.extBut _ _ D.TOi2 hTO₃
  refine wpAny_bind (wpAny_seqItems hTO₄ rfl (wpAny_bind (wpAny_updateSeq_pair hTO₄ fun h₅ hTO₅ hs₅ => wpAny_bind (wpAny_letGo (wpAny_pure (wpAny_pure ?_))))))
  replace hTO₅ : IsPair h₅ TO x y := hTO₅
  have hs₅' : Heap.SameBut TO h₄ h₅ := hs₅
  refine wpAny_bind (wpAny_seqItems hTO₅ rfl (wpAny_bind (wpAny_newTuple ?_)))
  have hsz : h₅.objs.size = s.heap.objs.size := by rw [hs₅'.1, hs₄'.1, hs₃'.1, hs₂'.1, hs₁.1]
  have hz₅ : IsZip h₅ z TI TO .ellipsis := hs₅'.extBut _ _ D.TOz.symm (hs₄'.extBut _ _ D.i2z.symm (hs₃'.extBut _ _ D.TOz.symm (hs₂'.extBut _ _ D.i1z.symm hz₁)))
  have hk₅ : ∀ c o, c ≠ z → c ≠ TO → c ≠ i1 → c ≠ i2 → s.heap.get? c = some o → h₅.get? c = some o := fun c o c1 c2 c3 c4 e =>
    hs₅'.extBut _ _ c2 (hs₄'.extBut _ _ c4 (hs₃'.extBut _ _ c2 (hs₂'.extBut _ _ c3 (hs₁.extBut _ _ c1 e))))
  have h1₅ : S1.at h₅ i1 (k + 1) := S1.at_keep (fun o e => hs₅'.extBut _ o D.TOi1.symm (hs₄'.extBut _ o D.i12 (hs₃'.extBut _ o D.TOi1.symm e))) h1₂
  have h2₅ : S2.at h₅ i2 (k + 1) := S2.at_keep (fun o e => hs₅'.extBut _ o D.TOi2.symm e) h2₄
  have hzlt : z < h₅.objs.size := Heap.lt_size hz₅
  show wpAny _ _ (Builtin.SmallTypes.ownedTupleHandOut (.ref z) (.ref h₅.objs.size) >>= _) _ _ _
  refine wpAny_bind ?_
  unfold Builtin.SmallTypes.ownedTupleHandOut
  have hz₆ : IsZip (h₅.push { cls := .type "tuple", data := .seq #[x, y] }) z TI TO .ellipsis := Heap.get?_push_of_some _ hz₅
  refine wpAny_bind (wpAny_setField_rec hz₆ (by simp) fun h₇ hz₇ hs₇ => ?_)
  replace hz₇ : IsZip h₇ z TI TO (rawInt h₅.objs.size) := hz₇
  refine wpAny_setField_rec hz₇ (by simp) fun h₈ hz₈ hs₈ => ?_
  replace hz₈ : IsZip h₈ z TI TO (rawInt h₅.objs.size) := hz₈
  have up : ∀ c o, c ≠ z → h₅.get? c = some o → h₈.get? c = some o := fun c o c1 e => hs₈.extBut _ _ c1 (hs₇.extBut _ _ c1 (Heap.get?_push_of_some _ e))
  have hT₈ : IsPair h₈ h₅.objs.size x y := hs₈.extBut _ _ (Nat.ne_of_gt hzlt) (hs₇.extBut _ _ (Nat.ne_of_gt hzlt) (Heap.get?_push_size _ rfl))
  have hz8 : h₈.objs.size = h₅.objs.size + 1 := by rw [hs₈.1, hs₇.1, Heap.size_push]
  rw [hsz] at hz₈ hT₈ hz8
  refine wpAny_pure ⟨_, rfl, wpAny_pure ?_⟩
  show Q (some (.ref h₅.objs.size)) _
  rw [hsz]
  exact hQ h₈ tk₄ x y fx fy hz₈ (up _ _ D.TOz hTO₅) (S1.at_keep (fun o e => up _ o D.i1z e) h1₅) (S2.at_keep (fun o e => up _ o D.i2z e) h2₅) hT₈ hz8 fun c o c1 c2 c3 c4 e => up c o c1 (hk₅ c o c1 c2 c3 c4 e)
theorem zip_stop {z TI TO i1 i2 : Addr} {S1 S2 : Src} {k : Nat} {us1 us2 : List Value} {a b : Value} {Q : Option Value → Shared → Prop} (hh : A.handled = none) (D : ZipOff z TI TO i1 i2 S1 S2)
    (hz : IsZip s.heap z TI TO .none) (hTI : IsPair s.heap TI (.ref i1) (.ref i2)) (hTO : IsPair s.heap TO a b)
    (h1 : S1.at s.heap i1 k) (h2 : S2.at s.heap i2 k) (r1 : S1.raw s.heap us1) (r2 : S2.raw s.heap us2) (hend : S1.many us1 ≤ k ∨ S2.many us2 ≤ k)
    (hQ : ∀ h' tk, (∀ c o, c ≠ z → c ≠ TO → c ≠ i1 → c ≠ i2 → s.heap.get? c = some o → h'.get? c = some o) → Q none { s with heap := h', toks := tk }) :
    wpAny (model prog w) A (pyNext (.ref z)) Q E s := by
  have hT : s.TypeIs (.ref z) "zip" := ⟨_, hz, rfl⟩
  unfold pyNext
  have done : ∀ (h' : Heap) (tk : Nat) (e : Addr), (∀ c o, c ≠ z → c ≠ TO → c ≠ i1 → c ≠ i2 → s.heap.get? c = some o → h'.get? c = some o) → (∃ o, h'.get? e = some o ∧ o.cls = .type "StopIteration") →
      wpAny (model prog w) A (do if (← isInstance (.ref e) (.type "StopIteration")) then pure none else throw (.ref e) : Sem (Option Value)) Q E { s with heap := h', toks := tk } := fun h' tk e hk ⟨o, ho, hc⟩ =>
    wpAny_bind (wpAny_isInstance (T := "StopIteration") (b := true) ⟨o, ho, hc⟩ isSubtype_stop (wpAny_pure (hQ h' tk hk)))
  refine wpAny_bind (wpAny_attempt (wpAny_callSpecial?_slot (name := Str.ofString "__next__") hT F.slot_zip_next (wpAny_call_entry F.slot_zip_next hT F.entry_zip_next ?_ (F.args_zip_next_1 _))))
  show wpAny _ _ (field (.ref z) 2 >>= _) _ _ _
  refine wpAny_bind (wpAny_field hz rfl (x := .bool false) rfl ?_)
  show wpAny _ _ (field (.ref z) 3 >>= _) _ _ _
  refine wpAny_bind (wpAny_field hz rfl (x := .ref TI) rfl (wpAny_bind (wpAny_seqItems hTI rfl ?_)))
  show wpAny _ _ (Builtin.SmallTypes.ownedTupleIsFree (.ref z) >>= _) _ _ _
  unfold Builtin.SmallTypes.ownedTupleIsFree
  refine wpAny_bind (wpAny_bind (wpAny_field hz rfl (x := .none) rfl (wpAny_pure ?_)))
  simp only [if_true]
  refine wpAny_bind (wpAny_rule (wpAny_bind (wpAny_field hz rfl (x := .ref TO) rfl (wpAny_bind (wpAny_setField_rec hz (by simp) fun h₁ hz₁ hs₁ => ?_)))))
  replace hz₁ : IsZip h₁ z TI TO .ellipsis := hz₁
  refine wpAny_bind ?_
  simp only [List.zipIdx_cons, List.zipIdx_nil, List.forIn_cons, List.forIn_nil]
  refine wpAny_bind (wpAny_bind (wpAny_onRaise ?_))
  show wpAny _ _ (Builtin.SmallTypes.nextOf (.ref i1) >>= _) _ _ _
  by_cases m1 : k < S1.many us1
  · have m2 : S2.many us2 ≤ k := by rcases hend with z' | z'; omega; exact z'
    refine wpAny_bind (nextOf_item (S := S1) (us := us1) (k := k) (S1.at_keep (fun o e => hs₁.extBut _ o D.i1z e) h1) (S1.raw_keep (fun c o n e => hs₁.extBut c o n e) D.s1z r1) m1 fun h₂ tk₂ x fx h1₂ hs₂ => wpAny_pure ?_)
    have hs₂' : Heap.SameBut i1 h₁ h₂ := hs₂
    have hTO₂ : IsPair h₂ TO a b := hs₂'.extBut _ _ D.TOi1 (hs₁.extBut _ _ D.TOz hTO)
    refine wpAny_bind (wpAny_seqItems hTO₂ rfl (wpAny_bind (wpAny_updateSeq_pair hTO₂ fun h₃ hTO₃ hs₃ => wpAny_bind (wpAny_letGo (wpAny_pure ?_)))))
    have hs₃' : Heap.SameBut TO h₂ h₃ := hs₃
    refine wpAny_bind (wpAny_bind (wpAny_onRaise ?_))
    show wpAny _ _ (Builtin.SmallTypes.nextOf (.ref i2) >>= _) _ _ _
    refine wpAny_bind (nextOf_end (S := S2) (us := us2) (k := k) hh
      (S2.at_keep (fun o e => hs₃'.extBut _ o D.TOi2.symm (hs₂'.extBut _ o D.i12.symm (hs₁.extBut _ o D.i2z e))) h2)
      (S2.raw_keep (fun c o n e => hs₃'.extBut c o n e) D.s2TO (S2.raw_keep (fun c o n e => hs₂'.extBut c o n e) D.s2i1 (S2.raw_keep (fun c o n e => hs₁.extBut c o n e) D.s2z r2))) m2 fun h₄ e hs₄ he => ?_)
    obtain ⟨oe, hoe, hce⟩ := he
    have hz₄ : IsZip h₄ z TI TO .ellipsis := hs₄ _ _ D.i2z.symm (hs₃'.extBut _ _ D.TOz.symm (hs₂'.extBut _ _ D.i1z.symm hz₁))
    have hez : e ≠ z := fun x => by subst x; rw [hz₄] at hoe; cases hoe; simp at hce
    exact wpAny_setField_rec hz₄ (by simp) fun h₅ _ hs₅ => done h₅ _ e (fun c o c1 c2 c3 c4 x => hs₅.extBut _ _ c1 (hs₄ _ _ c4 (hs₃'.extBut _ _ c2 (hs₂'.extBut _ _ c3 (hs₁.extBut _ _ c1 x))))) ⟨oe, hs₅.extBut _ _ hez hoe, hce⟩
  · refine wpAny_bind (nextOf_end (S := S1) (us := us1) (k := k) hh (S1.at_keep (fun o e => hs₁.extBut _ o D.i1z e) h1) (S1.raw_keep (fun c o n e => hs₁.extBut c o n e) D.s1z r1) (by omega) fun h₂ e hs₂ he => ?_)
    obtain ⟨oe, hoe, hce⟩ := he
    have hz₂ : IsZip h₂ z TI TO .ellipsis := hs₂ _ _ D.i1z.symm hz₁
    have hez : e ≠ z := fun x => by subst x; rw [hz₂] at hoe; cases hoe; simp at hce
    exact wpAny_setField_rec hz₂ (by simp) fun h₃ _ hs₃ => done h₃ _ e (fun c o c1 _ c3 _ x => hs₃.extBut _ _ c1 (hs₂ _ _ c3 (hs₁.extBut _ _ c1 x))) ⟨oe, hs₃.extBut _ _ hez hoe, hce⟩
end
end L2
set_option Elab.async false
set_option linter.all false
set_option maxRecDepth 100000
namespace L2
open PySem PySem.Spec PyProof.Rows
def Src.iter (tk : Tok) : Src → Obj
  | .l a => { cls := .type "list_iterator", data := .fields #[.ref a, .int 0 0] }
  | .t a => { cls := .type "tuple_iterator", data := .fields #[.ref a, .int 0 0] }
  | .s z => { cls := .type (strIterType z), data := .fields #[.str z tk, .int 0 0] }
def Src.value (tk : Tok) : Src → Value
  | .l a => .ref a
  | .t a => .ref a
  | .s z => .str z tk
theorem Src.iter_at {h : Heap} {i : Addr} {tk : Tok} : ∀ {S : Src}, h.get? i = some (S.iter tk) → S.at h i 0
  | .l _, e => ⟨_, e, rfl, rfl⟩
  | .t _, e => ⟨_, e, rfl, rfl⟩
  | .s _, e => ⟨tk, _, e, rfl, rfl⟩
theorem Src.pyIter {prog : Program} {w : World} {A : Around} {E : Value → Shared → Prop} {s : Shared} {tk : Tok} {us : List Value} {Q : Value → Shared → Prop} : ∀ {S : Src}, S.raw s.heap us →
    Q (.ref s.heap.objs.size) { s with heap := s.heap.push (S.iter tk) } → wpAny (model prog w) A (pyIter (S.value tk)) Q E s
  | .l _, r, q => wpAny_pyIter_list r q
  | .t _, r, q => wpAny_pyIter_tuple r q
  | .s _, _, q => wpAny_pyIter_strU q
theorem Src.raw_push {h : Heap} {ob : Obj} : ∀ {S : Src} {us : List Value}, S.raw h us → S.raw (h.push ob) us
  | .l _, _, ⟨o, e, d⟩ => ⟨o, Heap.get?_push_of_some _ e, d⟩
  | .t _, _, ⟨o, e, d⟩ => ⟨o, Heap.get?_push_of_some _ e, d⟩
  | .s _, _, _ => trivial
abbrev zH1 (h : Heap) (S1 : Src) (t1 : Tok) : Heap := h.push (S1.iter t1)
abbrev zH2 (h : Heap) (S1 S2 : Src) (t1 t2 : Tok) : Heap := (zH1 h S1 t1).push (S2.iter t2)
abbrev zH3 (h : Heap) (S1 S2 : Src) (t1 t2 : Tok) : Heap := (zH2 h S1 S2 t1 t2).push { cls := .type "tuple", data := .seq #[.ref h.objs.size, .ref (zH1 h S1 t1).objs.size] }
abbrev zH4 (h : Heap) (S1 S2 : Src) (t1 t2 : Tok) : Heap := (zH3 h S1 S2 t1 t2).push { cls := .type "tuple", data := .seq #[.none, .none] }
abbrev zH5 (h : Heap) (S1 S2 : Src) (t1 t2 : Tok) : Heap := (zH4 h S1 S2 t1 t2).push { cls := .type "zip", data := .fields #[.none, .bool false, .bool false, .ref (zH2 h S1 S2 t1 t2).objs.size, .ref (zH3 h S1 S2 t1 t2).objs.size] }
theorem zip_new (S1 S2 : Src) (t1 t2 : Tok) (us1 us2 : List Value) :
    Meets (Builtin.«zip.__new__» ⟨[.type "zip", S1.value t1, S2.value t2], []⟩) (fun _ R s => S1.raw s.heap us1 ∧ S2.raw s.heap us2 ∧
      R (.ok (.ret (.ref (zH4 s.heap S1 S2 t1 t2).objs.size))) { s with heap := zH5 s.heap S1 S2 t1 t2 }) :=
  .of_wp fun prog w A R s h => by
    obtain ⟨hp, g, d, tk, os⟩ := s; obtain ⟨r1, r2, h⟩ := h
    have hsub := sub_zip
    have q1 : ∀ {A : Around} {E : Value → Shared → Prop} {Q : Value → Shared → Prop}, Q (.ref hp.objs.size) ⟨zH1 hp S1 t1, g, d, tk, os⟩ → wpAny (model prog w) A (pyIter (S1.value t1)) Q E ⟨hp, g, d, tk, os⟩ :=
      fun {A E Q} q => Src.pyIter (s := ⟨hp, g, d, tk, os⟩) (us := us1) r1 q
    have q2 : ∀ {A : Around} {E : Value → Shared → Prop} {Q : Value → Shared → Prop}, Q (.ref (zH1 hp S1 t1).objs.size) ⟨zH2 hp S1 S2 t1 t2, g, d, tk, os⟩ → wpAny (model prog w) A (pyIter (S2.value t2)) Q E ⟨zH1 hp S1 t1, g, d, tk, os⟩ :=
      fun {A E Q} q => Src.pyIter (s := ⟨zH1 hp S1 t1, g, d, tk, os⟩) (us := us2) (S2.raw_push r2) q
    generalize S1.value t1 = v1 at q1 ⊢
    generalize S2.value t2 = v2 at q2 ⊢
    wp_walk using q1, q2
    exact ⟨_, rfl, h⟩
section
variable {prog : Program} {w : World} {A : Around} {E : Value → Shared → Prop} {s : Shared}
theorem zip_call {S1 S2 : Src} {t1 t2 : Tok} {us1 us2 : List Value} {Q : Value → Shared → Prop} (r1 : S1.raw s.heap us1) (r2 : S2.raw s.heap us2)
    (h : ∀ h', IsZip h' (s.heap.objs.size + 4) (s.heap.objs.size + 2) (s.heap.objs.size + 3) .none → IsPair h' (s.heap.objs.size + 2) (.ref s.heap.objs.size) (.ref (s.heap.objs.size + 1)) →
      IsPair h' (s.heap.objs.size + 3) .none .none → S1.at h' s.heap.objs.size 0 → S2.at h' (s.heap.objs.size + 1) 0 → h'.objs.size = s.heap.objs.size + 5 →
      (∀ c o, s.heap.get? c = some o → h'.get? c = some o) → Q (.ref (s.heap.objs.size + 4)) { s with heap := h' }) :
    wpAny (model prog w) A (call (.type "zip") [S1.value t1, S2.value t2]) Q E s := by
  refine callType_new F.called_zip (by decide) (F.typeCall_zip_2 _ _) (F.newCall_zip_2 _ _) (fun obj => F.args_object_init_3 obj _ _) F.entry_zip_new (zip_new S1 S2 t1 t2 us1 us2) ⟨r1, r2, ?_⟩
  have z1 : (zH1 s.heap S1 t1).objs.size = s.heap.objs.size + 1 := Heap.size_push ..
  have z2 : (zH2 s.heap S1 S2 t1 t2).objs.size = s.heap.objs.size + 2 := by rw [Heap.size_push, z1]
  have z3 : (zH3 s.heap S1 S2 t1 t2).objs.size = s.heap.objs.size + 3 := by rw [Heap.size_push, z2]
  have z4 : (zH4 s.heap S1 S2 t1 t2).objs.size = s.heap.objs.size + 4 := by rw [Heap.size_push, z3]
  have z5 : (zH5 s.heap S1 S2 t1 t2).objs.size = s.heap.objs.size + 5 := by rw [Heap.size_push, z4]
  have fr : ∀ (tk : Tok) (S : Src), (S.iter tk).isFreed = false := fun tk S => by cases S <;> rfl
  have g5 : (zH5 s.heap S1 S2 t1 t2).get? (zH4 s.heap S1 S2 t1 t2).objs.size = some _ := Heap.get?_push_size _ rfl
  have g4 : (zH5 s.heap S1 S2 t1 t2).get? (zH3 s.heap S1 S2 t1 t2).objs.size = some _ := Heap.get?_push_of_some _ (Heap.get?_push_size _ rfl)
  have g3 : (zH5 s.heap S1 S2 t1 t2).get? (zH2 s.heap S1 S2 t1 t2).objs.size = some _ := Heap.get?_push_of_some _ (Heap.get?_push_of_some _ (Heap.get?_push_size _ rfl))
  have g2 : (zH5 s.heap S1 S2 t1 t2).get? (zH1 s.heap S1 t1).objs.size = some (S2.iter t2) := Heap.get?_push_of_some _ (Heap.get?_push_of_some _ (Heap.get?_push_of_some _ (Heap.get?_push_size _ (fr _ _))))
  have g1 : (zH5 s.heap S1 S2 t1 t2).get? s.heap.objs.size = some (S1.iter t1) := Heap.get?_push_of_some _ (Heap.get?_push_of_some _ (Heap.get?_push_of_some _ (Heap.get?_push_of_some _ (Heap.get?_push_size _ (fr _ _)))))
  show _ ∧ _
  rw [z2, z3, z4] at g5
  rw [z1, z2] at g3
  rw [z3] at g4
  rw [z1] at g2
  rw [z4]
  exact ⟨⟨_, g5, rfl⟩, h _ g5 g3 g4 (Src.iter_at g1) (Src.iter_at g2) z5 fun c o x =>
    Heap.get?_push_of_some _ (Heap.get?_push_of_some _ (Heap.get?_push_of_some _ (Heap.get?_push_of_some _ (Heap.get?_push_of_some _ x))))⟩
end
def Itz (K : PySem.W.Frag) (S1 S2 : Src) : It :=
  ⟨fun i H => ∃ xs ys, S1.its K H xs ∧ S2.its K H ys ∧ i < xs.length ∧ i < ys.length,
   fun i H v H' => ∃ p, H p = none ∧ v = .ref p ∧ ∀ xs ys, S1.its K H xs → S2.its K H ys → ∀ x y, xs[i]? = some x → ys[i]? = some y → H' = upd H p (.tup [x, y]),
   fun i H => ∃ xs ys, S1.its K H xs ∧ S2.its K H ys ∧ (xs.length ≤ i ∨ ys.length ≤ i)⟩
section
variable {X : Cx} {pins : List (Addr × Obj)} {σ : St} {H : Hp} {s : Shared}
theorem Inv.src (I : Inv X pins σ H s) : ∀ {S : Src} {xs : List V}, S.its X.K H xs → ∃ us, S.raw s.heap us ∧ S.many us = xs.length ∧ ∀ k u x, S.fit us k u → xs[k]? = some x → RelV x u
  | .l a, xs, h => by
    obtain ⟨its, rv, pl, _⟩ := I.list h
    refine ⟨its, pl.isList, rv.length.symm, fun k u x e1 e2 => ?_⟩
    obtain ⟨u', e3, r⟩ := rv.get e2
    rw [show its[k]? = some u from e1] at e3; cases e3
    exact r
  | .t a, xs, h => by
    obtain ⟨its, rv, pl, _⟩ := I.tuple h
    refine ⟨its, pl, rv.length.symm, fun k u x e1 e2 => ?_⟩
    obtain ⟨u', e3, r⟩ := rv.get e2
    rw [show its[k]? = some u from e1] at e3; cases e3
    exact r
  | .s z, xs, h => by
    refine ⟨[], trivial, ?_, fun k u x e1 e2 => ?_⟩
    · rw [show xs = _ from h, List.length_map]; simp [Src.many]
    · obtain ⟨c, tk, e3, e4⟩ := e1
      subst e4
      rw [show xs = _ from h, List.getElem?_map] at e2
      have e5 : z.cps.toList[k]? = some c := by simpa using e3
      rw [e5] at e2
      cases e2
      exact ⟨tk, rfl⟩
theorem Inv.src_off (I : Inv X pins σ H s) {b : Addr} (hb : FpOk X pins H b) : ∀ {S : Src} {xs : List V}, S.its X.K H xs → S.off b
  | .l a, xs, h => by
    rcases h with (h | ⟨ob, h⟩) | ⟨o, its, n, hk, _⟩
    · exact ne_of_none h hb.1
    · exact ne_of_none h hb.1
    · rintro rfl
      have e := I.ok.mod.kin a o hk
      rcases hb.2.2.2.1 with z | z
      · exact I.ok.noex a o e z
      · exact absurd (Nat.lt_of_lt_of_le (Heap.lt_size e) (Nat.le_trans I.ok.bsz z)) (Nat.lt_irrefl _)
  | .t a, xs, h => by
    rcases h with (h | ⟨ob, h⟩) | ⟨o, its, n, hk, _⟩
    · exact ne_of_none h hb.1
    · exact ne_of_none h hb.1
    · rintro rfl
      have e := I.ok.mod.kin a o hk
      rcases hb.2.2.2.1 with z | z
      · exact I.ok.noex a o e z
      · exact absurd (Nat.lt_of_lt_of_le (Heap.lt_size e) (Nat.le_trans I.ok.bsz z)) (Nat.lt_irrefl _)
  | .s z, xs, h => trivial
theorem Inv.zipped {fp : List Addr} {h' : Heap} {tk : Nat} {x y : V} {u v : Value} (I : Inv X pins σ H s) (hf : ∀ b ∈ fp, FpOk X pins H b) (rx : RelV x u) (ry : RelV y v)
    (hp : IsPair h' s.heap.objs.size u v) (hfh : ∀ b ∈ fp, ∃ o, h'.get? b = some o) (hk : ∀ c o, c ∉ fp → s.heap.get? c = some o → h'.get? c = some o) :
    Inv X pins σ (upd H s.heap.objs.size (.tup [x, y])) { s with heap := h', toks := tk } := by
  have hn : H s.heap.objs.size = none := I.fresh
  have ne : ∀ b ob, s.heap.get? b = some ob → b ≠ s.heap.objs.size := fun b ob e => Nat.ne_of_lt (Heap.lt_size e)
  have nt : ∀ b u, H b = some u → b ≠ s.heap.objs.size := fun b u e => ne_of_none e hn
  have nfp : ∀ b u, H b = some u → b ∉ fp := fun b u e hb => by rw [(hf b hb).1] at e; cases e
  refine I.step (g' := s.gens) (d' := s.drawn) (ch := fp) (fun b hb => ⟨(hf b hb).2.2.2.1, (hf b hb).2.1, (hf b hb).2.2.2.2.1, (hf b hb).2.2.2.2.2⟩)
    (fun b ob _ _ hc e _ => hk b ob hc e) (fun b ob _ _ hc e _ => ⟨ob.slots, hk b ob hc e⟩) (fun b ob _ e n => by rw [upd_ne (ne b ob e)]; exact n) (fun b ob hc e => ⟨ob, hk b ob hc e⟩)
    (fun b xs e => by rw [upd_ne (nt b _ e)]; exact e) (fun b ob u e => by rw [upd_ne (nt b _ e)]; exact e) (fun b ps e => ⟨#[], by rw [upd_ne (nt b _ e), e]; simp⟩) (fun m hm => ?_) (fun b ub e => ?_) I.bare
  · obtain ⟨ob, es, ep, ho, r⟩ := hm
    exact ⟨ob, es, ep, hk _ ob (fun z => (hf _ z).2.1 rfl) ho, r⟩
  · by_cases hb : b = s.heap.objs.size
    · subst hb
      rw [upd_same] at e; cases e
      exact ⟨by show 2 ≤ sizeLine; decide, [u, v], .cons rx (.cons ry .nil), ⟨_, hp, rfl, _, rfl⟩⟩
    · rw [upd_ne hb] at e
      refine (I.hok b ub e).stay (fun c w' hc q => hk c w' ?_ q) (fun c q => by rw [upd_ne (nt c _ q)]; exact q) fun c xs q => by rw [upd_ne (nt c _ q)]; exact q
      rcases hc with z | z
      · rw [z]; exact nfp b ub e
      · exact nfp c _ z
end
theorem turn_zip {P : Program} {w : World} {K : PySem.W.Frag} {elts : List Expr} {x1 : Nat} {tpos : Pos} {S1 S2 : Src} {z TI TO i1 i2 : Addr}
    (d1 : TI ≠ z) (d2 : TO ≠ z) (d3 : i1 ≠ z) (d4 : i2 ≠ z) (d5 : TI ≠ TO) (d6 : TI ≠ i1) (d7 : TI ≠ i2) (d8 : TO ≠ i1) (d9 : TO ≠ i2) (d10 : i1 ≠ i2) :
    Turn P w K (.Tuple elts x1 tpos) (Itz K S1 S2) [z, TI, TO, i1, i2] z
      (fun i h => IsZip h z TI TO .none ∧ IsPair h TI (.ref i1) (.ref i2) ∧ (∃ a b, IsPair h TO a b) ∧ S1.at h i1 i ∧ S2.at h i2 i) where
  mem := by simp
  obj := fun i h st b hb => by
    obtain ⟨hz, hTI, ⟨a, b', hTO⟩, h1, h2⟩ := st
    have nf : ∀ {o : Obj} {vs : Array Value}, o.data = .fields vs → ∀ v, o.data ≠ .cell v := fun d v e => by rw [d] at e; cases e
    simp only [List.mem_cons, List.not_mem_nil, or_false] at hb
    rcases hb with rfl | rfl | rfl | rfl | rfl
    · exact ⟨_, hz, nf rfl⟩
    · exact ⟨_, hTI, fun v e => by cases e⟩
    · exact ⟨_, hTO, fun v e => by cases e⟩
    · obtain ⟨o, vs, e, d⟩ := Src.at_obj h1; exact ⟨o, e, nf d⟩
    · obtain ⟨o, vs, e, d⟩ := Src.at_obj h2; exact ⟨o, e, nf d⟩
  keep := fun i h h' st k => by
    obtain ⟨hz, hTI, ⟨a, b', hTO⟩, h1, h2⟩ := st
    exact ⟨k z (by simp) _ hz, k TI (by simp) _ hTI, ⟨a, b', k TO (by simp) _ hTO⟩, Src.at_keep (fun o e => k i1 (by simp) o e) h1, Src.at_keep (fun o e => k i2 (by simp) o e) h2⟩
  item := by
    intro X hP hw hK hc i pins s σ H E I hf st hg
    subst hP hw hK
    obtain ⟨hz, hTI, ⟨a, b', hTO⟩, h1, h2⟩ := st
    obtain ⟨xs, ys, q1, q2, l1, l2⟩ := hg
    obtain ⟨us1, r1, m1, f1⟩ := I.src q1
    obtain ⟨us2, r2, m2, f2⟩ := I.src q2
    have hfz := hf z (by simp)
    have D : ZipOff z TI TO i1 i2 S1 S2 := ⟨d1, d2, d3, d4, d5, d6, d7, d8, d9, d10, I.src_off hfz q1, I.src_off (hf TO (by simp)) q1, I.src_off (hf i1 (by simp)) q1, I.src_off (hf i2 (by simp)) q1,
      I.src_off hfz q2, I.src_off (hf TO (by simp)) q2, I.src_off (hf i1 (by simp)) q2, I.src_off (hf i2 (by simp)) q2⟩
    refine zip_step D hz hTI hTO h1 h2 r1 r2 (by omega) (by omega) fun h' tk x y fx fy a1 a2 a3 a4 a5 a6 a7 => ?_
    have rx := f1 i x _ fx (List.getElem?_eq_getElem l1)
    have ry := f2 i y _ fy (List.getElem?_eq_getElem l2)
    refine ⟨_, rfl, wpAny_letOwnedTupleGo_zip a1 fun h'' hz'' hs'' => ?_⟩
    have hs' : Heap.SameBut z h' h'' := hs''
    have hTI' : IsPair h' TI (.ref i1) (.ref i2) := a7 _ _ d1 d5 d6 d7 hTI
    have lt : ∀ {b : Addr} {o : Obj}, s.heap.get? b = some o → s.heap.objs.size ≠ b := fun e => Nat.ne_of_gt (Heap.lt_size e)
    have hzs : s.heap.objs.size ≠ z := lt hz
    have I2 : Inv X pins σ (upd H s.heap.objs.size (.tup [xs[i], ys[i]])) { s with heap := h'', toks := tk } := by
      refine I.zipped (fp := [z, TI, TO, i1, i2]) hf rx ry (hs'.extBut _ _ hzs a5) (fun b hb => ?_) fun c o hc e => ?_
      · simp only [List.mem_cons, List.not_mem_nil, or_false] at hb
        rcases hb with rfl | rfl | rfl | rfl | rfl
        · exact ⟨_, hz''⟩
        · exact ⟨_, hs'.extBut _ _ d1 hTI'⟩
        · exact ⟨_, hs'.extBut _ _ d2 a2⟩
        · obtain ⟨o, vs, e, _⟩ := Src.at_obj a3; exact ⟨o, hs'.extBut _ _ d3 e⟩
        · obtain ⟨o, vs, e, _⟩ := Src.at_obj a4; exact ⟨o, hs'.extBut _ _ d4 e⟩
      · simp only [List.mem_cons, List.not_mem_nil, or_false, not_or] at hc
        exact hs'.extBut _ _ hc.1 (a7 c o hc.1 hc.2.2.1 hc.2.2.2.1 hc.2.2.2.2 e)
    refine ⟨.ref s.heap.objs.size, _, I2, rfl, ⟨s.heap.objs.size, I.fresh, rfl, fun xs' ys' w1 w2 x' y' e1 e2 => ?_⟩, ⟨hz'', hs'.extBut _ _ d1 hTI', ⟨_, _, hs'.extBut _ _ d2 a2⟩, Src.at_keep (fun o e => hs'.extBut _ o d3 e) a3, Src.at_keep (fun o e => hs'.extBut _ o d4 e) a4⟩, fun b hb => ?_⟩
    · have same : ∀ {S : Src} {us vs : List V}, S.its X.K H us → S.its X.K H vs → us = vs := fun {S us vs} p q => by
        cases S with
        | l a => exact I.list_inj p q
        | t a => exact I.tuple_inj p q
        | s z => rw [show us = _ from p, show vs = _ from q]
      have e3 := same w1 q1
      have e4 := same w2 q2
      subst e3; subst e4
      rw [List.getElem?_eq_getElem l1] at e1
      rw [List.getElem?_eq_getElem l2] at e2
      cases e1; cases e2
      rfl
    · rw [upd_ne (fun e => by
        obtain ⟨o, e1, _⟩ : ∃ o, s.heap.get? b = some o ∧ True := by
          simp only [List.mem_cons, List.not_mem_nil, or_false] at hb
          rcases hb with rfl | rfl | rfl | rfl | rfl
          · exact ⟨_, hz, trivial⟩
          · exact ⟨_, hTI, trivial⟩
          · exact ⟨_, hTO, trivial⟩
          · obtain ⟨o, vs, e, _⟩ := Src.at_obj h1; exact ⟨o, e, trivial⟩
          · obtain ⟨o, vs, e, _⟩ := Src.at_obj h2; exact ⟨o, e, trivial⟩
        exact lt e1 e.symm)]
      exact (hf b hb).1
  done := by
    intro X hP hw hK hc i pins s σ H E I hf st hg
    subst hP hw hK
    obtain ⟨hz, hTI, ⟨a, b', hTO⟩, h1, h2⟩ := st
    obtain ⟨xs, ys, q1, q2, l⟩ := hg
    obtain ⟨us1, r1, m1, f1⟩ := I.src q1
    obtain ⟨us2, r2, m2, f2⟩ := I.src q2
    have hfz := hf z (by simp)
    have D : ZipOff z TI TO i1 i2 S1 S2 := ⟨d1, d2, d3, d4, d5, d6, d7, d8, d9, d10, I.src_off hfz q1, I.src_off (hf TO (by simp)) q1, I.src_off (hf i1 (by simp)) q1, I.src_off (hf i2 (by simp)) q1,
      I.src_off hfz q2, I.src_off (hf TO (by simp)) q2, I.src_off (hf i1 (by simp)) q2, I.src_off (hf i2 (by simp)) q2⟩
    refine zip_stop (I.ok.hd hc) D hz hTI hTO h1 h2 r1 r2 (by omega) fun h' tk hk => ⟨rfl, ?_⟩
    have kf : ∀ c o, c ∉ [z, TI, TO, i1, i2] → s.heap.get? c = some o → h'.get? c = some o := fun c o hc e => by
      simp only [List.mem_cons, List.not_mem_nil, or_false, not_or] at hc
      exact hk c o hc.1 hc.2.2.1 hc.2.2.2.1 hc.2.2.2.2 e
    have nfp : ∀ b u, H b = some u → b ∉ [z, TI, TO, i1, i2] := fun b u e hb => by rw [(hf b hb).1] at e; cases e
    refine I.step (g' := s.gens) (d' := s.drawn) (ch := [z, TI, TO, i1, i2]) (fun b hb => ⟨(hf b hb).2.2.2.1, (hf b hb).2.1, (hf b hb).2.2.2.2.1, (hf b hb).2.2.2.2.2⟩)
      (fun b ob _ _ hc e _ => kf b ob hc e) (fun b ob _ _ hc e _ => ⟨ob.slots, kf b ob hc e⟩) (fun b ob _ e n => n) (fun b ob hc e => ⟨ob, kf b ob hc e⟩)
      (fun b xs e => e) (fun b ob u e => e) (fun b ps e => ⟨#[], by rw [e]; simp⟩) (fun m hm => ?_) (fun b ub e => ?_) I.bare
    · obtain ⟨ob, es, ep, ho, r⟩ := hm
      exact ⟨ob, es, ep, kf _ ob (fun z => (hf _ z).2.1 rfl) ho, r⟩
    · refine (I.hok b ub e).stay (fun c w' hc q => kf c w' ?_ q) (fun c q => q) fun c xs q => q
      rcases hc with z' | z'
      · rw [z']; exact nfp b ub e
      · exact nfp c _ z'
  self := fun _ _ _ _ _ st h => wpAny_pyIter_zip st.1 h
def iZip (K : PySem.W.Frag) (ta : TA) : TI := fun σ H R => ta σ H fun vs H1 => ∃ S1 S2 xs ys, vs = [Src.val S1, Src.val S2] ∧ S1.its K H1 xs ∧ S2.its K H1 ys ∧ R (Itz K S1 S2) H1
theorem pi_zip {X : Cx} {a b : Expr} {ta : TA} {p pos : Pos} {elts : List Expr} {x1 : Nat} {tpos : Pos} (hg : Gl X "zip") (hm : X.mg "zip" = none) (ha : PA X [a, b] ta)
    (hs : starEach [a, b] X.env = [(false, eval a X.env), (false, eval b X.env)] := by rfl) (hs2 : starEach [b] X.env = [(false, eval b X.env)] := by rfl) :
    PI X (.Tuple elts x1 tpos) (.Call (.Name "zip" p) [a, b] [] pos) (iZip X.K ta) := by
  intro pins s σ H R I h
  refine Call_ (ld_blt I hg hm boot_zip (PyProof.Rows.callWith_type1 (thn (ha pos pins s σ H _ I h) fun us s1 ⟨vs, H1, I1, r1, q1⟩ => ?_) (by rw [hs, hs2]) (by rw [hs2]; rfl)))
  obtain ⟨S1, S2, xs, ys, e, y1, y2, q⟩ := q1
  subst e
  obtain ⟨u1, u2, rfl, w1, w2⟩ := r1.two
  have vo : ∀ {S : Src} {u : Value}, RelV S.val u → ∃ tk, u = S.value tk := fun {S u} r => by
    cases S with
    | l a => exact ⟨0, r⟩
    | t a => exact ⟨0, r⟩
    | s z => obtain ⟨tk, e⟩ := r; exact ⟨tk, e⟩
  obtain ⟨t1, rfl⟩ := vo w1
  obtain ⟨t2, rfl⟩ := vo w2
  obtain ⟨us1, r1, m1, f1⟩ := I1.src y1
  obtain ⟨us2, r2, m2, f2⟩ := I1.src y2
  refine zip_call r1 r2 fun h' hz hTI hTO a1 a2 a3 hk => wpAny_pyIter_zip hz ?_
  have I2 : Inv X pins σ H1 { s1 with heap := h' } := I1.kept (t' := s1.toks) hk
  have n := s1.heap.objs.size
  refine ⟨_, _, _, _, H1, rfl, I2, turn_zip (S1 := S1) (S2 := S2) (z := s1.heap.objs.size + 4) (TI := s1.heap.objs.size + 2) (TO := s1.heap.objs.size + 3) (i1 := s1.heap.objs.size) (i2 := s1.heap.objs.size + 1)
    (Nat.ne_of_lt (Nat.add_lt_add_left (by decide) _)) (Nat.ne_of_lt (Nat.add_lt_add_left (by decide) _)) (Nat.ne_of_lt (Nat.lt_add_of_pos_right (by decide))) (Nat.ne_of_lt (Nat.add_lt_add_left (by decide) _))
    (Nat.ne_of_lt (Nat.add_lt_add_left (by decide) _)) (Nat.ne_of_gt (Nat.lt_add_of_pos_right (by decide))) (Nat.ne_of_gt (Nat.add_lt_add_left (by decide) _)) (Nat.ne_of_gt (Nat.lt_add_of_pos_right (by decide)))
    (Nat.ne_of_gt (Nat.add_lt_add_left (by decide) _)) (Nat.ne_of_lt (Nat.lt_add_of_pos_right (by decide))), ⟨hz, hTI, ⟨_, _, hTO⟩, a1, a2⟩, fun b hb => ?_, q⟩
  have hb' : s1.heap.objs.size ≤ b := by
    simp only [List.mem_cons, List.not_mem_nil, or_false] at hb
    rcases hb with rfl | rfl | rfl | rfl | rfl
    · exact Nat.le_add_right _ 4
    · exact Nat.le_add_right _ 2
    · exact Nat.le_add_right _ 3
    · exact Nat.le_refl _
    · exact Nat.le_add_right _ 1
  exact I1.fpOk hb' (I1.hok.fresh hb')
end L2
set_option Elab.async false
set_option linter.all false
set_option maxRecDepth 100000
namespace L2
open PySem PySem.Spec PyProof.Rows
section
variable {X : Cx} (K : PySem.W.Frag)
theorem ixL (h : X.K = K := by rfl) : IxR X (rIxL K) := by subst h; exact ix_list
theorem ixT (h : X.K = K := by rfl) : IxR X (rIxT K) := by subst h; exact ix_tup
theorem slL (h : X.K = K := by rfl) : SlR X (rSlL K) := by subst h; exact sl_list
def rLenQ : List V → Hp → VK → Prop := fun xs H Q => ∃ p ys, xs = [.ref p] ∧ (SqL K H p ys ∨ SqT K H p ys) ∧ Q (.int ys.length) H
theorem lenQ (h : X.K = K := by rfl) : CallR X (.builtin "len") (rLenQ K) := by subst h; exact call_len_seq
theorem isiQ (h : X.K = K := by rfl) : CallR X (.builtin "isinstance") (rIsi K) := by subst h; exact call_isi
theorem isiTQ (h : X.K = K := by rfl) : CallR X (.builtin "isinstance") (rIsiT K) := by subst h; exact call_isiT
def rAllQ : List V → Hp → VK → Prop := fun xs H Q => ∃ (p : Addr) (bs : List Bool), xs = [.ref p] ∧ SqL K H p (bs.map V.bl) ∧ Q (.bl (bs.all id)) H
theorem allQ (hc : X.calm = true := by rfl) (h : X.K = K := by rfl) : CallR X (.builtin "all") (rAllQ K) := by subst h; exact call_all hc
def rSrtI : List V → Hp → VK → Prop := fun xs H Q => ∃ (p : Addr) (ns : List Int), xs = [.ref p] ∧ SqL K H p (ns.map V.int) ∧ ns.length < 64 ∧
    ∀ (l : Addr) (ns' : List Int), H l = none → ns'.Perm ns → ns'.Pairwise (· ≤ ·) → Q (.ref l) (upd H l (.lst (ns'.map V.int)))
def rSrtS : List V → Hp → VK → Prop := fun xs H Q => ∃ (p : Addr) (ss : List Str), xs = [.ref p] ∧ SqL K H p (ss.map V.str) ∧ ss.length < 64 ∧
    ∀ (l : Addr) (ss' : List Str), H l = none → ss'.Perm ss → sortedS ss' = true → Q (.ref l) (upd H l (.lst (ss'.map V.str)))
def rJoin : V → List V → Hp → VK → Prop := fun x vs H Q => ∃ (sep : Str) (p : Addr) (ys : List Str), x = .str sep ∧ vs = [.ref p] ∧ SqL K H p (ys.map V.str) ∧ (ys.map (·.length)).sum + ys.length * sep.length ≤ 16777216 ∧ Q (.str (Txt.join sep ys)) H
theorem iL {tg l : Expr} {tl : TE} (hl : PE X l tl) (h : X.K = K := by rfl) : PI X tg l (iList K tl) := by subst h; exact pi_list hl
theorem iT {tg l : Expr} {tl : TE} (hl : PE X l tl) (h : X.K = K := by rfl) : PI X tg l (iTup K tl) := by subst h; exact pi_tup hl
theorem gT {es : List Expr} {k : Nat} {t : TGs} {n : Nat} {pos : Pos} (h : PGs X es t) (hK : X.K = K := by rfl) (hc : X.calm = true := by rfl)
    (hn : (assignEach es X.env).length = n := by rfl) (hst : (assignEach es X.env).findIdx? (·.1) = none := by rfl) : PG X (.Tuple es k pos) (gTup K n t) := by subst hK; exact pg_tup hc h hn hst
theorem iZ {a b : Expr} {ta : TA} {p pos : Pos} {elts : List Expr} {x1 : Nat} {tpos : Pos} (hm : X.mg "zip" = none) (ha : PA X [a, b] ta) (hg : Gl X "zip" := by rfl) (hK : X.K = K := by rfl)
    (hs : starEach [a, b] X.env = [(false, eval a X.env), (false, eval b X.env)] := by rfl) (hs2 : starEach [b] X.env = [(false, eval b X.env)] := by rfl) :
    PI X (.Tuple elts x1 tpos) (.Call (.Name "zip" p) [a, b] [] pos) (iZip K ta) := by subst hK; exact pi_zip hg hm ha hs hs2
end
structure Df (P : Program) (w : World) (K : PySem.W.Frag) (mg : Str → Option Value) (base : Heap) (k : Nat) (x : Str) (ps : List Str) (sp : Sp) : Prop where
  ex : ∃ f fd, FnOk P w K mg base CX0 k f fd ps sp ∧ mg x = some (.ref f) ∧ PySem.W.keepIn K (.ref f) = true ∧ Binds K fd ps []
section
variable {P : Program} {w : World} {K : PySem.W.Frag} {mg : Str → Option Value} {base : Heap}
structure Top (K : PySem.W.Frag) (mg : Str → Option Value) (x : Str) (st : Stmt) (ps : List Str) : Prop where
  ex : ∃ f fd, Fun K x x st f fd ∧ mg x = some (.ref f) ∧ Binds K fd ps []
theorem Top.df {x : Str} {st : Stmt} {N ps : List Str} {k : Nat} {sp : Sp} (T : Top K mg x st ps) (S : FnScope N ps (defScope st)) (len : ∀ vs H Q E, sp vs H Q E → vs.length = ps.length)
    (hbody : ∀ (cdv : Value) (f : Addr) (A : Around) (outer : List Env) (s : Shared) (H : Hp) (vs : List V) (Q : VK) (E : XK), Room k (A.deeper (envOfC x (defScope st) s.heap.objs.size f cdv)) → sp vs H Q E →
      ∃ t, PSs (cxOf CX0 P w K mg base N x (defScope st) f cdv A outer s H E).nox (defBody st) t ∧ t { nx := fun _ H' => Q .non H', rt := Q } (start N vs) H) : Df P w K mg base (k + 1) x ps sp := by
  obtain ⟨f, fd, F, m, b⟩ := T.ex
  exact ⟨f, fd, F.ok S len (fun cdv A outer s H vs Q E hr h => hbody cdv f A outer s H vs Q E hr h), m, F.kp, b⟩
end
section
variable {X : Cx} {k j : Nat} {x : Str} {ps : List Str} {sp : Sp} {e : Expr} {es : List Expr} {t : TA} {p pos : Pos}
theorem pe_df (F : Df X.prog X.w X.K X.mg X.base k x ps sp) (hr : Room j X.A) (ha : PA X (e :: es) t) (hjk : k ≤ j := by decide) (hg : Gl X x := by rfl) (hdb : (x == ("__debug__" : Str)) = false := by decide)
    (he : starEach (e :: es) X.env = (false, eval e X.env) :: starEach es X.env := by rfl) (hpl : (backTo pos (starEach es X.env)).any (·.1) = false := by rfl) :
    PE X (.Call (.Name x p) (e :: es) [] pos) (tCall sp [] E0 t) := by
  obtain ⟨f, fd, F, m, kp, b⟩ := F.ex
  exact pe_call F (hr.mono hjk) hg m kp b .nil pass0 ha hdb he hpl
theorem pe_ty {T : String} (hm : X.mg x = none) (hv : bootBuiltins x = some (.type T)) (hg : Gl X x := by rfl) (hn : x ≠ "__name__" := by decide) (hd : (x == ("__debug__" : Str)) = false := by decide) : PE X (.Name x pos) (tC (.ty T)) :=
  pe_bltn hg hm hv rfl hn hd
end
theorem comp_range {lo : Int} {n k : Nat} {D : Addr} {σ : St} {H1 : Hp} {g : TG} {te : TE} {Q : VK} (Pv : Nat → List V → St → Hp → Prop) (h0 : Pv 0 [] (σ ++ List.replicate k none) (upd H1 D (.lst [])))
    (hs : ∀ i ys σ H, i < n → Pv i ys σ H → g (.int (lo + i)) σ H fun σ4 H4 => te σ4 H4 fun y H6 => H6 D = some (.lst ys) ∧ ys.length < sizeLine ∧ Pv (i + 1) (ys ++ [y]) σ4 (upd H6 D (.lst (ys ++ [y]))))
    (hd : ∀ ys σ H, Pv n ys σ H → Q (.ref D) H) : CompGo (Itr lo n) D k σ H1 g tYes te Q := by
  refine ⟨fun i m ys σ H => m = n - i ∧ i ≤ n ∧ Pv i ys σ H, ⟨n, by simp, Nat.zero_le _, h0⟩, ?_⟩
  rintro i m ys σ H ⟨rfl, hi, p⟩
  by_cases hlt : i < n
  · refine .inr ⟨hlt, Pv (i + 1), fun ys' σ' H' p' => ⟨n - (i + 1), by omega, rfl, hlt, p'⟩, fun x H' y => ?_⟩
    obtain ⟨e, y⟩ := y
    subst e y
    simp only [tYes, ↓reduceIte]
    exact hs i ys σ _ hlt p
  · have e : i = n := by omega
    subst e
    exact .inl ⟨Nat.le_refl _, hd ys σ H p⟩
theorem comp_zip {K : PySem.W.Frag} {S1 S2 : Src} {xs ys : List V} {k : Nat} {D : Addr} {σ : St} {H1 : Hp} {g : TG} {te : TE} {Q : VK} (Pv : Nat → List V → St → Hp → Prop) (h0 : Pv 0 [] (σ ++ List.replicate k none) (upd H1 D (.lst [])))
    (hl : ∀ i zs σ H, Pv i zs σ H → S1.its K H xs ∧ S2.its K H ys)
    (hs : ∀ i zs σ H x y p, xs[i]? = some x → ys[i]? = some y → Pv i zs σ H → H p = none → g (.ref p) σ (upd H p (.tup [x, y])) fun σ4 H4 => te σ4 H4 fun z H6 => H6 D = some (.lst zs) ∧ zs.length < sizeLine ∧ Pv (i + 1) (zs ++ [z]) σ4 (upd H6 D (.lst (zs ++ [z]))))
    (hd : ∀ zs σ H, Pv (min xs.length ys.length) zs σ H → Q (.ref D) H) : CompGo (Itz K S1 S2) D k σ H1 g tYes te Q := by
  refine ⟨fun i m zs σ H => m = min xs.length ys.length - i ∧ i ≤ min xs.length ys.length ∧ Pv i zs σ H, ⟨min xs.length ys.length, by simp, Nat.zero_le _, h0⟩, ?_⟩
  rintro i m zs σ H ⟨rfl, hi, p⟩
  obtain ⟨q1, q2⟩ := hl i zs σ H p
  by_cases hlt : i < min xs.length ys.length
  · have l1 : i < xs.length := by omega
    have l2 : i < ys.length := by omega
    refine .inr ⟨⟨xs, ys, q1, q2, l1, l2⟩, Pv (i + 1), fun ys' σ' H' p' => ⟨min xs.length ys.length - (i + 1), by omega, rfl, hlt, p'⟩, fun x H' y => ?_⟩
    obtain ⟨r, hr, rfl, e⟩ := y
    have e' := e xs ys q1 q2 _ _ (List.getElem?_eq_getElem l1) (List.getElem?_eq_getElem l2)
    subst e'
    simp only [tYes, ↓reduceIte]
    exact hs i zs σ H _ _ r (List.getElem?_eq_getElem l1) (List.getElem?_eq_getElem l2) p hr
  · have e : i = min xs.length ys.length := by omega
    refine .inl ⟨⟨xs, ys, q1, q2, by omega⟩, hd zs σ H (e ▸ p)⟩
theorem for_zip {K : PySem.W.Frag} {S1 S2 : Src} {xs ys : List V} {g : TG} {tb : TS} {D : Ends} {σ : St} {H : Hp} (Pv : Nat → St → Hp → Prop) (h0 : Pv 0 σ H) (hl : ∀ i σ H, Pv i σ H → S1.its K H xs ∧ S2.its K H ys)
    (hs : ∀ i x y σ H p, xs[i]? = some x → ys[i]? = some y → Pv i σ H → H p = none → g (.ref p) σ (upd H p (.tup [x, y])) fun σ2 H2 => tb { D with nx := Pv (i + 1), ct := Pv (i + 1), bk := D.nx } σ2 H2) (hd : ∀ σ H, Pv (min xs.length ys.length) σ H → D.nx σ H) :
    ∃ W : Nat → Nat → St → Hp → Prop, (∃ m, W 0 m σ H) ∧ ∀ i m σ H, W i m σ H →
      ((Itz K S1 S2).stop i H ∧ D.nx σ H) ∨ ((Itz K S1 S2).go i H ∧ ∃ N : St → Hp → Prop, (∀ σ' H', N σ' H' → ∃ m', m' < m ∧ W (i + 1) m' σ' H') ∧ ∀ x H', (Itz K S1 S2).yld i H x H' → g x σ H' fun σ2 H2 => tb { D with nx := N, ct := N, bk := D.nx } σ2 H2) := by
  refine ⟨fun i m σ H => m = min xs.length ys.length - i ∧ i ≤ min xs.length ys.length ∧ Pv i σ H, ⟨min xs.length ys.length, by simp, Nat.zero_le _, h0⟩, ?_⟩
  rintro i m σ H ⟨rfl, hi, p⟩
  obtain ⟨q1, q2⟩ := hl i σ H p
  by_cases hlt : i < min xs.length ys.length
  · have l1 : i < xs.length := by omega
    have l2 : i < ys.length := by omega
    refine .inr ⟨⟨xs, ys, q1, q2, l1, l2⟩, Pv (i + 1), fun σ' H' p' => ⟨min xs.length ys.length - (i + 1), by omega, rfl, hlt, p'⟩, fun x H' y => ?_⟩
    obtain ⟨r, hr, rfl, e⟩ := y
    have e' := e xs ys q1 q2 _ _ (List.getElem?_eq_getElem l1) (List.getElem?_eq_getElem l2)
    subst e'
    exact hs i _ _ σ H r (List.getElem?_eq_getElem l1) (List.getElem?_eq_getElem l2) p hr
  · have e : i = min xs.length ys.length := by omega
    exact .inl ⟨⟨xs, ys, q1, q2, by omega⟩, hd σ H (e ▸ p)⟩
end L2
set_option Elab.async false
set_option linter.all false
set_option maxRecDepth 100000
namespace L2
open PySem PySem.Spec PyProof.Rows
section
variable {X : Cx} {N N' : List Str} {o c : Scope} {x : Str} {pos : Pos} {C : Addr} {s : Shared} {H : Hp} {fp : List Addr}
theorem comp_local (S : CompSc N N' o c) (ho : X.env.scope = o) (hl : c.names.lookup x = some .local) : (compCx X c N' C s H fp).env.scope.names.lookup x = some .local := by
  have e := comp_kind (X := X) S ho (clOf X.env.cells c.names []) C x
  rw [hl] at e
  exact e
theorem comp_glob (S : CompSc N N' o c) (ho : X.env.scope = o) (hl : c.names.lookup x = some .globalImplicit) : Gl (compCx X c N' C s H fp) x := by
  have e := comp_kind (X := X) S ho (clOf X.env.cells c.names []) C x
  rw [hl] at e
  exact e
theorem comp_vis (S : CompSc N N' o c) (ho : X.env.scope = o) (hl : c.names.lookup x = some .free) : Vis (compCx X c N' C s H fp).env.scope x := by
  have e := comp_kind (X := X) S ho (clOf X.env.cells c.names []) C x
  rw [hl] at e
  have e' : (compCx X c N' C s H fp).env.scope.names.lookup x = if X.env.kindOf x = some .cell then some NameKind.cell else some NameKind.free := e
  by_cases z : X.env.kindOf x = some .cell
  · rw [if_pos z] at e'; exact .inr (.inl e')
  · rw [if_neg z] at e'; exact .inr (.inr e')
theorem cv (i : Nat) (S : CompSc N N' o c) (ho : X.env.scope = o) (hl : c.names.lookup x = some .free) (hN : N'[i]? = some x := by rfl) (hd : (x == ("__debug__" : Str)) = false := by decide) (hcd : (x == ("__classdict__" : Str)) = false := by decide) :
    PE (compCx X c N' C s H fp) (.Name x pos) (tVar i) := pe_var hN (comp_vis S ho hl) hd hcd
theorem cw (i : Nat) (S : CompSc N N' o c) (ho : X.env.scope = o) (hl : c.names.lookup x = some .local) (hN : N'[i]? = some x := by rfl) (hd : (x == ("__debug__" : Str)) = false := by decide) (hcd : (x == ("__classdict__" : Str)) = false := by decide) :
    PE (compCx X c N' C s H fp) (.Name x pos) (tVar i) := pe_var hN (.inl (comp_local S ho hl)) hd hcd
theorem cg (i : Nat) (S : CompSc N N' o c) (ho : X.env.scope = o) (hl : c.names.lookup x = some .local) (hi : N'[i]? = some x := by rfl) : PG (compCx X c N' C s H fp) (.Name x pos) (gName i) :=
  pg_name S.nd hi (.inl (comp_local S ho hl)) (.inr (comp_local S ho hl))
end
end L2
set_option Elab.async false
set_option linter.all false
set_option maxRecDepth 100000
namespace L2
open PySem PySem.Spec PyProof.Rows
mutual
inductive DV (K : PySem.W.Frag) (H : Hp) : V → PyData → Prop where
  | non : DV K H .non .none
  | bl (b : Bool) : DV K H (.bl b) (.bool b)
  | int (i : Int) : DV K H (.int i) (.int i)
  | str (s : Str) : DV K H (.str s) (.str s)
  | lst {a : Addr} {xs : List V} {ds : List PyData} : SqL K H a xs → DVs K H xs ds → DV K H (.ref a) (.list ds)
  | tup {a : Addr} {xs : List V} {ds : List PyData} : SqT K H a xs → DVs K H xs ds → DV K H (.ref a) (.tuple ds)
inductive DVs (K : PySem.W.Frag) (H : Hp) : List V → List PyData → Prop where
  | nil : DVs K H [] []
  | cons {x : V} {d : PyData} {xs : List V} {ds : List PyData} : DV K H x d → DVs K H xs ds → DVs K H (x :: xs) (d :: ds)
end
section
variable {X : Cx} {pins : List (Addr × Obj)} {σ : St} {H : Hp} {s : Shared}
mutual
theorem Inv.reads (I : Inv X pins σ H s) : ∀ {x : V} {d : PyData} {u : Value}, DV X.K H x d → RelV x u → ∃ as, Reads s.heap u d as
  | _, _, _, .non, r => by cases r; exact ⟨_, .none⟩
  | _, _, _, .bl b, r => by cases r; exact ⟨_, .bool b⟩
  | _, _, _, .int i, r => by obtain ⟨t, rfl⟩ := r; exact ⟨_, .int i t⟩
  | _, _, _, .str z, r => by obtain ⟨t, rfl⟩ := r; exact ⟨_, .str z t⟩
  | _, _, _, .lst h hs, r => by
    cases r
    obtain ⟨its, rv, ⟨o, n, e, hc, _, hd⟩, _⟩ := I.list h
    obtain ⟨as, q⟩ := Inv.readsAll I hs rv
    exact ⟨_, reads_list_at e hc hd (by simpa using q)⟩
  | _, _, _, .tup h hs, r => by
    cases r
    obtain ⟨its, rv, ⟨o, e, hc, n, hd⟩, _⟩ := I.tuple h
    obtain ⟨as, q⟩ := Inv.readsAll I hs rv
    exact ⟨_, reads_tuple_at e hc hd (by simpa using q)⟩
theorem Inv.readsAll (I : Inv X pins σ H s) : ∀ {xs : List V} {ds : List PyData} {us : List Value}, DVs X.K H xs ds → Vals xs us → ∃ as, ReadsAll s.heap us ds as
  | _, _, _, .nil, r => by cases r; exact ⟨_, .nil⟩
  | _, _, _, .cons h hs, r => by
    cases r with
    | cons r1 r2 =>
      obtain ⟨as, q1⟩ := Inv.reads I h r1
      obtain ⟨bs, q2⟩ := Inv.readsAll I hs r2
      exact ⟨_, .cons q1 q2⟩
end
def rEqD (K : PySem.W.Frag) (neg : Bool) : R2 := fun x y H Q => ∃ d e, DV K H x d ∧ DV K H y e ∧ SeqAt.shaped d = true ∧ SeqAt.shaped e = true ∧ Q (.bl (if neg then !PyData.eqv d e else PyData.eqv d e)) H
theorem op_eqD (hu : X.A.units + 64 < cLine) : OpR X (compareOp .Eq) (rEqD X.K false) := by
  intro pins s σ H x y v u Q I rx ry h
  obtain ⟨d, e, h1, h2, s1, s2, q⟩ := h
  obtain ⟨as, r1⟩ := I.reads h1 rx
  obtain ⟨bs, r2⟩ := I.reads h2 ry
  exact eq_dataH r1 r2 s1 s2 hu ⟨.bl _, H, I, rfl, q⟩
theorem op_neD (hu : X.A.units + 64 < cLine) : OpR X (compareOp .NotEq) (rEqD X.K true) := by
  intro pins s σ H x y v u Q I rx ry h
  obtain ⟨d, e, h1, h2, s1, s2, q⟩ := h
  obtain ⟨as, r1⟩ := I.reads h1 rx
  obtain ⟨bs, r2⟩ := I.reads h2 ry
  exact ne_dataH r1 r2 s1 s2 hu ⟨.bl _, H, I, rfl, q⟩
end
theorem eqD {X : Cx} (K : PySem.W.Frag) {k : Nat} (hr : Room k X.A) (h : X.K = K := by rfl) : OpR X (compareOp .Eq) (rEqD K false) := by subst h; exact op_eqD hr.units
theorem neD {X : Cx} (K : PySem.W.Frag) {k : Nat} (hr : Room k X.A) (h : X.K = K := by rfl) : OpR X (compareOp .NotEq) (rEqD K true) := by subst h; exact op_neD hr.units
mutual
theorem DV.mono {K : PySem.W.Frag} {H H' : Hp} (s : Same H H') : ∀ {x : V} {d : PyData}, DV K H x d → DV K H' x d
  | _, _, .non => .non
  | _, _, .bl b => .bl b
  | _, _, .int i => .int i
  | _, _, .str z => .str z
  | _, _, .lst h hs => .lst (s.seq h) (DVs.mono s hs)
  | _, _, .tup h hs => .tup (by
      rcases h with (h | ⟨ob, h⟩) | h
      · exact .inl (.inl (s _ _ h))
      · exact .inl (.inr ⟨ob, s _ _ h⟩)
      · exact .inr h) (DVs.mono s hs)
theorem DVs.mono {K : PySem.W.Frag} {H H' : Hp} (s : Same H H') : ∀ {xs : List V} {ds : List PyData}, DVs K H xs ds → DVs K H' xs ds
  | _, _, .nil => .nil
  | _, _, .cons h hs => .cons (DV.mono s h) (DVs.mono s hs)
end
end L2
set_option Elab.async false
set_option linter.all false
set_option maxRecDepth 100000
namespace L2
open PySem PySem.Spec PyProof.Rows
def Ite (K : PySem.W.Frag) (a : Addr) : It :=
  ⟨fun i H => ∃ xs, SqL K H a xs ∧ i < xs.length,
   fun i H v H' => ∃ p, H p = none ∧ v = .ref p ∧ ∀ xs, SqL K H a xs → ∀ x, xs[i]? = some x → H' = upd H p (.tup [.int i, x]),
   fun i H => ∃ xs, SqL K H a xs ∧ xs.length ≤ i⟩
theorem turn_enum {P : Program} {w : World} {K : PySem.W.Frag} {elts : List Expr} {x1 : Nat} {tpos : Pos} {a e it : Addr} (hne : e ≠ it) :
    Turn P w K (.Tuple elts x1 tpos) (Ite K a) [e, it] e (fun i h => (∃ old, IsEnum h e it i old) ∧ h.IsListIter it a i) where
  mem := by simp
  obj := fun i h st b hb => by
    obtain ⟨⟨old, he⟩, o, hit, hc, hd⟩ := st
    simp only [List.mem_cons, List.not_mem_nil, or_false] at hb
    rcases hb with rfl | rfl
    · exact ⟨_, he, fun v z => by cases z⟩
    · exact ⟨o, hit, fun v z => by rw [hd] at z; cases z⟩
  keep := fun i h h' st k => by
    obtain ⟨⟨old, he⟩, hit⟩ := st
    exact ⟨⟨old, k e (by simp) _ he⟩, hit.at fun o q => k it (by simp) o q⟩
  item := by
    intro X hP hw hK hc i pins s σ H E I hf st hg
    subst hP hw hK
    obtain ⟨⟨old, he⟩, hit⟩ := st
    obtain ⟨xs, q1, l1⟩ := hg
    obtain ⟨its, rv, pl, _⟩ := I.list q1
    obtain ⟨u, hu, ru⟩ := rv.get (List.getElem?_eq_getElem l1)
    refine wpAny_pyNext_enum_item he hit pl.isList (x := u) (by simpa using hu) hne fun h' a1 a2 a3 a4 a5 => ?_
    have lt : ∀ {b : Addr} {o : Obj}, s.heap.get? b = some o → s.heap.objs.size ≠ b := fun q => Nat.ne_of_gt (Heap.lt_size q)
    have hes : s.heap.objs.size ≠ e := lt he
    refine ⟨_, rfl, wpAny_letOwnedTupleGo_enum a1 fun h'' he'' hs'' => ?_⟩
    have hs' : Heap.SameBut e h' h'' := hs''
    have hit'' : h''.IsListIter it a (i + 1) := a2.extBut hs'.extBut hne.symm
    have I2 : Inv X pins σ (upd H s.heap.objs.size (.tup [.int i, xs[i]])) { s with heap := h'', toks := s.toks + 1 } := by
      refine I.zipped (fp := [e, it]) (u := .int i s.toks) (v := u) hf ⟨_, rfl⟩ ru (hs'.extBut _ _ hes a3) (fun b hb => ?_) fun c o hc q => ?_
      · simp only [List.mem_cons, List.not_mem_nil, or_false] at hb
        rcases hb with rfl | rfl
        · exact ⟨_, he''⟩
        · obtain ⟨o, q, _⟩ := hit''; exact ⟨o, q⟩
      · simp only [List.mem_cons, List.not_mem_nil, or_false, not_or] at hc
        exact hs'.extBut _ _ hc.1 (a5 c o hc.1 hc.2 q)
    refine ⟨.ref s.heap.objs.size, _, I2, rfl, ⟨s.heap.objs.size, I.fresh, rfl, fun xs' w1 x' e1 => ?_⟩, ⟨⟨_, he''⟩, hit''⟩, fun b hb => ?_⟩
    · have e3 := I.list_inj w1 q1
      subst e3
      rw [List.getElem?_eq_getElem l1] at e1
      cases e1
      rfl
    · rw [upd_ne (fun z => by
        obtain ⟨o, q⟩ : ∃ o, s.heap.get? b = some o := by
          simp only [List.mem_cons, List.not_mem_nil, or_false] at hb
          rcases hb with rfl | rfl
          · exact ⟨_, he⟩
          · obtain ⟨o, q, _⟩ := hit; exact ⟨o, q⟩
        exact lt q z.symm)]
      exact (hf b hb).1
  done := by
    intro X hP hw hK hc i pins s σ H E I hf st hg
    subst hP hw hK
    obtain ⟨⟨old, he⟩, hit⟩ := st
    obtain ⟨xs, q1, l1⟩ := hg
    obtain ⟨its, rv, pl, _⟩ := I.list q1
    obtain ⟨f0, f1, f2, f3, f4, f5⟩ := hf it (by simp)
    have hl := rv.length
    exact wpAny_pyNext_enum_end (I.ok.hd hc) he hit pl.isList (by rw [List.getElem?_toArray]; exact List.getElem?_eq_none (by omega)) fun h' eb => ⟨rfl, I.turned (t' := s.toks) (fun b o hb q => eb b o hb q) f0 f1 f3 f4 f5⟩
  self := fun _ _ _ _ _ st h => by obtain ⟨⟨old, he⟩, _⟩ := st; exact wpAny_pyIter_enum he h
def iEnum (K : PySem.W.Frag) (ta : TA) : TI := fun σ H R => ta σ H fun vs H1 => ∃ a xs, vs = [V.ref a] ∧ SqL K H1 a xs ∧ R (Ite K a) H1
theorem pi_enum {X : Cx} {l : Expr} {ta : TA} {p pos : Pos} {elts : List Expr} {x1 : Nat} {tpos : Pos} (hg : Gl X "enumerate") (hm : X.mg "enumerate" = none) (ha : PA X [l] ta)
    (hs : starEach [l] X.env = [(false, eval l X.env)] := by rfl) : PI X (.Tuple elts x1 tpos) (.Call (.Name "enumerate" p) [l] [] pos) (iEnum X.K ta) := by
  intro pins s σ H R I h
  refine Call_ (ld_blt I hg hm boot_enumerate (PyProof.Rows.callWith_type1 (thn (ha pos pins s σ H _ I h) fun us s1 ⟨vs, H1, I1, r1, q1⟩ => ?_) hs rfl))
  obtain ⟨a, xs, e, y1, q⟩ := q1
  subst e
  obtain ⟨u, rfl, ru⟩ := r1.one
  cases ru
  obtain ⟨its, rv, pl, _⟩ := I1.list y1
  refine call_enumerate_list pl.isList fun h' he hit hsz hk => wpAny_pyIter_enum he ?_
  have I2 : Inv X pins σ H1 { s1 with heap := h' } := I1.kept (t' := s1.toks) hk
  refine ⟨_, _, _, _, H1, rfl, I2, turn_enum (a := a) (e := s1.heap.objs.size + 1) (it := s1.heap.objs.size) (Nat.ne_of_gt (Nat.lt_succ_self _)), ⟨⟨_, he⟩, hit⟩, fun b hb => ?_, q⟩
  have hb' : s1.heap.objs.size ≤ b := by
    simp only [List.mem_cons, List.not_mem_nil, or_false] at hb
    rcases hb with rfl | rfl
    · exact Nat.le_add_right _ 1
    · exact Nat.le_refl _
  exact I1.fpOk hb' (I1.hok.fresh hb')
theorem iE {X : Cx} (K : PySem.W.Frag) {l : Expr} {ta : TA} {p pos : Pos} {elts : List Expr} {x1 : Nat} {tpos : Pos} (hm : X.mg "enumerate" = none) (ha : PA X [l] ta) (hg : Gl X "enumerate" := by rfl) (hK : X.K = K := by rfl)
    (hs : starEach [l] X.env = [(false, eval l X.env)] := by rfl) : PI X (.Tuple elts x1 tpos) (.Call (.Name "enumerate" p) [l] [] pos) (iEnum K ta) := by subst hK; exact pi_enum hg hm ha hs
theorem for_enum {K : PySem.W.Frag} {a : Addr} {xs : List V} {g : TG} {tb : TS} {D : Ends} {σ : St} {H : Hp} (Pv : Nat → St → Hp → Prop) (h0 : Pv 0 σ H) (hl : ∀ i σ H, Pv i σ H → SqL K H a xs)
    (hs : ∀ i x σ H p, xs[i]? = some x → Pv i σ H → H p = none → g (.ref p) σ (upd H p (.tup [.int i, x])) fun σ2 H2 => tb { D with nx := Pv (i + 1), ct := Pv (i + 1), bk := D.nx } σ2 H2) (hd : ∀ σ H, Pv xs.length σ H → D.nx σ H) :
    ∃ W : Nat → Nat → St → Hp → Prop, (∃ m, W 0 m σ H) ∧ ∀ i m σ H, W i m σ H →
      ((Ite K a).stop i H ∧ D.nx σ H) ∨ ((Ite K a).go i H ∧ ∃ N : St → Hp → Prop, (∀ σ' H', N σ' H' → ∃ m', m' < m ∧ W (i + 1) m' σ' H') ∧ ∀ x H', (Ite K a).yld i H x H' → g x σ H' fun σ2 H2 => tb { D with nx := N, ct := N, bk := D.nx } σ2 H2) := by
  refine ⟨fun i m σ H => m = xs.length - i ∧ i ≤ xs.length ∧ Pv i σ H, ⟨xs.length, by simp, Nat.zero_le _, h0⟩, ?_⟩
  rintro i m σ H ⟨rfl, hi, p⟩
  have q1 := hl i σ H p
  by_cases hlt : i < xs.length
  · refine .inr ⟨⟨xs, q1, hlt⟩, Pv (i + 1), fun σ' H' p' => ⟨xs.length - (i + 1), by omega, rfl, hlt, p'⟩, fun x H' y => ?_⟩
    obtain ⟨r, hr, rfl, e⟩ := y
    have e' := e xs q1 _ (List.getElem?_eq_getElem hlt)
    subst e'
    exact hs i _ σ H r (List.getElem?_eq_getElem hlt) p hr
  · have e : i = xs.length := by omega
    exact .inl ⟨⟨xs, q1, by omega⟩, hd σ H (e ▸ p)⟩
def rMinL (K : PySem.W.Frag) : List V → Hp → VK → Prop := fun vs H Q => ∃ (p : Addr) (ns : List Int), vs = [.ref p] ∧ SqL K H p (ns.map V.int) ∧ 0 < ns.length ∧ ∀ M, M ∈ ns → (∀ a ∈ ns, M ≤ a) → Q (.int M) H
theorem call_minL {X : Cx} (hc : X.calm = true) : CallR X (.builtin "min") (rMinL X.K) := by
  intro pins s σ H vs us Q I r h
  obtain ⟨p, ns, rfl, hq, hne, q⟩ := h
  obtain ⟨u, rfl, rx⟩ := vals1 r
  cases rx
  obtain ⟨its, rv, pl, _⟩ := I.list hq
  have hi := intsAre_of rv
  obtain ⟨xs, e⟩ := hi.allInts.items
  have hns : ns = xs.toList.map (·.1) := by rw [← hi.numsOf, ← nums_intItems, ← e]
  have hsz : 0 < xs.size := by
    have h3 := hne
    rw [hns, List.length_map, Array.length_toList] at h3
    exact h3
  have hl := pl.isList
  rw [e] at hl
  refine min_intList (I.ok.hd hc) hl hsz fun v h' tk hv hk => ?_
  obtain ⟨t, rfl⟩ := intItems_at hv
  obtain ⟨h1, h2⟩ := argBest_lt (numAt xs) (xs.size - 1)
  refine ⟨.int _, H, I.kept hk, ⟨t, rfl⟩, q _ ?_ fun a ha => ?_⟩
  · rw [hns, numAt_eq]; exact getD_mem (by rw [List.length_map, Array.length_toList]; omega)
  · rw [hns] at ha
    obtain ⟨j, hj, rfl⟩ := mem_getD ha
    rw [List.length_map, Array.length_toList] at hj
    rw [← numAt_eq]; exact h2 j (by omega)
theorem minL {X : Cx} (K : PySem.W.Frag) (hc : X.calm = true := by rfl) (h : X.K = K := by rfl) : CallR X (.builtin "min") (rMinL K) := by subst h; exact call_minL hc
def rListQ (K : PySem.W.Frag) : List V → Hp → VK → Prop := fun xs H Q => ∃ p ys, xs = [.ref p] ∧ (SqL K H p ys ∨ SqT K H p ys) ∧ ∀ l, H l = none → Q (.ref l) (upd H l (.lst ys))
end L2
set_option Elab.async false
set_option linter.all false
set_option maxRecDepth 100000
namespace L2
open PySem PySem.Spec PyProof.Rows
section
variable {prog : Program} {w : World} {A : Around} {E : Value → Shared → Prop} {s : Shared}
end
def gLst (K : PySem.W.Frag) (n : Nat) (t : TGs) : TG := fun v σ H Q => ∃ a xs, v = .ref a ∧ SqL K H a xs ∧ xs.length = n ∧ t xs σ H Q
def pickV (xs : List V) (lo hi : Option Int) (st : Int) : List V :=
  (sliceRange (sliceBounds lo hi (some st) xs.length).1 (sliceBounds lo hi (some st) xs.length).2.1 (sliceBounds lo hi (some st) xs.length).2.2).filterMap fun i => xs[i]?
theorem vals_pick {xs : List V} {us : List Value} (r : Vals xs us) : ∀ is : List Nat, Vals (is.filterMap fun i => xs[i]?) (is.filterMap fun i => us[i]?)
  | [] => .nil
  | i :: is => by
    have ih := vals_pick r is
    by_cases hi : i < xs.length
    · have e1 : xs[i]? = some xs[i] := List.getElem?_eq_getElem hi
      obtain ⟨u, hu, ru⟩ := r.get e1
      rw [List.filterMap_cons, List.filterMap_cons, e1, hu]
      exact .cons ru ih
    · have e1 : xs[i]? = none := List.getElem?_eq_none (by omega)
      have e2 : us[i]? = none := List.getElem?_eq_none (by rw [← r.length]; omega)
      rw [List.filterMap_cons, List.filterMap_cons, e1, e2]
      exact ih
def SlRS (X : Cx) (r : V → Option Int → Option Int → Int → Hp → VK → Prop) : Prop :=
  ∀ (pins : List (Addr × Obj)) (s : Shared) (σ : St) (H : Hp) (x : V) (v vl vu vs : Value) (lo hi : Option Int) (st : Int) (sl : Addr) (Q : VK), Inv X pins σ H s → RelV x v → s.heap.IsSliceOf sl vl vu vs → IsPart vl lo → IsPart vu hi → IsPart vs (some st) → r x lo hi st H Q →
    ∃ T id, typeLookup (.type T) "__getitem__" = pure (some (.builtin id)) ∧ s.TypeIs v T ∧ wpAny (model X.prog X.w) X.A (getItem v (.ref sl)) (EP X pins σ Q) X.xe s
def tSlS (r : V → Option Int → Option Int → Int → Hp → VK → Prop) (te : TE) (tl th ts : TO) : TE := fun σ H Q => te σ H fun x H1 => tl σ H1 fun l H2 => th σ H2 fun u H3 => ts σ H3 fun k H4 => ∃ i, k = some i ∧ r x l u i H4 Q
section
variable {X : Cx} {e st : Expr} {te : TE} {lo hi : Option Expr} {tl th ts : TO} {pos p2 : Pos}
theorem pe_sliceS {r : V → Option Int → Option Int → Int → Hp → VK → Prop} (hr : SlRS X r) (he : PE X e te) (hl : PO X lo tl) (hu : PO X hi th) (hst : PO X (some st) ts) : PE X (.Subscript e (.Slice lo hi (some st) p2) pos) (tSlS r te tl th ts) := by
  intro pins s σ H Q I h
  refine Subscript_ (thn (he pins s σ H _ I h) fun v s1 ⟨x, H1, I1, r1, q1⟩ => ?_)
  refine wpAny_Slice (thn (hl pins s1 σ H1 _ I1 q1) fun vl s2 ⟨l, H2, I2, pl, q2⟩ => thn (hu pins s2 σ H2 _ I2 q2) fun vu s3 ⟨u, H3, I3, pu, q3⟩ => thn (hst pins s3 σ H3 _ I3 q3) fun vs s4 ⟨k, H4, I4, pk, q4⟩ => ?_)
  obtain ⟨i, rfl, q4⟩ := q4
  have I5 : Inv X pins σ H4 { s4 with heap := s4.heap.push { cls := .type "slice", data := .fields #[vl, vu, vs] } } := I4.kept (t' := s4.toks) fun b ob q => Heap.get?_push_of_some _ q
  obtain ⟨T, id, hT, ht, hg⟩ := hr pins { s4 with heap := s4.heap.push { cls := .type "slice", data := .fields #[vl, vu, vs] } } σ H4 x v vl vu vs l u i s4.heap.objs.size Q I5 r1 (Heap.IsSliceOf.new ..) pl pu pk q4
  show wpAny (model X.prog X.w) X.A (subscriptTail e (.Slice lo hi (some st) p2) v (.ref s4.heap.objs.size)) (EP X pins σ Q) X.xe { s4 with heap := s4.heap.push { cls := .type "slice", data := .fields #[vl, vu, vs] } }
  exact tail_any (ops := [v, .ref s4.heap.objs.size]) ht hT hg (by with_unfolding_all rfl)
def rSlLS (K : PySem.W.Frag) : V → Option Int → Option Int → Int → Hp → VK → Prop := fun x lo hi st H Q => ∃ a xs, x = .ref a ∧ SqL K H a xs ∧ st ≠ 0 ∧ ∀ p, H p = none → Q (.ref p) (upd H p (.lst (pickV xs lo hi st)))
end
theorem filterMap_rev {α : Type} (xs : List α) : ((List.range xs.length).map fun i => xs.length - 1 - i).filterMap (fun i => xs[i]?) = xs.reverse := by
  rw [List.filterMap_map]
  have e : ∀ n, n ≤ xs.length → (List.range n).filterMap ((fun i => xs[i]?) ∘ fun i => xs.length - 1 - i) = xs.reverse.take n := by
    intro n
    induction n with
    | zero => intro _; rfl
    | succ n ih =>
      intro hn
      rw [List.range_succ, List.filterMap_append, ih (by omega)]
      have h1 : xs[xs.length - 1 - n]? = some xs[xs.length - 1 - n] := List.getElem?_eq_getElem (by omega)
      rw [List.filterMap_cons]
      simp only [Function.comp, h1, List.filterMap_nil]
      rw [List.take_add_one, List.getElem?_reverse (by omega), h1]
      rfl
  rw [e _ (Nat.le_refl _)]
  exact List.take_of_length_le (by simp)
section
variable {X : Cx}
def rInsert : V → List V → Hp → VK → Prop := fun x vs H Q => ∃ l xs i y, x = .ref l ∧ vs = [.int i, y] ∧ H l = some (.lst xs) ∧ 0 ≤ i ∧ i ≤ xs.length ∧ xs.length < sizeLine ∧ Q .non (upd H l (.lst (xs.take i.toNat ++ y :: xs.drop i.toNat)))
def rBits : V → List V → Hp → VK → Prop := fun x vs H Q => ∃ i, x = .int i ∧ vs = [] ∧ Q (.int (Builtin.Int.intBits i : Nat)) H
def rTupQ (K : PySem.W.Frag) : List V → Hp → VK → Prop := fun xs H Q => ∃ p ys, xs = [.ref p] ∧ ((SqL K H p ys ∧ ∀ l, H l = none → Q (.ref l) (upd H l (.tup ys))) ∨ (SqT K H p ys ∧ Q (.ref p) H))
end
end L2
set_option Elab.async false
set_option linter.all false
set_option maxRecDepth 100000
namespace L2
open PySem PySem.Spec PyProof.Rows
def Its (z : Str) : It := ⟨fun i _ => i < z.cps.size, fun i H v H' => H' = H ∧ ∃ c, z.cps[i]? = some c ∧ v = .str ⟨#[c]⟩, fun i _ => z.cps.size ≤ i⟩
section
variable {X : Cx} {tg : Expr}
def iStr (tl : TE) : TI := fun σ H R => tl σ H fun x H1 => ∃ z, x = .str z ∧ R (Its z) H1
theorem op_notB : OpR X (compareOp .IsNot) (fun x y H Q => ∃ a b, x = .bl a ∧ y = .bl b ∧ Q (.bl (!decide (a = b))) H) := by
  intro pins s σ H x y v u Q I rx ry h
  obtain ⟨a, b, rfl, rfl, q⟩ := h
  cases rx
  cases ry
  exact wpAny_isNot_plain rfl (fin_bl I q (by cases a <;> cases b <;> rfl))
end
end L2
set_option Elab.async false
set_option linter.all false
set_option maxRecDepth 100000
namespace L2
open PySem PySem.Spec PyProof.Rows
def strD : PyData → Str
  | .str z => z
  | d => d.shown
def rStrD (K : PySem.W.Frag) : List V → Hp → VK → Prop := fun xs H Q => ∃ x d, xs = [x] ∧ DV K H x d ∧ PyData.layable0 d = true ∧ d.intsShort 13 = true ∧ d.showable = true ∧ Q (.str (strD d)) H
end L2
set_option Elab.async false
set_option linter.all false
set_option maxRecDepth 100000
namespace L2
open PySem PySem.Spec PyProof.Rows
def lookK (kvs : List (List Key × V)) (k : List Key) : Option V := (kvs.find? fun kv => decide (kv.1 = k)).map (·.2)
abbrev PairT (H : Hp) : List (List Key × V) → List (List Key × Addr × Value) → Prop := Paired fun (p : List Key × V) (q : List Key × Addr × Value) => p.1 = q.1 ∧ H q.2.1 = some (.tup (p.1.map kV)) ∧ RelV p.2 q.2.2
theorem pair_snoc {H : Hp} {kvs : List (List Key × V)} {xs : List (List Key × Addr × Value)} (r : PairT H kvs xs) {p : List Key × V} {q : List Key × Addr × Value} (h : p.1 = q.1 ∧ H q.2.1 = some (.tup (p.1.map kV)) ∧ RelV p.2 q.2.2) : PairT H (kvs ++ [p]) (xs ++ [q]) := by
  induction r with
  | nil => exact .cons h .nil
  | cons a t ih => exact .cons a ih
theorem pair_keep {H H' : Hp} {kvs : List (List Key × V)} {xs : List (List Key × Addr × Value)} (k : ∀ b ys, H b = some (.tup ys) → H' b = some (.tup ys)) (r : PairT H kvs xs) : PairT H' kvs xs := by
  induction r with
  | nil => exact .nil
  | cons a t ih => exact .cons ⟨a.1, k _ _ a.2.1, a.2.2⟩ ih
theorem pair_all {H : Hp} {R : List Key → Addr → Prop} (k : ∀ ks b, H b = some (.tup (ks.map kV)) → R ks b) {kvs : List (List Key × V)} {xs : List (List Key × Addr × Value)} (r : PairT H kvs xs) : ∀ x ∈ xs, R x.1 x.2.1 := by
  induction r with
  | nil => intro x hx; cases hx
  | cons a t ih =>
    intro x hx
    rcases List.mem_cons.mp hx with rfl | hx
    · exact k _ _ (by rw [← a.1]; exact a.2.1)
    · exact ih x hx
theorem pair_len {H : Hp} {kvs : List (List Key × V)} {xs : List (List Key × Addr × Value)} (r : PairT H kvs xs) : kvs.length = xs.length := by
  induction r with
  | nil => rfl
  | cons a t ih => rw [List.length_cons, List.length_cons, ih]
theorem key_is {P : Program} {w : World} {k : Key} {u : Value} (r : RelV (kV k) u) : (mixKind P w).is k u = true := by
  rcases k with i | x
  · obtain ⟨t, e⟩ := (show ∃ t, u = Value.int i t from r)
    rw [e]
    exact mixKind_int P w i t
  · obtain ⟨t, e⟩ := (show ∃ t, u = Value.str x t from r)
    rw [e]
    exact mixKind_str P w x t
theorem keys_are {P : Program} {w : World} : ∀ (ks : List Key) (us : List Value), Vals (ks.map kV) us → ItemsAre (mixKind P w) ks us := by
  intro ks
  induction ks with
  | nil => intro us r; cases (show Vals [] us from r); exact .nil
  | cons k ks ih =>
    intro us r
    cases (show Vals (kV k :: ks.map kV) us from r) with
    | cons a b => exact .cons (key_is a) (ih _ b)
section
variable {X : Cx} {pins : List (Addr × Obj)} {σ : St} {H : Hp} {s : Shared}
theorem Inv.tkey {ks : List Key} {b : Addr} (I : Inv X pins σ H s) (e : H b = some (.tup (ks.map kV))) : (tupleKind (mixKind X.prog X.w)).is s.heap ks b := by
  obtain ⟨_, its, r, hb⟩ := I.hok b _ e
  obtain ⟨o, h1, h2, n, h3⟩ := hb
  refine ⟨o, its.toArray, n, h1, h2, h3, ?_⟩
  have := keys_are (P := X.prog) (w := X.w) ks its r
  simpa using this
def tNewT : TE := fun _ H Q => ∀ p, H p = none → Q (.ref p) (upd H p (.dT []))
theorem pe_newT {pos : Pos} : PE X (.Dict [] [] pos) tNewT := by
  intro pins s σ H Q I h
  have hb : sysModules < s.heap.objs.size := Nat.lt_trans (by decide) (show mainGlobals < s.heap.objs.size from (I.mod.glob.keeps I.bk).lt)
  refine wpAny_Dict_empty ⟨.ref s.heap.objs.size, upd H s.heap.objs.size (.dT []), ?_, rfl, h _ (I.hok.fresh (Nat.le_refl _))⟩
  refine I.laid (t' := s.toks) (fun _ _ q => Heap.get?_push_of_some _ q) (Nat.le_refl _) ?_
  refine ⟨Nat.zero_le _, ?_, [], .nil, _, #[], 0, Heap.get?_push_size _ rfl, ⟨rfl, rfl, rfl⟩, rfl, rfl, List.nodup_nil⟩
  exact beq_eq_false_iff_ne.mpr fun z => Nat.lt_irrefl _ (z ▸ hb)
end
def rSetDef : V → List V → Hp → VK → Prop := fun x vs H Q => ∃ d kvs b ks y, x = .ref d ∧ vs = [.ref b, y] ∧ H d = some (.dT kvs) ∧ H b = some (.tup (ks.map kV)) ∧ kvs.length < sizeLine ∧
  (∀ v, lookK kvs ks = some v → Q v H) ∧ (lookK kvs ks = none → Q y (upd H d (.dT (kvs ++ [(ks, y)]))))
end L2
set_option Elab.async false
set_option linter.all false
set_option maxRecDepth 100000
namespace L2
open PySem PySem.Spec PyProof.Rows
def rRng1 : List V → Hp → VK → Prop := fun xs H Q => ∃ j : Int, xs = [.int j] ∧ ∀ p, H p = none → Q (.ref p) (upd H p (.rng 0 j))
theorem rng1 {X : Cx} : CallR X (.type "range") rRng1 := by
  intro pins s σ H xs us Q I r h
  obtain ⟨j, rfl, q⟩ := h
  obtain ⟨u, rfl, t, rfl⟩ := vals1 r
  refine call_range_1 ⟨.ref s.heap.objs.size, _, I.laid (a := s.heap.objs.size) (o := .rng 0 j) (fun b o e => Heap.get?_push_of_some _ e) (Nat.le_refl _) ?_, rfl, q _ (I.hok.fresh (Nat.le_refl _))⟩
  exact ⟨_, _, _, Heap.get?_push_size _ rfl⟩
def rRng2 : List V → Hp → VK → Prop := fun xs H Q => ∃ i j : Int, xs = [.int i, .int j] ∧ ∀ p, H p = none → Q (.ref p) (upd H p (.rng i j))
def upsI (lo : Int) (n : Nat) : List Int := (List.range n).map fun (k : Nat) => lo + k
theorem upsI_len (lo : Int) (n : Nat) : (upsI lo n).length = n := by simp [upsI]
theorem vals_items {lo : Int} : ∀ (n : Nat) (us : List Value), us.length = n → (∀ (j : Nat) (v : Value), us[j]? = some v → ∃ t, v = Value.int (lo + j * 1) t) → Vals ((upsI lo n).map V.int) us := by
  intro n us hl h
  subst hl
  induction us generalizing lo with
  | nil => exact .nil
  | cons u r ih =>
    have e : upsI lo (u :: r).length = lo :: upsI (lo + 1) r.length := by
      unfold upsI
      rw [List.length_cons, List.range_succ_eq_map, List.map_cons, List.map_map]
      refine congr (congrArg _ (by simp)) (List.map_congr_left fun a _ => ?_)
      simp only [Function.comp]
      omega
    rw [e, List.map_cons]
    refine .cons ?_ (ih fun j v hv => ?_)
    · obtain ⟨t, e⟩ := h 0 u rfl
      exact ⟨t, by rw [e]; simp⟩
    · obtain ⟨t, e⟩ := h (j + 1) v (by simpa using hv)
      exact ⟨t, by rw [e]; congr 1; omega⟩
def rListR : List V → Hp → VK → Prop := fun xs H Q => ∃ (p : Addr) (lo hi : Int), xs = [.ref p] ∧ H p = some (.rng lo hi) ∧ -(2 ^ 62) ≤ lo ∧ lo < 2 ^ 62 ∧ -(2 ^ 62) ≤ hi ∧ hi < 2 ^ 62 ∧ (hi - lo).toNat ≤ 1000 ∧
  ∀ l, H l = none → Q (.ref l) (upd H l (.lst ((upsI lo (hi - lo).toNat).map V.int)))
theorem listR {X : Cx} (hc : X.calm = true := by rfl) : CallR X (.type "list") rListR := by
  intro pins s σ H xs us Q I r h
  obtain ⟨p, lo, hi, rfl, hp, h1, h2, h3, h4, h5, q⟩ := h
  obtain ⟨u, rfl, rx⟩ := vals1 r
  cases rx
  obtain ⟨t, u, v, e⟩ := I.hok _ _ hp
  have sz : Builtin.Range.rangeSize lo hi 1 = (((hi - lo).toNat : Nat) : Int) := by rw [rangeSize_one]; split <;> omega
  refine call_list_range (I.ok.hd hc) e (small_one h1 h2 h3 h4) sz (by omega) fun h' tk acc' c' kp e' it => ?_
  refine ⟨.ref s.heap.objs.size, _, I.laid (t' := tk) kp (Nat.le_refl _) (show ObjOk X.prog X.w _ h' _ (.lst ((upsI lo (hi - lo).toNat).map V.int)) from ⟨?_, acc'.toList, c', vals_items _ _ (by simpa using it.1) (fun j v hv => it.2 j v (by simpa using hv)), by simpa using e'⟩), rfl, q _ (I.hok.fresh (Nat.le_refl _))⟩
  rw [List.length_map, upsI_len]
  exact Nat.le_of_lt (small1000 h5)
end L2
set_option Elab.async false
set_option linter.all false
set_option maxRecDepth 100000
namespace L2
open PySem PySem.Spec PyProof.Rows
theorem adjust_back (n : Nat) : Builtin.Slice.sliceAdjust none none (-1) (n : Int) = ((n : Int) - 1, -1) := by
  unfold Builtin.Slice.sliceAdjust
  simp
theorem places_back (n : Nat) : Builtin.Slice.slicePlaces ((n : Int) - 1) (-1) (-1) = n := by
  unfold Builtin.Slice.slicePlaces
  have h1 : ¬ ((-1 : Int) > 0) := by omega
  simp only [h1, if_false]
  by_cases h : (n : Int) - 1 > -1
  · simp only [h, if_true]; simp
  · simp only [h, if_false]; omega
section
variable {prog : Program} {w : World} {A : Around} {E : Value → Shared → Prop} {s : Shared}
theorem sliceApplied_back {sl : Addr} {t : Tok} {n : Nat} {Q : Int × Int × Nat → Shared → Prop} (hs : s.heap.IsSliceOf sl .none .none (.int (-1) t))
    (h : Q ((n : Int) - 1, -1, n) s) : wpAny (model prog w) A (Builtin.Slice.sliceApplied (.ref sl) (pure (n : Int))) Q E s := by
  obtain ⟨os, hos, hcs, hds⟩ := id hs
  unfold Builtin.Slice.sliceApplied Builtin.Slice.sliceFields
  refine wpAny_bind (wpAny_bind (wpAny_field hos hds (x := .none) rfl (wpAny_bind (wpAny_field hos hds (x := .none) rfl (wpAny_bind (wpAny_field hos hds (x := .int (-1) t) rfl (wpAny_pure ?_)))))))
  refine wpAny_bind (slicePart_int ?_)
  show wpAny _ _ (if ((-1 : Int) == 0) = true then _ else _) _ _ s
  rw [if_neg (by decide)]
  refine wpAny_bind (slicePart_none (wpAny_bind (slicePart_none (wpAny_bind (wpAny_pure ?_)))))
  show wpAny _ _ (match Builtin.Slice.sliceAdjust none none (-1) (n : Int) with | (lo, hi) => pure (lo, (-1 : Int), Builtin.Slice.slicePlaces lo hi (-1))) _ _ s
  rw [adjust_back n]
  show wpAny _ _ (pure ((n : Int) - 1, (-1 : Int), Builtin.Slice.slicePlaces ((n : Int) - 1) (-1) (-1))) _ _ s
  rw [places_back]
  exact wpAny_pure h
theorem fm_congr {α β : Type} {f g : α → Option β} : ∀ l : List α, (∀ m ∈ l, f m = g m) → l.filterMap f = l.filterMap g
  | [], _ => rfl
  | a :: r, h => by rw [List.filterMap_cons, List.filterMap_cons, h a (by simp), fm_congr r fun m hm => h m (List.mem_cons_of_mem _ hm)]
theorem pick_back (xs : Array Value) : ((List.range xs.size).filterMap fun (m : Nat) => xs[(((xs.size : Nat) : Int) - 1 + (m : Int) * (-1)).toNat]?).toArray = xs.toList.reverse.toArray := by
  have h := filterMap_rev xs.toList
  rw [List.filterMap_map] at h
  have e : ∀ m ∈ List.range xs.size, xs[(((xs.size : Nat) : Int) - 1 + (m : Int) * (-1)).toNat]? = ((fun i => xs.toList[i]?) ∘ fun i => xs.toList.length - 1 - i) m := fun m hm => by
    have hm' := List.mem_range.mp hm
    have e1 : (((xs.size : Nat) : Int) - 1 + (m : Int) * (-1)).toNat = xs.toList.length - 1 - m := by rw [Array.length_toList]; omega
    rw [e1]
    simp
  rw [fm_congr _ e]
  rw [show List.range xs.size = List.range xs.toList.length by rw [Array.length_toList], h]
theorem getItem_tuple_back {t sl : Addr} {items : Array Value} {tk : Tok} {Q : Value → Shared → Prop} (ht : IsTup s.heap t items) (hs : s.heap.IsSliceOf sl .none .none (.int (-1) tk))
    (h : Q (.ref s.heap.objs.size) { s with heap := s.heap.push { cls := .type "tuple", data := .seq items.toList.reverse.toArray } })
    (hsz : items.size ≤ sizeLine) : wpAny (model prog w) A (getItem (.ref t) (.ref sl)) Q E s := by
  have htake : sizeOk (.seq items.toList.reverse.toArray) := by
    show items.toList.reverse.toArray.size ≤ sizeLine
    rw [List.size_toArray, List.length_reverse, Array.length_toList]
    exact hsz
  obtain ⟨os, hos, hcs, hds⟩ := id hs
  have hTs : s.TypeIs (.ref sl) "slice" := ⟨os, hos, hcs⟩
  unfold getItem
  try with_reducible refine wpAny_holding ?_
  first | refine wpAny_bind (wpAny_pure ?_) | skip
  refine wpAny_bind (wpAny_sequenceKey ht.typeIs (by decide) ?_)
  refine wpAny_bind (wpAny_callSpecial?_slot (name := Str.ofString "__getitem__") ht.typeIs PyProof.Rows.slot_tuple_getitem
    (wpAny_call_entry PyProof.Rows.slot_tuple_getitem ht.typeIs entry_tuple_getitem ?_ (args_tuple_getitem _ _)))
  show wpAny _ _ (Builtin.Tuple.tupleItemsOf (.ref t) >>= _) _ _ s
  refine wpAny_bind (tupleItemsOf_ ht ?_)
  refine wpAny_bind (wpAny_typeOf hTs ?_)
  rw [if_pos (by decide)]
  refine wpAny_bind (sliceApplied_back hs ?_)
  have hno : ¬ ((((items.size : Nat) : Int) - 1 == 0 && (-1 : Int) == 1 && items.size == items.size) = true) := by
    intro q
    rw [Bool.and_eq_true, Bool.and_eq_true] at q
    exact absurd q.1.2 (by decide)
  show wpAny _ _ (if (((items.size : Nat) : Int) - 1 == 0 && (-1 : Int) == 1 && items.size == items.size) = true then _ else _) _ _ s
  rw [if_neg hno, pick_back]
  first
    | exact wpAny_bind (m := Builtin.Tuple.tupleExact _) (wpAny_newObj_type (wpAny_pure ⟨_, rfl, wpAny_pure h⟩) htake)
    | exact wpAny_bind (m := Builtin.Tuple.tupleExact _) (wpAny_newObj_type (wpAny_bind (wpAny_pure (wpAny_pure ⟨_, rfl, wpAny_pure h⟩))) htake)
    | exact wpAny_bind (wpAny_bind (m := Builtin.Tuple.tupleExact _) (wpAny_newObj_type (wpAny_pure (wpAny_pure ⟨_, rfl, wpAny_pure h⟩)) htake))
    | exact wpAny_bind (wpAny_bind (m := Builtin.Tuple.tupleExact _) (wpAny_newObj_type (wpAny_pure ⟨_, rfl, wpAny_pure h⟩) htake))
end
section
variable {X : Cx}
def rSlTS (K : PySem.W.Frag) : V → Option Int → Option Int → Int → Hp → VK → Prop := fun x lo hi st H Q => ∃ a xs, x = .ref a ∧ SqT K H a xs ∧ lo = none ∧ hi = none ∧ st = -1 ∧ ∀ p, H p = none → Q (.ref p) (upd H p (.tup xs.reverse))
theorem sl_tupS : SlRS X (rSlTS X.K) := by
  intro pins s σ H x v vl vu vs lo hi st sl Q I rx hs pl pu pk h
  obtain ⟨a, xs, rfl, hx, rfl, rfl, rfl, q⟩ := h
  cases rx
  cases pl
  cases pu
  cases pk
  obtain ⟨its, r, ht, hz⟩ := I.tuple hx
  have hlen : its.toArray.size = xs.length := by rw [List.size_toArray]; exact r.length.symm
  refine ⟨"tuple", _, PyProof.Rows.slot_tuple_getitem.lookup, ht.typeIs, ?_⟩
  refine getItem_tuple_back ht hs ?_ (by rw [hlen]; exact hz)
  refine ⟨.ref s.heap.objs.size, _, I.laid (t' := s.toks) (o := .tup xs.reverse) (fun b ob q => Heap.get?_push_of_some _ q) (Nat.le_refl _) ?_, rfl, q _ (I.hok.fresh (Nat.le_refl _))⟩
  refine ⟨by rw [List.length_reverse]; exact hz, its.reverse, ?_, ?_⟩
  · have hv := vals_pick r ((List.range xs.length).map fun i => xs.length - 1 - i)
    rw [filterMap_rev] at hv
    rw [r.length] at hv
    rw [filterMap_rev] at hv
    exact hv
  · simpa using IsTup.new s.heap its.reverse.toArray
theorem slTS (K : PySem.W.Frag) (h : X.K = K := by rfl) : SlRS X (rSlTS K) := by subst h; exact sl_tupS
def rExtendT (K : PySem.W.Frag) : V → List V → Hp → VK → Prop := fun x vs H Q => ∃ l b xs zs, x = .ref l ∧ vs = [.ref b] ∧ H l = some (.lst xs) ∧ H b = some (.tup zs) ∧ xs.length + zs.length ≤ sizeLine ∧ Q .non (upd H l (.lst (xs ++ zs)))
theorem listItems_at {prog : Program} {w : World} {A : Around} {E : Value → Shared → Prop} {s : Shared} {a : Addr} {o : Obj} {xs : Array Value} {n : Nat} {Q : Array Value → Shared → Prop} (ho : s.heap.get? a = some o) (hd : o.data = .seq xs n) (h : Q xs s) : wpAny (model prog w) A (Builtin.List.listItems (.ref a)) Q E s := by
  unfold Builtin.List.listItems
  exact wpAny_bind (wpAny_seqItems ho hd (wpAny_pure h))
theorem mt_extendT : MtM X "list.extend" (rExtendT X.K) := by
  intro pins s σ H x vs v us Q I rx rv h
  obtain ⟨l, b, xs, zs, rfl, rfl, hH, hB, hz, q⟩ := h
  cases rx
  obtain ⟨u, rfl, ru⟩ := rv.one
  cases ru
  obtain ⟨z, its, n, r, hl, e⟩ := I.lstM hH
  obtain ⟨its2, r2, ht2, hz2⟩ := I.tuple (SqT.of hB)
  have hl2 := r2.length
  have hsz : its.toArray.size + its2.toArray.size ≤ sizeLine := by rw [List.size_toArray, List.size_toArray]; omega
  have hlong : ¬ (!its.toArray.isEmpty && Builtin.List.listTooLong (its.toArray.size + its2.toArray.size)) = true := by
    rw [notLongL hsz, Bool.and_false]
    exact Bool.false_ne_true
  refine wpAny_call_entry F.slot_list_extend ⟨_, e, rfl⟩ F.entry_list_extend ?_ (F.args_list_extend_2 _ _)
  show wpAny _ _ (Builtin.List.listExtendWith (.ref l) (.ref b) .none) _ _ s
  unfold Builtin.List.listExtendWith
  refine wpAny_bind (wpAny_typeOf ht2.typeIs ?_)
  rw [if_pos (by simp)]
  obtain ⟨o2, ho2, hc2, n2, hd2⟩ := id ht2
  refine wpAny_bind (listItems_at ho2 hd2 (wpAny_bind (listItems_at e rfl ?_)))
  rw [if_neg hlong]
  refine wpAny_bind (wpAny_updateSeq e rfl ?_ ?_ ?_)
  · exact wpAny_pure ⟨_, rfl, .non, _, I.lset (its' := its ++ its2) hH e (by simp) (r.append r2) (by rw [List.length_append]; omega), rfl, q⟩
  · omega
  · show (its.toArray ++ its2.toArray).size ≤ _
    rw [Array.size_append]; omega
theorem extT (K : PySem.W.Frag) (h : X.K = K := by rfl) : MtM X "list.extend" (rExtendT K) := by subst h; exact mt_extendT
def gSlice (to : TE) (tl th : TO) : TG := fun v σ H Q => to σ H fun o H1 => tl σ H1 fun l H2 => th σ H2 fun u H3 => ∃ (p b : Addr) (xs ys : List V) (a c : Int), o = .ref p ∧ v = .ref b ∧ l = some a ∧ u = some c ∧ H3 p = some (.lst xs) ∧ H3 b = some (.lst ys) ∧ p ≠ b ∧ 0 ≤ a ∧ a ≤ c ∧ c ≤ xs.length ∧ xs.length + ys.length ≤ sizeLine ∧
  Q σ (upd H3 p (.lst (xs.take a.toNat ++ ys ++ xs.drop c.toNat)))
def rSumB (K : PySem.W.Frag) : List V → Hp → VK → Prop := fun vs H Q => ∃ (p : Addr) (ns : List Int), vs = [.ref p] ∧ SqL K H p (ns.map V.int) ∧ ns.length ≤ 1000 ∧ (∀ n ∈ ns, 0 ≤ n ∧ n ≤ 10000000000) ∧ Q (.int ns.sum) H
theorem pre_sumB (ns : List Int) : ∀ n, n ≤ ns.length → preSum (fun j => ns.getD j 0) n = (ns.take n).sum
  | 0, _ => rfl
  | n + 1, h => by
    have ih := pre_sumB ns n (by omega)
    have e : ns.take (n + 1) = ns.take n ++ [ns.getD n 0] := by
      rw [List.take_add_one, List.getElem?_eq_getElem (by omega), List.getD_eq_getElem?_getD, List.getElem?_eq_getElem (by omega)]
      rfl
    rw [e, List.sum_append, ← ih]
    simp [preSum]
end
end L2
set_option Elab.async false
set_option linter.all false
set_option maxRecDepth 100000
namespace L2
open PySem PySem.Spec PyProof.Rows
section
variable {prog : Program} {w : World} {A : Around} {E : Value → Shared → Prop} {s : Shared} {κ : PyProof.Rows.KeyKind} {k0 : SortKind} {a₀ : Array Keyed} {st : SortSt}
def LtAt (prog : Program) (w : World) (A : Around) (s : Shared) (k0 : SortKind) (κ : PyProof.Rows.KeyKind) : Prop :=
  ∀ (E : Value → Shared → Prop) (x y : Value) (a b : κ.α) (Q : Bool → Shared → Prop), κ.keyOf x = some a → κ.keyOf y = some b → Q (κ.blt a b) s → wpAny (model prog w) A (keyLt' k0 x y) Q E s
structure SB (k0 : SortKind) (a₀ : Array Keyed) (st : SortSt) : Prop where
  perm : (arrOf st).Perm a₀
  kind : kindOf st = k0
  failed : failedOf st = none
  pend : pendingOf st = #[]
theorem arr_set (st : SortSt) (xs : Array Keyed) : arrOf (setArr st xs) = xs := rfl
end
end L2
set_option Elab.async false
set_option linter.all false
set_option maxRecDepth 100000
namespace L2
open PySem PySem.Spec PyProof.Rows
section
variable {prog : Program} {w : World} {A : Around} {E : Value → Shared → Prop} {s : Shared} {κ : PyProof.Rows.KeyKind}
end
end L2
set_option Elab.async false
set_option linter.all false
set_option maxRecDepth 100000
namespace L2
open PySem PySem.Spec PyProof.Rows
def kLt : Key → Key → Bool
  | .inl i, .inl j => decide (i < j)
  | .inr x, .inr y => decide (x.cps.toList < y.cps.toList)
  | .inl _, .inr _ => true
  | .inr _, .inl _ => false
theorem kLt_irrefl : ∀ a : Key, kLt a a = false
  | .inl i => decide_eq_false (by omega)
  | .inr x => decide_eq_false (List.lt_irrefl _)
theorem kLt_trans : ∀ a b c : Key, kLt a b = true → kLt b c = true → kLt a c = true
  | .inl i, .inl j, .inl k, h1, h2 => by have := of_decide_eq_true h1; have := of_decide_eq_true h2; exact decide_eq_true (by omega)
  | .inr x, .inr y, .inr z, h1, h2 => decide_eq_true (List.lt_trans (of_decide_eq_true h1) (of_decide_eq_true h2))
  | .inl _, .inl _, .inr _, _, _ => rfl
  | .inl _, .inr _, .inr _, _, _ => rfl
  | .inl _, .inr _, .inl _, _, h => by cases h
  | .inr _, .inl _, _, h, _ => by cases h
  | .inr _, .inr _, .inl _, _, h => by cases h
theorem kLt_total : ∀ a b : Key, kLt a b = false → kLt b a = false → a = b
  | .inl i, .inl j, h1, h2 => by have := of_decide_eq_false h1; have := of_decide_eq_false h2; congr 1; omega
  | .inr x, .inr y, h1, h2 => by
    have a1 : ¬ x.cps.toList < y.cps.toList := of_decide_eq_false h1
    have a2 : ¬ y.cps.toList < x.cps.toList := of_decide_eq_false h2
    have e : x.cps.toList = y.cps.toList := List.le_antisymm a2 a1
    obtain ⟨xs⟩ := x
    obtain ⟨ys⟩ := y
    congr 2
    exact Array.toList_inj.mp e
  | .inl _, .inr _, h, _ => by cases h
  | .inr _, .inl _, _, h => by cases h
def lexB : List Key → List Key → Bool
  | [], [] => false
  | [], _ :: _ => true
  | _ :: _, [] => false
  | x :: xs, y :: ys => if x = y then lexB xs ys else kLt x y
theorem lexB_cons (x y : Key) (xs ys : List Key) : lexB (x :: xs) (y :: ys) = if x = y then lexB xs ys else kLt x y := rfl
theorem lexB_irrefl : ∀ a : List Key, lexB a a = false
  | [] => rfl
  | x :: r => by unfold lexB; rw [if_pos rfl]; exact lexB_irrefl r
theorem lexB_trans : ∀ a b c : List Key, lexB a b = true → lexB b c = true → lexB a c = true
  | [], [], _, h, _ => by cases h
  | [], _ :: _, [], _, h => by cases h
  | [], _ :: _, _ :: _, _, _ => rfl
  | _ :: _, [], _, h, _ => by cases h
  | _ :: _, _ :: _, [], _, h => by cases h
  | x :: r, y :: s, z :: t, h1, h2 => by
    have ih := lexB_trans r s t
    unfold lexB at h1 h2 ⊢
    by_cases e1 : x = y
    · rw [if_pos e1] at h1
      by_cases e2 : y = z
      · rw [if_pos e2] at h2
        rw [if_pos (e1.trans e2)]
        exact ih h1 h2
      · rw [if_neg e2] at h2
        rw [if_neg (fun e => e2 (e1.symm.trans e)), e1]
        exact h2
    · rw [if_neg e1] at h1
      by_cases e2 : y = z
      · rw [if_neg (fun e => e1 (e.trans e2.symm)), ← e2]
        exact h1
      · rw [if_neg e2] at h2
        have h3 := kLt_trans _ _ _ h1 h2
        rw [if_neg (fun e => by rw [e, kLt_irrefl] at h3; cases h3)]
        exact h3
theorem lexB_total : ∀ a b : List Key, lexB a b = false → lexB b a = false → a = b
  | [], [], _, _ => rfl
  | [], _ :: _, h, _ => by cases h
  | _ :: _, [], _, h => by cases h
  | x :: r, y :: s, h1, h2 => by
    unfold lexB at h1 h2
    by_cases e : x = y
    · rw [if_pos e] at h1
      rw [if_pos e.symm] at h2
      rw [e, lexB_total r s h1 h2]
    · rw [if_neg e] at h1
      rw [if_neg fun z => e z.symm] at h2
      exact absurd (kLt_total _ _ h1 h2) e
theorem lexB_neg (a b c : List Key) (h : lexB a c = true) : lexB a b = true ∨ lexB b c = true := by
  by_cases h1 : lexB a b = true
  · exact .inl h1
  · by_cases h2 : lexB b a = true
    · exact .inr (lexB_trans _ _ _ h2 h)
    · have e := lexB_total a b (by simpa using h1) (by simpa using h2)
      rw [← e]; exact .inr h
def unV : V → Option Key
  | .int i => some (.inl i)
  | .str x => some (.inr x)
  | _ => none
def keysV : List V → Option (List Key)
  | [] => some []
  | x :: r => (unV x).bind fun k => (keysV r).map (k :: ·)
def shape (ks : List Key) : List Bool := ks.map fun k => k.isLeft
def tupOf (H : Hp) (sh : List Bool) : Value → Option (List Key)
  | .ref a => match H a with
    | some (.tup xs) => (keysV xs).bind fun ks => if shape ks = sh then some ks else none
    | _ => none
  | _ => none
def tupKind (H : Hp) (sh : List Bool) : PyProof.Rows.KeyKind := ⟨⟨List Key, lexB, lexB_irrefl, lexB_trans, fun a b c h => lexB_neg a b c h, lexB_total⟩, tupOf H sh, []⟩
section
variable {prog : Program} {w : World} {A : Around} {E : Value → Shared → Prop} {s : Shared}
end
end L2
set_option Elab.async false
set_option linter.all false
set_option maxRecDepth 100000
namespace L2
open PySem PySem.Spec PyProof.Rows
section
variable {prog : Program} {w : World} {A : Around} {E : Value → Shared → Prop} {s : Shared}
end
end L2
set_option Elab.async false
set_option linter.all false
set_option maxRecDepth 100000
namespace L2
open PySem PySem.Spec PyProof.Rows
abbrev TupL := List (Addr × List Key)
def refs (ts : TupL) : List V := ts.map fun t => V.ref t.1
def AtT (H : Hp) (ts : TupL) : Prop := ∀ t ∈ ts, H t.1 = some (.tup (t.2.map kV))
theorem vals_refs : ∀ {ts : TupL} {us : List Value}, Vals (refs ts) us → us = ts.map fun t => Value.ref t.1
  | [], _, h => by cases h; rfl
  | t :: r, _, h => by
    cases h with
    | cons a b => rw [vals_refs b]; cases a; rfl
def rSrtT (K : PySem.W.Frag) : List V → Hp → VK → Prop := fun xs H Q => ∃ (p : Addr) (ts : TupL) (sh : List Bool), xs = [.ref p] ∧ SqL K H p (refs ts) ∧ AtT H ts ∧ sh ≠ [] ∧ (∀ t ∈ ts, shape t.2 = sh) ∧ ts.length < 64 ∧
  ∀ (l : Addr) (ts' : TupL), H l = none → ts'.Perm ts → ts'.Pairwise (fun a b => lexB b.2 a.2 = false) → Q (.ref l) (upd H l (.lst (refs ts')))
end L2
set_option Elab.async false
set_option linter.all false
set_option maxRecDepth 100000
namespace L2
open PySem PySem.Spec PyProof.Rows
theorem eqAt_key (A : Around) (s : Shared) {k m : Key} {p q : Value} (hp : RelV (kV k) p) (hq : RelV (kV m) q) (hs : k.isLeft = m.isLeft) : ∃ e, SeqAt.EqAt A s p q e ∧ (e = true ↔ k = m) := by
  cases k with
  | inl i =>
    cases m with
    | inl j =>
      obtain ⟨t, rfl⟩ := hp
      obtain ⟨u, rfl⟩ := hq
      exact ⟨_, SeqAt.EqAt.int_int i t j u, by simp⟩
    | inr y => cases hs
  | inr x =>
    cases m with
    | inl j => cases hs
    | inr y =>
      obtain ⟨t, rfl⟩ := hp
      obtain ⟨u, rfl⟩ := hq
      exact ⟨_, SeqAt.EqAt.str_str x t y u, by simp⟩
theorem rcLt_key (A : Around) (s : Shared) {k m : Key} {p q : Value} (hp : RelV (kV k) p) (hq : RelV (kV m) q) (hs : k.isLeft = m.isLeft) (prog : Program) (w : World) (E : Value → Shared → Prop) (Q : Value → Shared → Prop) (h : Q (.bool (kLt k m)) s) :
    wpAny (model prog w) A (richCompare .Lt p q) Q E s := by
  cases k with
  | inl i =>
    cases m with
    | inl j =>
      obtain ⟨t, rfl⟩ := hp
      obtain ⟨u, rfl⟩ := hq
      exact (PyProof.Rows.lt_int h : wpAny (model prog w) A (compareOp .Lt (.int i t) (.int j u)) Q E s)
    | inr y => cases hs
  | inr x =>
    cases m with
    | inl j => cases hs
    | inr y =>
      obtain ⟨t, rfl⟩ := hp
      obtain ⟨u, rfl⟩ := hq
      exact (PyProof.Rows.lt_str h : wpAny (model prog w) A (compareOp .Lt (.str x t) (.str y u)) Q E s)
section
open PySem.SeqAt
open PySem.AutoSeq1 (wpAny_loadPart')
open PySem.MeetsSeq PySem.MeetsSeq2 PySem.MeetsSeq3
theorem tuple_lt_keys (l b : Addr) (items items2 : Array Value) (n n2 : Nat) (dd dd2 : Option Addr) (sl sl2 : Array (Option Value)) (ks ms : List Key) (hi : Vals (ks.map kV) items.toList) (hj : Vals (ms.map kV) items2.toList) (hs : shape ks = shape ms) :
    Meets (Builtin.«tuple.__lt__» ⟨[.ref l, .ref b], []⟩)
      (fun _ R s => s.heap.get? l = some { cls := .type "tuple", dict := dd, data := .seq items n, slots := sl } ∧ s.heap.get? b = some { cls := .type "tuple", dict := dd2, data := .seq items2 n2, slots := sl2 } ∧
        R (.ok (.ret (.bool (lexB ks ms)))) s) :=
  .of_wp fun prog w A R s h => by
    obtain ⟨hp, g, d, tk, os⟩ := s; obtain ⟨hl, hb, h⟩ := h
    have f2 := AutoSeq1.sub_tuple_tuple
    have z1 : items.size = ks.length := by have := hi.length; simpa using this.symm
    have z2 : items2.size = ms.length := by have := hj.length; simpa using this.symm
    have z3 : ks.length = ms.length := by have := congrArg List.length hs; simpa [shape] using this
    wp_walk using wpAny_loadPart' hl, wpAny_loadPart' hb, wpAny_forIn_list _ (fun rest b s' => b.1 = none ∧ s' = ⟨hp, g, d, tk, os⟩ ∧ ∃ (vs ws : List Value) (ks' ms' : List Key), rest = vs.zip ws ∧
      Vals (ks'.map kV) vs ∧ Vals (ms'.map kV) ws ∧ shape ks' = shape ms' ∧ R (.ok (.ret (.bool (lexB ks' ms')))) ⟨hp, g, d, tk, os⟩) _
    case turn =>
      rintro ⟨y, x⟩ rest b s' ⟨hb', rfl, vs, ws, ks', ms', hz, hvi, hwi, hsh, hR⟩
      cases ks' with
      | nil => cases hvi; rw [List.zip_nil_left] at hz; cases hz
      | cons k1 kr =>
        cases ms' with
        | nil => cases hsh
        | cons m1 mr =>
          cases hvi with
          | cons r1 rr =>
            cases hwi with
            | cons r1' rr' =>
              rw [List.zip_cons_cons] at hz
              injection hz with hyx hrest
              injection hyx with hy hx
              subst hy hx
              rw [lexB_cons] at hR
              unfold shape at hsh
              rw [List.map_cons, List.map_cons] at hsh
              injection hsh with s1 s2
              obtain ⟨e, he, hiff⟩ := eqAt_key A.in1 ⟨hp, g, d, tk, os⟩ r1 r1' s1
              refine wpAny_bind (he prog w _ _ ?_)
              cases e with
              | true =>
                rw [if_pos (hiff.mp rfl)] at hR
                wp_walk
                exact ⟨rfl, rfl, _, _, _, _, hrest, rr, rr', s2, hR⟩
              | false =>
                rw [if_neg (fun q => absurd (hiff.mpr q) Bool.false_ne_true)] at hR
                have hri := rcLt_key A.in1 ⟨hp, g, d, tk, os⟩ r1 r1' s1 prog w
                wp_walk using hri
                exact ⟨_, rfl, by simpa using hR⟩
    case fin =>
      rintro ⟨b1, b2⟩ s' ⟨hb', rfl, vs, ws, ks', ms', hz, hvi, hwi, hsh, hR⟩
      simp only at hb'
      subst hb'
      have hv : lexB ks' ms' = decide (items.size < items2.size) := by
        rw [decide_eq_false (by omega)]
        cases ks' with
        | nil =>
          cases ms' with
          | nil => rfl
          | cons _ _ => cases hsh
        | cons k1 kr =>
          cases ms' with
          | nil => cases hsh
          | cons m1 mr =>
            cases hvi with
            | cons r1 rr =>
              cases hwi with
              | cons r1' rr' => rw [List.zip_cons_cons] at hz; cases hz
      rw [hv] at hR
      wp_walk
      exact ⟨_, rfl, by simpa [Builtin.Tuple.tupleCompareSizes] using hR⟩
    case h =>
      exact ⟨rfl, rfl, items.toList, items2.toList, ks, ms, rfl, hi, hj, hs, h⟩
end
section
variable {prog : Program} {w : World} {A : Around} {E : Value → Shared → Prop} {s : Shared}
theorem lt_tupKeys {l b : Addr} {items items2 : Array Value} {ks ms : List Key} {Q : Value → Shared → Prop} (hl : IsTup s.heap l items) (hb : IsTup s.heap b items2) (hi : Vals (ks.map kV) items.toList) (hj : Vals (ms.map kV) items2.toList) (hs : shape ks = shape ms)
    (hu : A.units < cLine) (h : Q (.bool (lexB ks ms)) s) : wpAny (model prog w) A (richCompare .Lt (.ref l) (.ref b)) Q E s := by
  obtain ⟨⟨cls, dd, data, sl⟩, ho, hc, n, hd⟩ := id hl
  obtain ⟨⟨cls2, dd2, data2, sl2⟩, ho2, hc2, n2, hd2⟩ := id hb
  simp only at hc hd hc2 hd2
  subst hc hd hc2 hd2
  exact richCompare_meets_room (op := .Lt) ⟨_, ho, rfl⟩ ⟨_, ho2, rfl⟩ PySem.F.slot_tuple_lt PySem.F.entry_tuple_lt (PySem.F.args_tuple_lt_2 _ _) (tuple_lt_keys l b items items2 n n2 dd dd2 sl sl2 ks ms hi hj hs)
    ⟨ho, ho2, show Value.bool (lexB ks ms) ≠ Value.notImplemented ∧ Q (.bool (lexB ks ms)) s from ⟨(fun x => nomatch x), h⟩⟩ hu
end
end L2
set_option Elab.async false
set_option linter.all false
set_option maxRecDepth 100000
namespace L2
open PySem PySem.Spec PyProof.Rows
section
variable {prog : Program} {w : World}
theorem min_units {A : Around} {a : Args} : (A.under (.builtin "min.loop" a)).units ≤ A.units + 1 := by
  show A.units + (Code.builtin "min.loop" a).cUnits ≤ A.units + 1
  first | exact Nat.le_refl _ | simp [Code.cUnits, Code.frames, Code.isFrame]
theorem min_loop {A : Around} {R : Result → Shared → Prop} {l I S : Addr} {ts : TupL} {sh : List Bool} {h0 : Heap} {kw : List (Str × Value)} (hh : A.handled = none) (hu : A.units + 4 < cLine) (hlist : h0.IsList l (ts.map fun t => Value.ref t.1).toArray)
    (hI : h0.get? I = none) (hS : h0.get? S = none) (hSI : S ≠ I) (htup : ∀ t ∈ ts, ∃ its : List Value, Vals (t.2.map kV) its ∧ IsTup h0 t.1 its.toArray) (hsh : ∀ t ∈ ts, shape t.2 = sh) (s0 : Shared)
    (q : ∀ (h' : Heap) (t : Addr × List Key), (∀ b o, h0.get? b = some o → h'.get? b = some o) → t ∈ ts → (∀ u ∈ ts, lexB u.2 t.2 = false) → R (.ok (.ret (.ref t.1))) { s0 with heap := h' }) :
    ∀ (k j : Nat) (h : Heap) (t : Addr × List Key) (c : Nat), ts.length - j = k → j ≤ ts.length → (∀ b o, h0.get? b = some o → h.get? b = some o) → h.IsListIter I l j → h.get? S = some { cls := .type "list", data := .seq #[.ref t.1, .ref t.1] c } → t ∈ ts →
      (∀ u ∈ ts.take j, lexB u.2 t.2 = false) → codeAny (model prog w) A (.builtin "min.loop" { pos := [.ref I, .none, .ref S], kw := kw }) R { s0 with heap := h }
  | k, j, h, t, c, hk, hj, keep, hit, hst, htm, hbest => by
    refine codeAny_builtin F.entry_min_loop ?_
    show wpAny _ _ (seqItems? (.ref S) >>= _) _ _ _
    refine wpAny_bind (wpAny_seqItems hst rfl ?_)
    have keepL : h.IsList l (ts.map fun t => Value.ref t.1).toArray := by
      obtain ⟨o, ho, r⟩ := hlist
      exact ⟨o, keep _ _ ho, r⟩
    by_cases hlt : j < ts.length
    · have hx : ((ts.map fun t => Value.ref t.1).toArray)[j]? = some (Value.ref ts[j].1) := by simp [hlt]
      refine wpAny_bind (wpAny_tryCatch (wpAny_pyNext_list_item hit keepL hx fun h1 hit1 sb => ?_))
      have keep1 : ∀ b o, h0.get? b = some o → h1.get? b = some o := fun b o hb => by
        have nb : b ≠ I := fun e => by rw [e, hI] at hb; cases hb
        rw [sb.2 b nb]; exact keep b o hb
      have hst1 : h1.get? S = some { cls := .type "list", data := .seq #[.ref t.1, .ref t.1] c } := by rw [sb.2 S hSI]; exact hst
      refine wpAny_bind (wpAny_pure ?_)
      have hjm : ts[j] ∈ ts := List.getElem_mem hlt
      obtain ⟨i1, v1, t1⟩ := htup _ hjm
      obtain ⟨i2, v2, t2⟩ := htup _ htm
      have tup1 : ∀ {a : Addr} {its : List Value}, IsTup h0 a its.toArray → IsTup h1 a its.toArray := fun ⟨o, ho, hc⟩ => ⟨o, keep1 _ _ ho, hc⟩
      have hsh1 : shape ts[j].2 = shape t.2 := (hsh _ hjm).trans (hsh _ htm).symm
      refine wpAny_bind (wpAny_tryCatch (wpAny_holding (wpAny_bind (lt_tupKeys (tup1 t1) (tup1 t2) (by simpa using v1) (by simpa using v2) hsh1 (Nat.lt_of_le_of_lt min_units (by omega)) (wpAny_bind (wpAny_holding (wpAny_truthy_bool (wpAny_bind (wpAny_letGo (wpAny_pure ?_))))))))))
      cases hb : lexB ts[j].2 t.2 with
      | true =>
        refine wpAny_bind (wpAny_updateSeq hst1 rfl ?_ (by show 2 ≤ _; rw [sizeLine_eq]; decide) (by show 2 ≤ _; rw [sizeLine_eq]; decide))
        refine wpAny_bind (wpAny_letGo (wpAny_pure ⟨rfl, ?_⟩))
        refine min_loop hh hu hlist hI hS hSI htup hsh s0 q (k - 1) (j + 1) _ ts[j] c (by omega) (by omega) (fun b o hb' => ?_) ?_ ?_ hjm (fun u hu' => ?_)
        · have nb : S ≠ b := fun e => by rw [← e, hS] at hb'; cases hb'
          exact Heap.get?_update_of_ne _ nb (keep1 b o hb')
        · obtain ⟨o, ho, r⟩ := hit1
          exact ⟨o, Heap.get?_update_of_ne _ hSI ho, r⟩
        · have := get?_update_seq (c := "list") hst1 (fun _ => #[.ref ts[j].1, .ref ts[j].1])
          simpa using this
        · rw [List.take_add_one, List.getElem?_eq_getElem hlt] at hu'
          rcases List.mem_append.mp hu' with hu' | hu'
          · have := hbest u hu'
            cases hz : lexB u.2 ts[j].2 with
            | false => rfl
            | true => rw [lexB_trans _ _ _ hz hb] at this; cases this
          · have : u = ts[j] := by simpa using hu'
            rw [this]; exact lexB_irrefl _
      | false =>
        refine wpAny_bind (wpAny_letGo (wpAny_pure ⟨rfl, ?_⟩))
        refine min_loop hh hu hlist hI hS hSI htup hsh s0 q (k - 1) (j + 1) h1 t c (by omega) (by omega) keep1 hit1 hst1 htm (fun u hu' => ?_)
        rw [List.take_add_one, List.getElem?_eq_getElem hlt] at hu'
        rcases List.mem_append.mp hu' with hu' | hu'
        · exact hbest u hu'
        · have : u = ts[j] := by simpa using hu'
          rw [this]; exact hb
    · have hx : ((ts.map fun t => Value.ref t.1).toArray)[j]? = none := by simp; omega
      refine wpAny_bind (wpAny_tryCatch (wpAny_pyNext_list_end hh hit keepL hx fun h1 eb => ?_))
      have hst1 : h1.get? S = some { cls := .type "list", data := .seq #[.ref t.1, .ref t.1] c } := eb S _ hSI hst
      refine wpAny_bind (wpAny_updateSeq hst1 rfl ?_ (by show 2 ≤ _; rw [sizeLine_eq]; decide) (by show 0 ≤ _; omega))
      refine wpAny_bind (wpAny_letGo (wpAny_pure ?_))
      refine q _ t (fun b o hb => ?_) htm (fun u hu' => hbest u (by rw [List.take_of_length_le (by omega)]; exact hu'))
      have nb : S ≠ b := fun e => by rw [← e, hS] at hb; cases hb
      have nI : b ≠ I := fun e => by rw [e, hI] at hb; cases hb
      exact Heap.get?_update_of_ne _ nb (eb b o nI (keep b o hb))
termination_by k => k
theorem min_first {A : Around} {R : Result → Shared → Prop} {l I S : Addr} {ts : TupL} {sh : List Bool} {h0 h : Heap} {c : Nat} {kw : List (Str × Value)} (hh : A.handled = none) (hu : A.units + 4 < cLine) (hlist : h0.IsList l (ts.map fun t => Value.ref t.1).toArray)
    (hI : h0.get? I = none) (hS : h0.get? S = none) (hSI : S ≠ I) (htup : ∀ t ∈ ts, ∃ its : List Value, Vals (t.2.map kV) its ∧ IsTup h0 t.1 its.toArray) (hsh : ∀ t ∈ ts, shape t.2 = sh) (s0 : Shared) (keep : ∀ b o, h0.get? b = some o → h.get? b = some o) (hit : h.IsListIter I l 0) (hst : h.get? S = some { cls := .type "list", data := .seq #[] c })
    (hne : ts ≠ [] ∨ ∃ n d kr, kw = (n, d) :: kr ∧ ∀ h' : Heap, (∀ b o, h0.get? b = some o → h'.get? b = some o) → R (.ok (.ret d)) { s0 with heap := h' })
    (q : ∀ (h' : Heap) (t : Addr × List Key), (∀ b o, h0.get? b = some o → h'.get? b = some o) → t ∈ ts → (∀ u ∈ ts, lexB u.2 t.2 = false) → R (.ok (.ret (.ref t.1))) { s0 with heap := h' }) :
    codeAny (model prog w) A (.builtin "min.loop" { pos := [.ref I, .none, .ref S], kw := kw }) R { s0 with heap := h } := by
  refine codeAny_builtin F.entry_min_loop ?_
  show wpAny _ _ (seqItems? (.ref S) >>= _) _ _ _
  refine wpAny_bind (wpAny_seqItems hst rfl ?_)
  have keepL : h.IsList l (ts.map fun t => Value.ref t.1).toArray := by
    obtain ⟨o, ho, r⟩ := hlist
    exact ⟨o, keep _ _ ho, r⟩
  cases ts with
  | nil =>
    obtain ⟨n, d, kr, rfl, q0⟩ := hne.resolve_left (by simp)
    refine wpAny_bind (wpAny_tryCatch (wpAny_pyNext_list_end hh hit keepL (by simp) fun h1 eb => ?_))
    show wpAny _ _ (rule _ >>= _) _ _ _
    refine wpAny_bind (wpAny_rule (wpAny_pure ?_))
    refine q0 _ fun b o hb => ?_
    have nI : b ≠ I := fun e => by rw [e, hI] at hb; cases hb
    exact eb b o nI (keep b o hb)
  | cons t r =>
    refine wpAny_bind (wpAny_tryCatch (wpAny_pyNext_list_item hit keepL (x := .ref t.1) (by simp) fun h1 hit1 sb => ?_))
    have keep1 : ∀ b o, h0.get? b = some o → h1.get? b = some o := fun b o hb => by
      have nb : b ≠ I := fun e => by rw [e, hI] at hb; cases hb
      rw [sb.2 b nb]; exact keep b o hb
    have hst1 : h1.get? S = some { cls := .type "list", data := .seq #[] c } := by rw [sb.2 S hSI]; exact hst
    refine wpAny_bind (wpAny_pure ?_)
    show wpAny _ _ (updateSeq S _ >>= _) _ _ _
    refine wpAny_bind (wpAny_updateSeq hst1 rfl ?_ (by show 0 ≤ _; omega) (by show 2 ≤ _; rw [sizeLine_eq]; decide))
    refine wpAny_pure ⟨rfl, ?_⟩
    refine min_loop hh hu hlist hI hS hSI htup hsh s0 q _ 1 _ t (c + 1) rfl (by simp) (fun b o hb' => ?_) ?_ ?_ (by simp) (fun u hu' => ?_)
    · have nb : S ≠ b := fun e => by rw [← e, hS] at hb'; cases hb'
      exact Heap.get?_update_of_ne _ nb (keep1 b o hb')
    · obtain ⟨o, ho, r⟩ := hit1
      exact ⟨o, Heap.get?_update_of_ne _ hSI ho, r⟩
    · have := get?_update_seq (c := "list") hst1 (fun _ => #[.ref t.1, .ref t.1])
      simpa using this
    · have : u = t := by simpa using hu'
      rw [this]; exact lexB_irrefl _
end
end L2
set_option Elab.async false
set_option linter.all false
set_option maxRecDepth 100000
namespace L2
open PySem PySem.Spec PyProof.Rows
section
variable {X : Cx}
def rMinT (K : PySem.W.Frag) : List V → Hp → VK → Prop := fun vs H Q => ∃ (p : Addr) (ts : TupL) (sh : List Bool), vs = [.ref p] ∧ SqL K H p (refs ts) ∧ AtT H ts ∧ ts ≠ [] ∧ (∀ t ∈ ts, shape t.2 = sh) ∧
  ∀ t : Addr × List Key, t ∈ ts → (∀ u ∈ ts, lexB u.2 t.2 = false) → Q (.ref t.1) H
theorem min_call {prog : Program} {w : World} {A : Around} {R : Result → Shared → Prop} {s : Shared} {l : Addr} {ts : TupL} {sh : List Bool} {kw : List (Str × Value)} {kw2 : List (Str × Value)} (hh : A.handled = none) (hu : A.units + 4 < cLine) (hlist : s.heap.IsList l (ts.map fun t => Value.ref t.1).toArray)
    (hkw : (kw = [] ∧ kw2 = []) ∨ ∃ d, kw = [(Str.ofString "default", d)] ∧ kw2 = [(Str.ofString "default", d)])
    (htup : ∀ t ∈ ts, ∃ its : List Value, Vals (t.2.map kV) its ∧ IsTup s.heap t.1 its.toArray) (hsh : ∀ t ∈ ts, shape t.2 = sh)
    (hne : ts ≠ [] ∨ ∃ n d kr, kw2 = (n, d) :: kr ∧ ∀ h' : Heap, (∀ b o, s.heap.get? b = some o → h'.get? b = some o) → R (.ok (.ret d)) { s with heap := h' })
    (q : ∀ (h' : Heap) (t : Addr × List Key), (∀ b o, s.heap.get? b = some o → h'.get? b = some o) → t ∈ ts → (∀ u ∈ ts, lexB u.2 t.2 = false) → R (.ok (.ret (.ref t.1))) { s with heap := h' }) :
    codeAny (model prog w) A (.call (.builtin "min") { pos := [.ref l], kw := kw }) R s := by
  refine codeAny_call_builtin_at rfl F.entry_min ?_
  have hc : checkBuiltinCall "min" { pos := [.ref l], kw := kw } = pure () := by
    rcases hkw with ⟨rfl, _⟩ | ⟨d, rfl, _⟩ <;> rfl
  rw [hc]
  refine wpAny_pure ?_
  have go : ∀ {A' : Around}, A'.handled = none → wpAny (model prog w) A' (pyIter (.ref l) >>= fun it => newList [] >>= fun b => again (.builtin "min.loop" { pos := [it, .none, b], kw := kw2 })) (fun fin s' => match fin with
      | Fin.done f => R (Except.ok f) s'
      | Fin.again c' => c'.quiet = true ∧ codeAny (model prog w) A c' R s') (fun e s' => R (Except.error e) s') s := fun {A'} hA' => by
    refine wpAny_bind (wpAny_pyIter_list hlist ?_)
    refine wpAny_bind (wpAny_newList ?_ (by show 0 ≤ _; omega))
    refine wpAny_pure ⟨rfl, ?_⟩
    have none_at : ∀ b, s.heap.objs.size ≤ b → s.heap.get? b = none := fun b hb => by
      cases e : s.heap.get? b with
      | none => rfl
      | some o => exact absurd (Heap.lt_size e) (Nat.not_lt.mpr hb)
    have hsz : (s.heap.push { cls := Value.type "list_iterator", data := Data.fields #[Value.ref l, Value.int 0 0] }).objs.size = s.heap.objs.size + 1 := size_push' _ _
    refine min_first (h0 := s.heap) (c := 0) hh hu hlist (none_at _ (Nat.le_refl _)) (none_at _ (by rw [hsz]; exact Nat.le_succ _)) (by rw [hsz]; exact Nat.succ_ne_self _) htup hsh s (fun b o h => Heap.get?_push_of_some _ (Heap.get?_push_of_some _ h)) ⟨_, Heap.get?_push_of_some _ (Heap.get?_push_size _ rfl), rfl, rfl⟩ (Heap.get?_push_size _ rfl) hne q
  rcases hkw with ⟨rfl, rfl⟩ | ⟨d, rfl, rfl⟩
  · exact go hh
  · exact go hh
theorem call_minT (hc : X.calm = true) (hu : X.A.units + 64 < cLine) : CallR X (.builtin "min") (rMinT X.K) := by
  intro pins s σ H vs us Q I r h
  obtain ⟨p, ts, sh, rfl, hq, hat, hne, hsh, q⟩ := h
  obtain ⟨u, rfl, rx⟩ := vals1 r
  cases rx
  obtain ⟨its, rv, pl, hz⟩ := I.list hq
  have ei := vals_refs rv
  subst ei
  refine wpAny_call (min_call (sh := sh) (I.ok.hd hc) (by omega) pl.isList (.inl ⟨rfl, rfl⟩) (fun t ht => ?_) hsh (.inl hne) fun h' t kp ht hmin => ?_)
  · obtain ⟨i, v, q, _⟩ := I.tuple (SqT.of (K := X.K) (hat t ht))
    exact ⟨i, v, q⟩
  · exact ⟨.ref t.1, H, I.kept (t' := s.toks) kp, rfl, q t ht hmin⟩
theorem minT (K : PySem.W.Frag) {k : Nat} (hr : Room k X.A) (hc : X.calm = true := by rfl) (h : X.K = K := by rfl) : CallR X (.builtin "min") (rMinT K) := by subst h; exact call_minT hc hr.units
def tMinD (K : PySem.W.Frag) (te : TA) : TE := fun σ H Q => te σ H fun vs H1 => ∃ (p : Addr) (ts : TupL) (sh : List Bool), vs = [.ref p] ∧ SqL K H1 p (refs ts) ∧ AtT H1 ts ∧ (∀ t ∈ ts, shape t.2 = sh) ∧ (ts = [] → Q .non H1) ∧
  ∀ t : Addr × List Key, t ∈ ts → (∀ u ∈ ts, lexB u.2 t.2 = false) → Q (.ref t.1) H1
end
end L2
set_option Elab.async false
set_option linter.all false
set_option maxRecDepth 100000
namespace L2
open PySem PySem.Spec PyProof.Rows
def EqS (s : Shared) (items : List Value) (v : Value) (e : Nat → Bool) : Prop := ∀ (prog : Program) (w : World) (A : Around) (E : Value → Shared → Prop) (Q : Bool → Shared → Prop) (m : Nat) (x : Value), A.units + 2 < cLine → items[m]? = some x → Q (e m) s → wpAny (model prog w) A (eqBool x v) Q E s
section
variable {X : Cx}
def rRemI : V → List V → Hp → VK → Prop := fun x vs H Q => ∃ (l : Addr) (ns : List Int) (n : Int), x = .ref l ∧ vs = [.int n] ∧ H l = some (.lst (ns.map V.int)) ∧ n ∈ ns ∧ ns.length ≤ 1000 ∧ Q .non (upd H l (.lst ((ns.erase n).map V.int)))
def rRemT : V → List V → Hp → VK → Prop := fun x vs H Q => ∃ (l : Addr) (ts : TupL) (t : Addr × List Key), x = .ref l ∧ vs = [.ref t.1] ∧ H l = some (.lst (refs ts)) ∧ AtT H ts ∧ t ∈ ts ∧ ts.length ≤ 1000 ∧ ∀ (i : Nat) (hi : i < ts.length), ts[i].2 = t.2 → Q .non (upd H l (.lst (refs (ts.eraseIdx i))))
end
end L2
set_option Elab.async false
set_option linter.all false
set_option maxRecDepth 100000
namespace L2
open PySem PySem.Spec PyProof.Rows
section
open PySem.SeqAt
open PySem.AutoSeq1 (wpAny_loadPart')
open PySem.MeetsSeq PySem.MeetsSeq2 PySem.MeetsSeq3
end
section
variable {prog : Program} {w : World} {A : Around} {E : Value → Shared → Prop} {s : Shared}
end
section
variable {X : Cx}
def rGeK (K : PySem.W.Frag) : R2 := fun x y H Q => ∃ (a b : Addr) (ks ms : List Key), x = .ref a ∧ y = .ref b ∧ SqT K H a (ks.map kV) ∧ SqT K H b (ms.map kV) ∧ shape ks = shape ms ∧ Q (.bl (!lexB ks ms)) H
end
end L2
set_option Elab.async false
set_option linter.all false
set_option maxRecDepth 100000
namespace L2
open PySem PySem.Spec PyProof.Rows
def rMaxL (K : PySem.W.Frag) : List V → Hp → VK → Prop := fun vs H Q => ∃ (p : Addr) (ns : List Int), vs = [.ref p] ∧ SqL K H p (ns.map V.int) ∧ 0 < ns.length ∧ ∀ M, M ∈ ns → (∀ a ∈ ns, a ≤ M) → Q (.int M) H
def isNum (n : Int) : Value → Bool
  | .int a _ => a == n
  | _ => false
section
variable {X : Cx}
def rCountI : V → List V → Hp → VK → Prop := fun x vs H Q => ∃ (l : Addr) (ns : List Int) (n : Int), x = .ref l ∧ vs = [.int n] ∧ H l = some (.lst (ns.map V.int)) ∧ Q (.int ((ns.count n : Nat) : Int)) H
end
section
variable {X : Cx} {T name id : String} {r : V → List V → Hp → VK → Prop} {o e : Expr} {es : List Expr} {to : TE} {t : TA} {apos cpos : Pos}
end
end L2
set_option Elab.async false
set_option linter.all false
set_option maxRecDepth 100000
namespace L2
open PySem PySem.Spec PyProof.Rows
def EqS6 (s : Shared) (items : List Value) (v : Value) (e : Nat → Bool) : Prop := ∀ (prog : Program) (w : World) (A : Around) (E : Value → Shared → Prop) (Q : Bool → Shared → Prop) (m : Nat) (x : Value), A.units + 60 < cLine → items[m]? = some x → Q (e m) s → wpAny (model prog w) A (eqBool x v) Q E s
section
variable {X : Cx}
def rRemD (K : PySem.W.Frag) : V → List V → Hp → VK → Prop := fun x vs H Q => ∃ (l : Addr) (xs : List V) (ds : List PyData) (y : V) (d : PyData) (i : Nat), x = .ref l ∧ vs = [y] ∧ H l = some (.lst xs) ∧ DVs K H xs ds ∧ DV K H y d ∧ (∀ e ∈ ds, e.canLay0 = true) ∧ d.canLay0 = true ∧ d.depth ≤ 56 ∧ xs.length ≤ 1000 ∧
  i < ds.length ∧ (∀ e, ds[i]? = some e → PyData.eqv e d = true) ∧ (∀ m e, m < i → ds[m]? = some e → PyData.eqv e d = false) ∧ Q .non (upd H l (.lst (xs.eraseIdx i)))
def rInD (K : PySem.W.Frag) : R2 := fun x y H Q => ∃ (l : Addr) (xs : List V) (ds : List PyData) (d : PyData), y = .ref l ∧ SqL K H l xs ∧ DVs K H xs ds ∧ DV K H x d ∧ PyData.canLayAll0 ds = true ∧ SeqAt.shaped d = true ∧ d.depth ≤ 60 ∧ Q (.bl (ds.any fun e => PyData.eqv e d)) H
theorem op_inD (hu : X.A.units + 64 < cLine) : OpR X (compareOp .In) (rInD X.K) := by
  intro pins s σ H x y v u Q I rx ry h
  obtain ⟨l, xs, ds, d, rfl, hl, hds, hd, hc, hsd, hdep, q⟩ := h
  obtain ⟨as, ra⟩ := I.reads (.lst hl hds) ry
  obtain ⟨bs, rb⟩ := I.reads hd rx
  exact SeqAt.in_list_reads ra rb hc (SeqAt.canLay_of_shaped hsd) (by have := Nat.min_le_right (PyData.depthAll ds) d.depth; omega) ⟨.bl _, H, I, rfl, q⟩
def rSumC (K : PySem.W.Frag) : List V → Hp → VK → Prop := fun vs H Q => ∃ (p : Addr) (ns : List Int), vs = [.ref p] ∧ SqL K H p (ns.map V.int) ∧ ns.length ≤ 1000 ∧ (∀ n ∈ ns, 0 ≤ n ∧ n ≤ 10000000000000) ∧ Q (.int ns.sum) H
theorem call_sumC (hc : X.calm = true) : CallR X (.builtin "sum") (rSumC X.K) := by
  intro pins s σ H vs us Q I r h
  obtain ⟨p, ns, rfl, hq, hn, hb, q⟩ := h
  obtain ⟨u, rfl, rx⟩ := vals1 r
  cases rx
  obtain ⟨its, rv, pl, _⟩ := I.list hq
  have hi := intsAre_of rv
  obtain ⟨xs, e⟩ := hi.allInts.items
  have hns : ns = xs.toList.map (·.1) := by rw [← hi.numsOf, ← nums_intItems, ← e]
  have hsz : xs.size = ns.length := by rw [hns, List.length_map, Array.length_toList]
  have hnum : numAt xs = fun j => ns.getD j 0 := by funext j; rw [numAt_eq, hns]
  have hl := pl.isList
  rw [e] at hl
  have bound : ∀ n, n ≤ ns.length → 0 ≤ (ns.take n).sum ∧ (ns.take n).sum ≤ 10000000000000 * n := by
    intro n
    induction n with
    | zero => intro _; exact ⟨by simp, by simp⟩
    | succ n ih =>
      intro h
      have ih := ih (by omega)
      have hm := hb ns[n] (List.getElem_mem (by omega))
      have e2 : ns.take (n + 1) = ns.take n ++ [ns[n]] := by rw [List.take_add_one, List.getElem?_eq_getElem (by omega)]; rfl
      rw [e2, List.sum_append]
      have e3 : ([ns[n]] : List Int).sum = ns[n] := by simp
      rw [e3]
      omega
  refine sum_intList (I.ok.hd hc) hl (fun j hj => ?_) fun h' tk t' hk => ⟨.int _, H, I.kept hk, ⟨t', rfl⟩, ?_⟩
  · rw [hnum]
    have hm := hb ns[j] (List.getElem_mem (by omega))
    have hg : ns.getD j 0 = ns[j] := by rw [List.getD_eq_getElem?_getD, List.getElem?_eq_getElem (by omega)]; rfl
    have hp := bound (j + 1) (by omega)
    refine ⟨⟨?_, ?_⟩, ⟨?_, ?_⟩⟩
    · show -(2 ^ 63) ≤ ns.getD j 0
      rw [hg]; omega
    · show ns.getD j 0 < 2 ^ 63
      rw [hg]; omega
    · rw [pre_sumB ns (j + 1) (by omega)]; omega
    · rw [pre_sumB ns (j + 1) (by omega)]; omega
  · rw [hnum, hsz, pre_sumB ns ns.length (Nat.le_refl _), List.take_of_length_le (Nat.le_refl _)]
    exact q
theorem sumC (K : PySem.W.Frag) (hc : X.calm = true := by rfl) (h : X.K = K := by rfl) : CallR X (.builtin "sum") (rSumC K) := by subst h; exact call_sumC hc
theorem inD {X : Cx} (K : PySem.W.Frag) {k : Nat} (hr : Room k X.A) (h : X.K = K := by rfl) : OpR X (compareOp .In) (rInD K) := by subst h; exact op_inD hr.units
end
end L2
set_option Elab.async false
set_option linter.all false
set_option maxRecDepth 100000
namespace L2
open PySem PySem.Spec PyProof.Rows
theorem look_at {H : Hp} {k : List Key} {kvs : List (List Key × V)} {xs : List (List Key × Addr × Value)} (r : PairT H kvs xs) : ∀ {v : V}, lookK kvs k = some v → ∃ p, atKey xs k = some p ∧ RelV v p.2 := by
  induction r with
  | nil => intro v h; cases h
  | @cons p q ps qs h t ih =>
    intro v hv
    unfold lookK at hv
    unfold atKey
    rw [List.find?_cons] at hv ⊢
    rw [← h.1]
    by_cases e : p.1 = k
    · rw [decide_eq_true e] at hv ⊢
      cases hv
      exact ⟨q.2, rfl, h.2.2⟩
    · rw [decide_eq_false e] at hv ⊢
      exact ih hv
theorem look_no {H : Hp} {k : List Key} {kvs : List (List Key × V)} {xs : List (List Key × Addr × Value)} (r : PairT H kvs xs) : lookK kvs k = none → atKey xs k = none := by
  induction r with
  | nil => intro _; rfl
  | @cons p q ps qs h t ih =>
    intro hv
    unfold lookK at hv
    unfold atKey
    rw [List.find?_cons] at hv ⊢
    rw [← h.1]
    by_cases e : p.1 = k
    · rw [decide_eq_true e] at hv
      cases hv
    · rw [decide_eq_false e] at hv ⊢
      exact ih hv
theorem lookK_app {kvs : List (List Key × V)} {k k' : List Key} {v : V} : lookK (kvs ++ [(k, v)]) k' = (lookK kvs k').or (if k = k' then some v else none) := by
  unfold lookK
  rw [List.find?_append]
  cases h : kvs.find? fun kv => decide (kv.1 = k') with
  | some x => rfl
  | none =>
    by_cases e : k = k'
    · simp [e]
    · simp [e]
section
variable {X : Cx}
def rIxD : R2 := fun x y H Q => ∃ d kvs b ks v, x = .ref d ∧ y = .ref b ∧ H d = some (.dT kvs) ∧ H b = some (.tup (ks.map kV)) ∧ lookK kvs ks = some v ∧ Q v H
theorem ix_dT (hu : X.A.units + 64 < cLine) : IxR X rIxD := by
  intro value slice pins s σ H x y v u Q I rx ry h hs
  obtain ⟨d, kvs, b, ks, z, rfl, rfl, hH, hb, hk, q⟩ := h
  cases rx
  cases ry
  obtain ⟨_, hd, xs, rel, o, es, ep, ho, hex, hdat, hent, hnd⟩ := (show ObjOk X.prog X.w H s.heap d (.dT kvs) from I.hok d _ hH)
  have hm : s.heap.DictOfH (tupleKind (mixKind X.prog X.w)) d xs := ⟨o, es, ep, ho, hex, hdat, hent, pair_all (R := fun ks b => (tupleKind (mixKind X.prog X.w)).is s.heap ks b) (fun ks b e => I.tkey e) rel, hnd⟩
  obtain ⟨p, hp, rp⟩ := look_at rel hk
  exact subscriptTail_builtinR (x := p.2) hm.typeIs PySem.F.slot_dict_getitem.lookup (wpAny_getItem_heap (knd := tupleKind (mixKind X.prog X.w)) (by show X.A.units + 1 < cLine; omega) (I.tkey hb) hm hp ⟨rfl, z, H, I.tok _, rp, q⟩) hs
theorem ixD {k : Nat} (hr : Room k X.A) : IxR X rIxD := ix_dT hr.units
def rSetDT : TSet := fun o i v H Q => ∃ d kvs b ks, o = .ref d ∧ i = .ref b ∧ H d = some (.dT kvs) ∧ H b = some (.tup (ks.map kV)) ∧ lookK kvs ks = none ∧ kvs.length < sizeLine ∧ Q (upd H d (.dT (kvs ++ [(ks, v)])))
theorem set_dT (hu : X.A.units + 64 < cLine) : PSet X rSetDT := by
  intro pins s σ H o i v ov iv u Q I ro ri rv h
  obtain ⟨d, kvs, b, ks, rfl, rfl, hH, hb, hk, hz, q⟩ := h
  cases ro
  cases ri
  obtain ⟨_, hd, xs, rel, o, es, ep, ho, hex, hdat, hent, hnd⟩ := (show ObjOk X.prog X.w H s.heap d (.dT kvs) from I.hok d _ hH)
  have hm : s.heap.DictOfH (tupleKind (mixKind X.prog X.w)) d xs := ⟨o, es, ep, ho, hex, hdat, hent, pair_all (R := fun ks b => (tupleKind (mixKind X.prog X.w)).is s.heap ks b) (fun ks b e => I.tkey e) rel, hnd⟩
  have hl := pair_len rel
  have hno := look_no rel hk
  refine wpAny_setItem_heap (knd := tupleKind (mixKind X.prog X.w)) (k := ks) (by show X.A.units + 1 < cLine; omega) (I.tkey hb) hm (fun h' hm' hs => ?_) (by omega)
  rw [storedH_new hno] at hm'
  obtain ⟨o', es', ep', g1, g2, g3, g4, _, g5⟩ := hm'
  refine ⟨_, ?_, q⟩
  refine I.write (x := d) (e := d) (by rw [hH]; exact True.intro) (.inl rfl) (fun c q hc z => (hs.2 c hc).trans z) ⟨o', g1⟩ ?_
  refine ⟨by rw [List.length_append, List.length_singleton]; omega, hd, xs ++ [(ks, b, u)], ?_, o', es', ep', g1, g2, g3, g4, g5⟩
  refine pair_keep (fun c ys ec => ?_) (pair_snoc rel ⟨rfl, hb, rv⟩)
  rw [upd_ne (ne_of ec hH (fun z => nomatch z))]
  exact ec
theorem setD {k : Nat} (hr : Room k X.A) : PSet X rSetDT := set_dT hr.units
end
end L2
set_option Elab.async false
set_option linter.all false
set_option maxRecDepth 100000
namespace L2
open PySem PySem.Spec PyProof.Rows
abbrev IsZipG (h : Heap) (z TI TO : Addr) (f0 : Value) (fl : Bool) : Prop :=
  h.get? z = some { cls := .type "zip", dict := none, data := .fields #[f0, .bool fl, .bool false, .ref TI, .ref TO], slots := #[] }
section
variable {prog : Program} {w : World} {A : Around} {E : Value → Shared → Prop} {s : Shared}
theorem wpAny_loadIfAlive {a : Addr} {Q : Option Obj → Shared → Prop} (h : Q (s.heap.get? a) s) : wpAny (model prog w) A (loadIfAlive a) Q E s := fun _ _ _ => h
theorem own_free {z TI TO : Addr} {f0 : Value} {fl : Bool} {Q : Bool → Shared → Prop} (hf : f0 = .none ∨ ∃ a : Addr, f0 = rawInt a) (hz : IsZipG s.heap z TI TO f0 fl) (h1 : Q true s)
    (h2 : ∀ h', IsZipG h' z TI TO f0 true → Heap.SameBut z s.heap h' → Q false { s with heap := h' }) : wpAny (model prog w) A (Builtin.SmallTypes.ownedTupleIsFree (.ref z)) Q E s := by
  unfold Builtin.SmallTypes.ownedTupleIsFree
  refine wpAny_bind (wpAny_field hz rfl (x := f0) rfl ?_)
  rcases hf with rfl | ⟨a, rfl⟩
  · exact wpAny_pure h1
  · show wpAny _ _ (loadIfAlive _ >>= _) _ _ _
    refine wpAny_bind (wpAny_loadIfAlive ?_)
    cases hg : s.heap.get? ((a : Int)).toNat with
    | none => exact wpAny_pure h1
    | some o =>
      show wpAny _ _ (field (.ref z) 1 >>= _) _ _ _
      refine wpAny_bind (wpAny_field hz rfl (x := .bool fl) rfl ?_)
      cases fl with
      | true => exact wpAny_pure (h2 s.heap hz ⟨rfl, fun _ _ => rfl⟩)
      | false =>
        show wpAny _ _ (setField (.ref z) 1 (.bool true) >>= _) _ _ _
        exact wpAny_bind (wpAny_setField_rec hz (by simp) fun h' hz' hs' => wpAny_pure (h2 h' hz' hs'))
theorem zip_stepN {z TI TO i1 i2 : Addr} {S1 S2 : Src} {k : Nat} {us1 us2 : List Value} {a b : Value} {Q : Option Value → Shared → Prop} (D : ZipOff z TI TO i1 i2 S1 S2)
    {f0 : Value} {fl : Bool} (hf : f0 = .none ∨ ∃ a : Addr, f0 = rawInt a) (hz : IsZipG s.heap z TI TO f0 fl) (hTI : IsPair s.heap TI (.ref i1) (.ref i2)) (hTO : IsPair s.heap TO a b)
    (h1 : S1.at s.heap i1 k) (h2 : S2.at s.heap i2 k) (r1 : S1.raw s.heap us1) (r2 : S2.raw s.heap us2) (m1 : k < S1.many us1) (m2 : k < S2.many us2)
    (hQ : ∀ h' tk x y, S1.fit us1 k x → S2.fit us2 k y → (∃ f' fl', (f' = .none ∨ ∃ a : Addr, f' = rawInt a) ∧ IsZipG h' z TI TO f' fl') → (∃ a b, IsPair h' TO a b) → S1.at h' i1 (k + 1) → S2.at h' i2 (k + 1) → IsPair h' s.heap.objs.size x y → h'.objs.size = s.heap.objs.size + 1 →
      (∀ c o, c ≠ z → c ≠ TO → c ≠ i1 → c ≠ i2 → s.heap.get? c = some o → h'.get? c = some o) → Q (some (.ref s.heap.objs.size)) { s with heap := h', toks := tk }) :
    wpAny (model prog w) A (pyNext (.ref z)) Q E s := by
  have hT : s.TypeIs (.ref z) "zip" := ⟨_, hz, rfl⟩
  unfold pyNext
  refine wpAny_bind (wpAny_attempt (wpAny_callSpecial?_slot (name := Str.ofString "__next__") hT F.slot_zip_next (wpAny_call_entry F.slot_zip_next hT F.entry_zip_next ?_ (F.args_zip_next_1 _))))
  show wpAny _ _ (field (.ref z) 2 >>= _) _ _ _
  refine wpAny_bind (wpAny_field hz rfl (x := .bool false) rfl ?_)
  show wpAny _ _ (field (.ref z) 3 >>= _) _ _ _
  refine wpAny_bind (wpAny_field hz rfl (x := .ref TI) rfl (wpAny_bind (wpAny_seqItems hTI rfl ?_)))
  show wpAny _ _ (Builtin.SmallTypes.ownedTupleIsFree (.ref z) >>= _) _ _ _
  refine wpAny_bind (own_free hf hz ?_ fun h₁ hz₁ hs₁ => ?_)
  rotate_left
  · simp only [Bool.false_eq_true, if_false]
    have hTI₁ : IsPair h₁ TI (.ref i1) (.ref i2) := hs₁.extBut _ _ D.TIz hTI
    refine wpAny_bind ?_
    rw [← Array.forIn_toList]
    simp only [List.forIn_cons, List.forIn_nil]
    refine wpAny_bind (wpAny_bind (wpAny_holding ?_))
    show wpAny _ _ (Builtin.SmallTypes.nextOf (.ref i1) >>= _) _ _ _
    refine wpAny_bind (nextOf_item (S := S1) (us := us1) (k := k) (S1.at_keep (fun o e => hs₁.extBut _ o D.i1z e) h1) (S1.raw_keep (fun c o n e => hs₁.extBut c o n e) D.s1z r1) m1 fun h₂ tk₂ x fx h1₂ hs₂ => wpAny_pure ?_)
    have hs₂' : Heap.SameBut i1 h₁ h₂ := hs₂
    refine wpAny_pure ?_
    refine wpAny_bind (wpAny_bind (wpAny_holding ?_))
    show wpAny _ _ (Builtin.SmallTypes.nextOf (.ref i2) >>= _) _ _ _
    refine wpAny_bind (nextOf_item (S := S2) (us := us2) (k := k)
      (S2.at_keep (fun o e => hs₂'.extBut _ o D.i12.symm (hs₁.extBut _ o D.i2z e)) h2)
      (S2.raw_keep (fun c o n e => hs₂'.extBut c o n e) D.s2i1 (S2.raw_keep (fun c o n e => hs₁.extBut c o n e) D.s2z r2)) m2 fun h₄ tk₄ y fy h2₄ hs₄ => wpAny_pure ?_)
    have hs₄' : Heap.SameBut i2 h₂ h₄ := hs₄
    refine wpAny_pure (wpAny_pure ?_)
    show wpAny _ _ (newTuple [x, y] >>= _) _ _ _
    refine wpAny_bind (wpAny_newTuple ?_)
    refine wpAny_pure ⟨_, rfl, wpAny_pure ?_⟩
    have hsz : h₄.objs.size = s.heap.objs.size := by rw [hs₄'.1, hs₂'.1, hs₁.1]
    have up : ∀ c o, c ≠ z → c ≠ i1 → c ≠ i2 → s.heap.get? c = some o → h₄.get? c = some o := fun c o c1 c3 c4 e => hs₄'.extBut _ _ c4 (hs₂'.extBut _ _ c3 (hs₁.extBut _ _ c1 e))
    have hz₄ : IsZipG h₄ z TI TO f0 true := hs₄'.extBut _ _ D.i2z.symm (hs₂'.extBut _ _ D.i1z.symm hz₁)
    have hTO₄ : IsPair h₄ TO a b := up _ _ D.TOz D.TOi1 D.TOi2 hTO
    have h1₄ : S1.at h₄ i1 (k + 1) := S1.at_keep (fun o e => hs₄'.extBut _ o D.i12 e) h1₂
    show Q (some (.ref h₄.objs.size)) _
    rw [hsz]
    refine hQ _ tk₄ x y fx fy ⟨f0, true, hf, Heap.get?_push_of_some _ hz₄⟩ ⟨a, b, Heap.get?_push_of_some _ hTO₄⟩ (S1.at_keep (fun o e => Heap.get?_push_of_some _ e) h1₄) (S2.at_keep (fun o e => Heap.get?_push_of_some _ e) h2₄) ?_ ?_ fun c o c1 c2 c3 c4 e => Heap.get?_push_of_some _ (up c o c1 c3 c4 e)
    · rw [← hsz]; exact Heap.get?_push_size _ rfl
    · rw [Heap.size_push, hsz]
  simp only [if_true]
  refine wpAny_bind (wpAny_rule (wpAny_bind (wpAny_field hz rfl (x := .ref TO) rfl (wpAny_bind (wpAny_setField_rec hz (by simp) fun h₁ hz₁ hs₁ => ?_)))))
  replace hz₁ : IsZipG h₁ z TI TO .ellipsis fl := hz₁
  refine wpAny_bind ?_
  simp only [List.zipIdx_cons, List.zipIdx_nil, List.forIn_cons, List.forIn_nil]
  refine wpAny_bind (wpAny_bind (wpAny_onRaise ?_))
  show wpAny _ _ (Builtin.SmallTypes.nextOf (.ref i1) >>= _) _ _ _
  refine wpAny_bind (nextOf_item (S := S1) (us := us1) (k := k) (S1.at_keep (fun o e => hs₁.extBut _ o D.i1z e) h1) (S1.raw_keep (fun c o n e => hs₁.extBut c o n e) D.s1z r1) m1 fun h₂ tk₂ x fx h1₂ hs₂ => wpAny_pure ?_)
  have hs₂' : Heap.SameBut i1 h₁ h₂ := hs₂
  have hTO₂ : IsPair h₂ TO a b := hs₂'.extBut _ _ D.TOi1 (hs₁.extBut _ _ D.TOz hTO)
  refine wpAny_bind (wpAny_seqItems hTO₂ rfl (wpAny_bind (wpAny_updateSeq_pair hTO₂ fun h₃ hTO₃ hs₃ => wpAny_bind (wpAny_letGo (wpAny_pure ?_)))))
  replace hTO₃ : IsPair h₃ TO x b := hTO₃
  have hs₃' : Heap.SameBut TO h₂ h₃ := hs₃
  refine wpAny_bind (wpAny_bind (wpAny_onRaise ?_))
  show wpAny _ _ (Builtin.SmallTypes.nextOf (.ref i2) >>= _) _ _ _
  refine wpAny_bind (nextOf_item (S := S2) (us := us2) (k := k)
    (S2.at_keep (fun o e => hs₃'.extBut _ o D.TOi2.symm (hs₂'.extBut _ o D.i12.symm (hs₁.extBut _ o D.i2z e))) h2)
    (S2.raw_keep (fun c o n e => hs₃'.extBut c o n e) D.s2TO (S2.raw_keep (fun c o n e => hs₂'.extBut c o n e) D.s2i1 (S2.raw_keep (fun c o n e => hs₁.extBut c o n e) D.s2z r2))) m2 fun h₄ tk₄ y fy h2₄ hs₄ => wpAny_pure ?_)
  have hs₄' : Heap.SameBut i2 h₃ h₄ := hs₄
  have hTO₄ : IsPair h₄ TO x b := hs₄'.extBut _ _ D.TOi2 hTO₃
  refine wpAny_bind (wpAny_seqItems hTO₄ rfl (wpAny_bind (wpAny_updateSeq_pair hTO₄ fun h₅ hTO₅ hs₅ => wpAny_bind (wpAny_letGo (wpAny_pure (wpAny_pure ?_))))))
  replace hTO₅ : IsPair h₅ TO x y := hTO₅
  have hs₅' : Heap.SameBut TO h₄ h₅ := hs₅
  refine wpAny_bind (wpAny_seqItems hTO₅ rfl (wpAny_bind (wpAny_newTuple ?_)))
  have hsz : h₅.objs.size = s.heap.objs.size := by rw [hs₅'.1, hs₄'.1, hs₃'.1, hs₂'.1, hs₁.1]
  have hz₅ : IsZipG h₅ z TI TO .ellipsis fl := hs₅'.extBut _ _ D.TOz.symm (hs₄'.extBut _ _ D.i2z.symm (hs₃'.extBut _ _ D.TOz.symm (hs₂'.extBut _ _ D.i1z.symm hz₁)))
  have hk₅ : ∀ c o, c ≠ z → c ≠ TO → c ≠ i1 → c ≠ i2 → s.heap.get? c = some o → h₅.get? c = some o := fun c o c1 c2 c3 c4 e =>
    hs₅'.extBut _ _ c2 (hs₄'.extBut _ _ c4 (hs₃'.extBut _ _ c2 (hs₂'.extBut _ _ c3 (hs₁.extBut _ _ c1 e))))
  have h1₅ : S1.at h₅ i1 (k + 1) := S1.at_keep (fun o e => hs₅'.extBut _ o D.TOi1.symm (hs₄'.extBut _ o D.i12 (hs₃'.extBut _ o D.TOi1.symm e))) h1₂
  have h2₅ : S2.at h₅ i2 (k + 1) := S2.at_keep (fun o e => hs₅'.extBut _ o D.TOi2.symm e) h2₄
  have hzlt : z < h₅.objs.size := Heap.lt_size hz₅
  show wpAny _ _ (Builtin.SmallTypes.ownedTupleHandOut (.ref z) (.ref h₅.objs.size) >>= _) _ _ _
  refine wpAny_bind ?_
  unfold Builtin.SmallTypes.ownedTupleHandOut
  have hz₆ : IsZipG (h₅.push { cls := .type "tuple", data := .seq #[x, y] }) z TI TO .ellipsis fl := Heap.get?_push_of_some _ hz₅
  refine wpAny_bind (wpAny_setField_rec hz₆ (by simp) fun h₇ hz₇ hs₇ => ?_)
  replace hz₇ : IsZipG h₇ z TI TO (rawInt h₅.objs.size) fl := hz₇
  refine wpAny_setField_rec hz₇ (by simp) fun h₈ hz₈ hs₈ => ?_
  replace hz₈ : IsZipG h₈ z TI TO (rawInt h₅.objs.size) false := hz₈
  have up : ∀ c o, c ≠ z → h₅.get? c = some o → h₈.get? c = some o := fun c o c1 e => hs₈.extBut _ _ c1 (hs₇.extBut _ _ c1 (Heap.get?_push_of_some _ e))
  have hT₈ : IsPair h₈ h₅.objs.size x y := hs₈.extBut _ _ (Nat.ne_of_gt hzlt) (hs₇.extBut _ _ (Nat.ne_of_gt hzlt) (Heap.get?_push_size _ rfl))
  have hz8 : h₈.objs.size = h₅.objs.size + 1 := by rw [hs₈.1, hs₇.1, Heap.size_push]
  rw [hsz] at hz₈ hT₈ hz8
  refine wpAny_pure ⟨_, rfl, wpAny_pure ?_⟩
  show Q (some (.ref h₅.objs.size)) _
  rw [hsz]
  exact hQ h₈ tk₄ x y fx fy ⟨_, _, .inr ⟨_, rfl⟩, hz₈⟩ ⟨_, _, up _ _ D.TOz hTO₅⟩ (S1.at_keep (fun o e => up _ o D.i1z e) h1₅) (S2.at_keep (fun o e => up _ o D.i2z e) h2₅) hT₈ hz8 fun c o c1 c2 c3 c4 e => up c o c1 (hk₅ c o c1 c2 c3 c4 e)
theorem zip_stopN {z TI TO i1 i2 : Addr} {S1 S2 : Src} {k : Nat} {us1 us2 : List Value} {a b : Value} {Q : Option Value → Shared → Prop} (hh : A.handled = none) (D : ZipOff z TI TO i1 i2 S1 S2)
    {f0 : Value} {fl : Bool} (hf : f0 = .none ∨ ∃ a : Addr, f0 = rawInt a) (hz : IsZipG s.heap z TI TO f0 fl) (hTI : IsPair s.heap TI (.ref i1) (.ref i2)) (hTO : IsPair s.heap TO a b)
    (h1 : S1.at s.heap i1 k) (h2 : S2.at s.heap i2 k) (r1 : S1.raw s.heap us1) (r2 : S2.raw s.heap us2) (hend : S1.many us1 ≤ k ∨ S2.many us2 ≤ k)
    (hQ : ∀ h' tk, (∀ c o, c ≠ z → c ≠ TO → c ≠ i1 → c ≠ i2 → s.heap.get? c = some o → h'.get? c = some o) → Q none { s with heap := h', toks := tk }) :
    wpAny (model prog w) A (pyNext (.ref z)) Q E s := by
  have hT : s.TypeIs (.ref z) "zip" := ⟨_, hz, rfl⟩
  unfold pyNext
  have done : ∀ (h' : Heap) (tk : Nat) (e : Addr), (∀ c o, c ≠ z → c ≠ TO → c ≠ i1 → c ≠ i2 → s.heap.get? c = some o → h'.get? c = some o) → (∃ o, h'.get? e = some o ∧ o.cls = .type "StopIteration") →
      wpAny (model prog w) A (do if (← isInstance (.ref e) (.type "StopIteration")) then pure none else throw (.ref e) : Sem (Option Value)) Q E { s with heap := h', toks := tk } := fun h' tk e hk ⟨o, ho, hc⟩ =>
    wpAny_bind (wpAny_isInstance (T := "StopIteration") (b := true) ⟨o, ho, hc⟩ isSubtype_stop (wpAny_pure (hQ h' tk hk)))
  refine wpAny_bind (wpAny_attempt (wpAny_callSpecial?_slot (name := Str.ofString "__next__") hT F.slot_zip_next (wpAny_call_entry F.slot_zip_next hT F.entry_zip_next ?_ (F.args_zip_next_1 _))))
  show wpAny _ _ (field (.ref z) 2 >>= _) _ _ _
  refine wpAny_bind (wpAny_field hz rfl (x := .bool false) rfl ?_)
  show wpAny _ _ (field (.ref z) 3 >>= _) _ _ _
  refine wpAny_bind (wpAny_field hz rfl (x := .ref TI) rfl (wpAny_bind (wpAny_seqItems hTI rfl ?_)))
  show wpAny _ _ (Builtin.SmallTypes.ownedTupleIsFree (.ref z) >>= _) _ _ _
  refine wpAny_bind (own_free hf hz ?_ fun h₁ hz₁ hs₁ => ?_)
  rotate_left
  · simp only [Bool.false_eq_true, if_false]
    refine wpAny_bind ?_
    rw [← Array.forIn_toList]
    simp only [List.forIn_cons, List.forIn_nil]
    refine wpAny_bind (wpAny_bind (wpAny_holding ?_))
    show wpAny _ _ (Builtin.SmallTypes.nextOf (.ref i1) >>= _) _ _ _
    by_cases m1 : k < S1.many us1
    · have m2 : S2.many us2 ≤ k := by rcases hend with z' | z'; omega; exact z'
      refine wpAny_bind (nextOf_item (S := S1) (us := us1) (k := k) (S1.at_keep (fun o e => hs₁.extBut _ o D.i1z e) h1) (S1.raw_keep (fun c o n e => hs₁.extBut c o n e) D.s1z r1) m1 fun h₂ tk₂ x fx h1₂ hs₂ => wpAny_pure ?_)
      have hs₂' : Heap.SameBut i1 h₁ h₂ := hs₂
      refine wpAny_pure ?_
      refine wpAny_bind (wpAny_bind (wpAny_holding ?_))
      show wpAny _ _ (Builtin.SmallTypes.nextOf (.ref i2) >>= _) _ _ _
      exact wpAny_bind (nextOf_end (S := S2) (us := us2) (k := k) hh
        (S2.at_keep (fun o e => hs₂'.extBut _ o D.i12.symm (hs₁.extBut _ o D.i2z e)) h2)
        (S2.raw_keep (fun c o n e => hs₂'.extBut c o n e) D.s2i1 (S2.raw_keep (fun c o n e => hs₁.extBut c o n e) D.s2z r2)) m2 fun h₄ e hs₄ he => done h₄ _ e (fun c o c1 c2 c3 c4 x => hs₄ _ _ c4 (hs₂'.extBut _ _ c3 (hs₁.extBut _ _ c1 x))) he)
    · exact wpAny_bind (nextOf_end (S := S1) (us := us1) (k := k) hh (S1.at_keep (fun o e => hs₁.extBut _ o D.i1z e) h1) (S1.raw_keep (fun c o n e => hs₁.extBut c o n e) D.s1z r1) (by omega) fun h₂ e hs₂ he => done h₂ _ e (fun c o c1 _ c3 _ x => hs₂ _ _ c3 (hs₁.extBut _ _ c1 x)) he)
  simp only [if_true]
  refine wpAny_bind (wpAny_rule (wpAny_bind (wpAny_field hz rfl (x := .ref TO) rfl (wpAny_bind (wpAny_setField_rec hz (by simp) fun h₁ hz₁ hs₁ => ?_)))))
  replace hz₁ : IsZipG h₁ z TI TO .ellipsis fl := hz₁
  refine wpAny_bind ?_
  simp only [List.zipIdx_cons, List.zipIdx_nil, List.forIn_cons, List.forIn_nil]
  refine wpAny_bind (wpAny_bind (wpAny_onRaise ?_))
  show wpAny _ _ (Builtin.SmallTypes.nextOf (.ref i1) >>= _) _ _ _
  by_cases m1 : k < S1.many us1
  · have m2 : S2.many us2 ≤ k := by rcases hend with z' | z'; omega; exact z'
    refine wpAny_bind (nextOf_item (S := S1) (us := us1) (k := k) (S1.at_keep (fun o e => hs₁.extBut _ o D.i1z e) h1) (S1.raw_keep (fun c o n e => hs₁.extBut c o n e) D.s1z r1) m1 fun h₂ tk₂ x fx h1₂ hs₂ => wpAny_pure ?_)
    have hs₂' : Heap.SameBut i1 h₁ h₂ := hs₂
    have hTO₂ : IsPair h₂ TO a b := hs₂'.extBut _ _ D.TOi1 (hs₁.extBut _ _ D.TOz hTO)
    refine wpAny_bind (wpAny_seqItems hTO₂ rfl (wpAny_bind (wpAny_updateSeq_pair hTO₂ fun h₃ hTO₃ hs₃ => wpAny_bind (wpAny_letGo (wpAny_pure ?_)))))
    have hs₃' : Heap.SameBut TO h₂ h₃ := hs₃
    refine wpAny_bind (wpAny_bind (wpAny_onRaise ?_))
    show wpAny _ _ (Builtin.SmallTypes.nextOf (.ref i2) >>= _) _ _ _
    refine wpAny_bind (nextOf_end (S := S2) (us := us2) (k := k) hh
      (S2.at_keep (fun o e => hs₃'.extBut _ o D.TOi2.symm (hs₂'.extBut _ o D.i12.symm (hs₁.extBut _ o D.i2z e))) h2)
      (S2.raw_keep (fun c o n e => hs₃'.extBut c o n e) D.s2TO (S2.raw_keep (fun c o n e => hs₂'.extBut c o n e) D.s2i1 (S2.raw_keep (fun c o n e => hs₁.extBut c o n e) D.s2z r2))) m2 fun h₄ e hs₄ he => ?_)
    obtain ⟨oe, hoe, hce⟩ := he
    have hz₄ : IsZipG h₄ z TI TO .ellipsis fl := hs₄ _ _ D.i2z.symm (hs₃'.extBut _ _ D.TOz.symm (hs₂'.extBut _ _ D.i1z.symm hz₁))
    have hez : e ≠ z := fun x => by subst x; rw [hz₄] at hoe; cases hoe; simp at hce
    exact wpAny_setField_rec hz₄ (by simp) fun h₅ _ hs₅ => done h₅ _ e (fun c o c1 c2 c3 c4 x => hs₅.extBut _ _ c1 (hs₄ _ _ c4 (hs₃'.extBut _ _ c2 (hs₂'.extBut _ _ c3 (hs₁.extBut _ _ c1 x))))) ⟨oe, hs₅.extBut _ _ hez hoe, hce⟩
  · refine wpAny_bind (nextOf_end (S := S1) (us := us1) (k := k) hh (S1.at_keep (fun o e => hs₁.extBut _ o D.i1z e) h1) (S1.raw_keep (fun c o n e => hs₁.extBut c o n e) D.s1z r1) (by omega) fun h₂ e hs₂ he => ?_)
    obtain ⟨oe, hoe, hce⟩ := he
    have hz₂ : IsZipG h₂ z TI TO .ellipsis fl := hs₂ _ _ D.i1z.symm hz₁
    have hez : e ≠ z := fun x => by subst x; rw [hz₂] at hoe; cases hoe; simp at hce
    exact wpAny_setField_rec hz₂ (by simp) fun h₃ _ hs₃ => done h₃ _ e (fun c o c1 _ c3 _ x => hs₃.extBut _ _ c1 (hs₂ _ _ c3 (hs₁.extBut _ _ c1 x))) ⟨oe, hs₃.extBut _ _ hez hoe, hce⟩
end
theorem iter_zipN {prog : Program} {w : World} {A : Around} {E : Value → Shared → Prop} {s : Shared} {z TI TO : Addr} {f0 : Value} {fl : Bool} {Q : Value → Shared → Prop} (hz : IsZipG s.heap z TI TO f0 fl) (h : Q (.ref z) s) : wpAny (model prog w) A (pyIter (.ref z)) Q E s := by
  have hT : s.TypeIs (.ref z) "zip" := ⟨_, hz, rfl⟩
  refine wpAny_pyIter_slot hT F.slot_zip_iter (wpAny_call_entry F.slot_zip_iter hT F.entry_zip_iter ?_ (F.args_zip_iter_1 _))
  show wpAny _ _ (ret (.ref z)) _ _ s
  exact wpAny_pure ⟨_, rfl, "zip", _, hT, F.slot_zip_next.lookup, h⟩
theorem turn_zipN {P : Program} {w : World} {K : PySem.W.Frag} {nm : Str} {tpos : Pos} {S1 S2 : Src} {z TI TO i1 i2 : Addr}
    (d1 : TI ≠ z) (d2 : TO ≠ z) (d3 : i1 ≠ z) (d4 : i2 ≠ z) (d5 : TI ≠ TO) (d6 : TI ≠ i1) (d7 : TI ≠ i2) (d8 : TO ≠ i1) (d9 : TO ≠ i2) (d10 : i1 ≠ i2) :
    Turn P w K (.Name nm tpos) (Itz K S1 S2) [z, TI, TO, i1, i2] z
      (fun i h => (∃ f0 fl, (f0 = Value.none ∨ ∃ a : Addr, f0 = rawInt a) ∧ IsZipG h z TI TO f0 fl) ∧ IsPair h TI (.ref i1) (.ref i2) ∧ (∃ a b, IsPair h TO a b) ∧ S1.at h i1 i ∧ S2.at h i2 i) where
  mem := by simp
  obj := fun i h st b hb => by
    obtain ⟨⟨f0, fl, hf0, hz⟩, hTI, ⟨a, b', hTO⟩, h1, h2⟩ := st
    have nf : ∀ {o : Obj} {vs : Array Value}, o.data = .fields vs → ∀ v, o.data ≠ .cell v := fun d v e => by rw [d] at e; cases e
    simp only [List.mem_cons, List.not_mem_nil, or_false] at hb
    rcases hb with rfl | rfl | rfl | rfl | rfl
    · exact ⟨_, hz, nf rfl⟩
    · exact ⟨_, hTI, fun v e => by cases e⟩
    · exact ⟨_, hTO, fun v e => by cases e⟩
    · obtain ⟨o, vs, e, d⟩ := Src.at_obj h1; exact ⟨o, e, nf d⟩
    · obtain ⟨o, vs, e, d⟩ := Src.at_obj h2; exact ⟨o, e, nf d⟩
  keep := fun i h h' st k => by
    obtain ⟨⟨f0, fl, hf0, hz⟩, hTI, ⟨a, b', hTO⟩, h1, h2⟩ := st
    exact ⟨⟨f0, fl, hf0, k z (by simp) _ hz⟩, k TI (by simp) _ hTI, ⟨a, b', k TO (by simp) _ hTO⟩, Src.at_keep (fun o e => k i1 (by simp) o e) h1, Src.at_keep (fun o e => k i2 (by simp) o e) h2⟩
  item := by
    intro X hP hw hK hc i pins s σ H E I hf st hg
    subst hP hw hK
    obtain ⟨⟨f0, fl, hf0, hz⟩, hTI, ⟨a, b', hTO⟩, h1, h2⟩ := st
    obtain ⟨xs, ys, q1, q2, l1, l2⟩ := hg
    obtain ⟨us1, r1, m1, f1⟩ := I.src q1
    obtain ⟨us2, r2, m2, f2⟩ := I.src q2
    have hfz := hf z (by simp)
    have D : ZipOff z TI TO i1 i2 S1 S2 := ⟨d1, d2, d3, d4, d5, d6, d7, d8, d9, d10, I.src_off hfz q1, I.src_off (hf TO (by simp)) q1, I.src_off (hf i1 (by simp)) q1, I.src_off (hf i2 (by simp)) q1,
      I.src_off hfz q2, I.src_off (hf TO (by simp)) q2, I.src_off (hf i1 (by simp)) q2, I.src_off (hf i2 (by simp)) q2⟩
    refine zip_stepN D hf0 hz hTI hTO h1 h2 r1 r2 (by omega) (by omega) fun h' tk x y fx fy a1 a2 a3 a4 a5 a6 a7 => ?_
    have rx := f1 i x _ fx (List.getElem?_eq_getElem l1)
    have ry := f2 i y _ fy (List.getElem?_eq_getElem l2)
    obtain ⟨f1', fl', hf1, hz''⟩ := a1
    obtain ⟨ta, tb, a2⟩ := a2
    refine ⟨_, rfl, wpAny_pure ?_⟩
    have hs' : Heap.SameBut z h' h' := ⟨rfl, fun _ _ => rfl⟩
    have hTI' : IsPair h' TI (.ref i1) (.ref i2) := a7 _ _ d1 d5 d6 d7 hTI
    have lt : ∀ {b : Addr} {o : Obj}, s.heap.get? b = some o → s.heap.objs.size ≠ b := fun e => Nat.ne_of_gt (Heap.lt_size e)
    have hzs : s.heap.objs.size ≠ z := lt hz
    have I2 : Inv X pins σ (upd H s.heap.objs.size (.tup [xs[i], ys[i]])) { s with heap := h', toks := tk } := by
      refine I.zipped (fp := [z, TI, TO, i1, i2]) hf rx ry (hs'.extBut _ _ hzs a5) (fun b hb => ?_) fun c o hc e => ?_
      · simp only [List.mem_cons, List.not_mem_nil, or_false] at hb
        rcases hb with rfl | rfl | rfl | rfl | rfl
        · exact ⟨_, hz''⟩
        · exact ⟨_, hs'.extBut _ _ d1 hTI'⟩
        · exact ⟨_, hs'.extBut _ _ d2 a2⟩
        · obtain ⟨o, vs, e, _⟩ := Src.at_obj a3; exact ⟨o, hs'.extBut _ _ d3 e⟩
        · obtain ⟨o, vs, e, _⟩ := Src.at_obj a4; exact ⟨o, hs'.extBut _ _ d4 e⟩
      · simp only [List.mem_cons, List.not_mem_nil, or_false, not_or] at hc
        exact hs'.extBut _ _ hc.1 (a7 c o hc.1 hc.2.2.1 hc.2.2.2.1 hc.2.2.2.2 e)
    refine ⟨.ref s.heap.objs.size, _, I2, rfl, ⟨s.heap.objs.size, I.fresh, rfl, fun xs' ys' w1 w2 x' y' e1 e2 => ?_⟩, ⟨⟨f1', fl', hf1, hz''⟩, hs'.extBut _ _ d1 hTI', ⟨_, _, hs'.extBut _ _ d2 a2⟩, Src.at_keep (fun o e => hs'.extBut _ o d3 e) a3, Src.at_keep (fun o e => hs'.extBut _ o d4 e) a4⟩, fun b hb => ?_⟩
    · have same : ∀ {S : Src} {us vs : List V}, S.its X.K H us → S.its X.K H vs → us = vs := fun {S us vs} p q => by
        cases S with
        | l a => exact I.list_inj p q
        | t a => exact I.tuple_inj p q
        | s z => rw [show us = _ from p, show vs = _ from q]
      have e3 := same w1 q1
      have e4 := same w2 q2
      subst e3; subst e4
      rw [List.getElem?_eq_getElem l1] at e1
      rw [List.getElem?_eq_getElem l2] at e2
      cases e1; cases e2
      rfl
    · rw [upd_ne (fun e => by
        obtain ⟨o, e1, _⟩ : ∃ o, s.heap.get? b = some o ∧ True := by
          simp only [List.mem_cons, List.not_mem_nil, or_false] at hb
          rcases hb with rfl | rfl | rfl | rfl | rfl
          · exact ⟨_, hz, trivial⟩
          · exact ⟨_, hTI, trivial⟩
          · exact ⟨_, hTO, trivial⟩
          · obtain ⟨o, vs, e, _⟩ := Src.at_obj h1; exact ⟨o, e, trivial⟩
          · obtain ⟨o, vs, e, _⟩ := Src.at_obj h2; exact ⟨o, e, trivial⟩
        exact lt e1 e.symm)]
      exact (hf b hb).1
  done := by
    intro X hP hw hK hc i pins s σ H E I hf st hg
    subst hP hw hK
    obtain ⟨⟨f0, fl, hf0, hz⟩, hTI, ⟨a, b', hTO⟩, h1, h2⟩ := st
    obtain ⟨xs, ys, q1, q2, l⟩ := hg
    obtain ⟨us1, r1, m1, f1⟩ := I.src q1
    obtain ⟨us2, r2, m2, f2⟩ := I.src q2
    have hfz := hf z (by simp)
    have D : ZipOff z TI TO i1 i2 S1 S2 := ⟨d1, d2, d3, d4, d5, d6, d7, d8, d9, d10, I.src_off hfz q1, I.src_off (hf TO (by simp)) q1, I.src_off (hf i1 (by simp)) q1, I.src_off (hf i2 (by simp)) q1,
      I.src_off hfz q2, I.src_off (hf TO (by simp)) q2, I.src_off (hf i1 (by simp)) q2, I.src_off (hf i2 (by simp)) q2⟩
    refine zip_stopN (I.ok.hd hc) D hf0 hz hTI hTO h1 h2 r1 r2 (by omega) fun h' tk hk => ⟨rfl, ?_⟩
    have kf : ∀ c o, c ∉ [z, TI, TO, i1, i2] → s.heap.get? c = some o → h'.get? c = some o := fun c o hc e => by
      simp only [List.mem_cons, List.not_mem_nil, or_false, not_or] at hc
      exact hk c o hc.1 hc.2.2.1 hc.2.2.2.1 hc.2.2.2.2 e
    have nfp : ∀ b u, H b = some u → b ∉ [z, TI, TO, i1, i2] := fun b u e hb => by rw [(hf b hb).1] at e; cases e
    refine I.step (g' := s.gens) (d' := s.drawn) (ch := [z, TI, TO, i1, i2]) (fun b hb => ⟨(hf b hb).2.2.2.1, (hf b hb).2.1, (hf b hb).2.2.2.2.1, (hf b hb).2.2.2.2.2⟩)
      (fun b ob _ _ hc e _ => kf b ob hc e) (fun b ob _ _ hc e _ => ⟨ob.slots, kf b ob hc e⟩) (fun b ob _ e n => n) (fun b ob hc e => ⟨ob, kf b ob hc e⟩)
      (fun b xs e => e) (fun b ob u e => e) (fun b ps e => ⟨#[], by rw [e]; simp⟩) (fun m hm => ?_) (fun b ub e => ?_) I.bare
    · obtain ⟨ob, es, ep, ho, r⟩ := hm
      exact ⟨ob, es, ep, kf _ ob (fun z => (hf _ z).2.1 rfl) ho, r⟩
    · refine (I.hok b ub e).stay (fun c w' hc q => kf c w' ?_ q) (fun c q => q) fun c xs q => q
      rcases hc with z' | z'
      · rw [z']; exact nfp b ub e
      · exact nfp c _ z'
  self := fun _ _ _ _ _ st h => by
    obtain ⟨⟨f0, fl, hf0, hz⟩, _⟩ := st
    exact iter_zipN hz h
theorem pi_zipN {X : Cx} {a b : Expr} {ta : TA} {p pos : Pos} {nm : Str} {tpos : Pos} (hg : Gl X "zip") (hm : X.mg "zip" = none) (ha : PA X [a, b] ta)
    (hs : starEach [a, b] X.env = [(false, eval a X.env), (false, eval b X.env)] := by rfl) (hs2 : starEach [b] X.env = [(false, eval b X.env)] := by rfl) :
    PI X (.Name nm tpos) (.Call (.Name "zip" p) [a, b] [] pos) (iZip X.K ta) := by
  intro pins s σ H R I h
  refine Call_ (ld_blt I hg hm boot_zip (PyProof.Rows.callWith_type1 (thn (ha pos pins s σ H _ I h) fun us s1 ⟨vs, H1, I1, r1, q1⟩ => ?_) (by rw [hs, hs2]) (by rw [hs2]; rfl)))
  obtain ⟨S1, S2, xs, ys, e, y1, y2, q⟩ := q1
  subst e
  obtain ⟨u1, u2, rfl, w1, w2⟩ := r1.two
  have vo : ∀ {S : Src} {u : Value}, RelV S.val u → ∃ tk, u = S.value tk := fun {S u} r => by
    cases S with
    | l a => exact ⟨0, r⟩
    | t a => exact ⟨0, r⟩
    | s z => obtain ⟨tk, e⟩ := r; exact ⟨tk, e⟩
  obtain ⟨t1, rfl⟩ := vo w1
  obtain ⟨t2, rfl⟩ := vo w2
  obtain ⟨us1, r1, m1, f1⟩ := I1.src y1
  obtain ⟨us2, r2, m2, f2⟩ := I1.src y2
  refine zip_call r1 r2 fun h' hz hTI hTO a1 a2 a3 hk => wpAny_pyIter_zip hz ?_
  have I2 : Inv X pins σ H1 { s1 with heap := h' } := I1.kept (t' := s1.toks) hk
  have n := s1.heap.objs.size
  refine ⟨_, _, _, _, H1, rfl, I2, turn_zipN (S1 := S1) (S2 := S2) (z := s1.heap.objs.size + 4) (TI := s1.heap.objs.size + 2) (TO := s1.heap.objs.size + 3) (i1 := s1.heap.objs.size) (i2 := s1.heap.objs.size + 1)
    (Nat.ne_of_lt (Nat.add_lt_add_left (by decide) _)) (Nat.ne_of_lt (Nat.add_lt_add_left (by decide) _)) (Nat.ne_of_lt (Nat.lt_add_of_pos_right (by decide))) (Nat.ne_of_lt (Nat.add_lt_add_left (by decide) _))
    (Nat.ne_of_lt (Nat.add_lt_add_left (by decide) _)) (Nat.ne_of_gt (Nat.lt_add_of_pos_right (by decide))) (Nat.ne_of_gt (Nat.add_lt_add_left (by decide) _)) (Nat.ne_of_gt (Nat.lt_add_of_pos_right (by decide)))
    (Nat.ne_of_gt (Nat.add_lt_add_left (by decide) _)) (Nat.ne_of_lt (Nat.lt_add_of_pos_right (by decide))), ⟨⟨_, _, .inl rfl, hz⟩, hTI, ⟨_, _, hTO⟩, a1, a2⟩, fun b hb => ?_, q⟩
  have hb' : s1.heap.objs.size ≤ b := by
    simp only [List.mem_cons, List.not_mem_nil, or_false] at hb
    rcases hb with rfl | rfl | rfl | rfl | rfl
    · exact Nat.le_add_right _ 4
    · exact Nat.le_add_right _ 2
    · exact Nat.le_add_right _ 3
    · exact Nat.le_refl _
    · exact Nat.le_add_right _ 1
  exact I1.fpOk hb' (I1.hok.fresh hb')
theorem iZN {X : Cx} (K : PySem.W.Frag) {a b : Expr} {ta : TA} {p pos : Pos} {nm : Str} {tpos : Pos} (hm : X.mg "zip" = none) (ha : PA X [a, b] ta) (hg : Gl X "zip" := by rfl) (hK : X.K = K := by rfl)
    (hs : starEach [a, b] X.env = [(false, eval a X.env), (false, eval b X.env)] := by rfl) (hs2 : starEach [b] X.env = [(false, eval b X.env)] := by rfl) :
    PI X (.Name nm tpos) (.Call (.Name "zip" p) [a, b] [] pos) (iZip K ta) := by subst hK; exact pi_zipN hg hm ha hs hs2
end L2
set_option Elab.async false
set_option linter.all false
set_option maxRecDepth 100000
namespace L2
open PySem PySem.Spec PyProof.Rows
theorem compTurn_two0 (elt t1 i1 t2 i2 : Expr) (scope : Scope) (pos : Pos) (it acc : Value) (env : Env) :
    compTurn (.ListComp elt [⟨t1, i1, [], 0⟩, ⟨t2, i2, [], 0⟩] scope pos) 0 it acc env = (do
      standAt i1.pos
      match ← pyNext it with
      | none => pure (.done .next)
      | some v =>
        letOwnedTupleGo t1 it v
        assign t1 env v
        let x ← eval i2 env
        standAt i2.pos
        let x ← foldedSetIterable i2 env x
        let _ ← runOwn (.compStart (.ListComp elt [⟨t1, i1, [], 0⟩, ⟨t2, i2, [], 0⟩] scope pos) 1 (← holding [x] (pyIter x)) acc env) env
        again (.compLoop (.ListComp elt [⟨t1, i1, [], 0⟩, ⟨t2, i2, [], 0⟩] scope pos) 0 it acc env)) := by rfl
theorem compTurn_two1 (elt t1 i1 t2 i2 : Expr) (scope : Scope) (pos : Pos) (it acc : Value) (env : Env) :
    compTurn (.ListComp elt [⟨t1, i1, [], 0⟩, ⟨t2, i2, [], 0⟩] scope pos) 1 it acc env = (do
      standAt i2.pos
      match ← pyNext it with
      | none => pure (.done .next)
      | some v =>
        letOwnedTupleGo t2 it v
        assign t2 env v
        (do let _ ← call (.builtin "list.append") [acc, ← eval elt env])
        again (.compLoop (.ListComp elt [⟨t1, i1, [], 0⟩, ⟨t2, i2, [], 0⟩] scope pos) 1 it acc env)) := by rfl
section
variable {prog : Program} {w : World} {A : Around} {R : Result → Shared → Prop} {s : Shared}
theorem compLoop_in {elt t1 i1 t2 i2 : Expr} {scope : Scope} {pos : Pos} {it acc : Value} {env : Env} {E : Value → Shared → Prop} (I : Nat → Shared → Prop)
    (hE : ∀ e s', E e s' → False)
    (turn : ∀ n s, I n s → wpAny (model prog w) A (pyNext it) (fun r s₁ => match r with
      | none => R (.ok .next) s₁
      | some v => wpAny (model prog w) A (letOwnedTupleGo t2 it v) (fun _ s₀ => wpAny (model prog w) A (assign t2 env v) (fun _ s₂ =>
          wpAny (model prog w) A (eval elt env) (fun x s₄ =>
              wpAny (model prog w) A (call (.builtin "list.append") [acc, x]) (fun _ s₅ => ∃ m, m < n ∧ I m s₅) E s₄) E s₂) E s₀) E s₁) E s)
    (n : Nat) (h : I n s) : codeAny (model prog w) A (.compLoop (.ListComp elt [⟨t1, i1, [], 0⟩, ⟨t2, i2, [], 0⟩] scope pos) 1 it acc env) R s := by
  have go : ∀ {α : Type} {t : Sem α} {Q : α → Shared → Prop} {s : Shared}, wpAny (model prog w) A t Q E s → wpAny (model prog w) A t Q (notedBy (model prog w) A env fun e s' => R (.error e) s') s :=
    fun {α t Q s} q => wpAny_mono q (fun _ _ z => z) fun e s' z => (hE e s' z).elim
  refine codeAny_loop rfl I (fun n s hI => ?_) n h
  show wpAny _ A ((compTurn (.ListComp elt [⟨t1, i1, [], 0⟩, ⟨t2, i2, [], 0⟩] scope pos) 1 it acc env).onRaise (fun x => do noteFrame x env; theTreesLotGoes x)) _ _ s
  refine wpAny_noted ?_
  rw [compTurn_two1]
  refine wpAny_bind (wpAny_standAt (wpAny_bind (thn (go (turn n s hI)) fun r s₁ h₁ => ?_)))
  cases r with
  | none => exact wpAny_pure h₁
  | some v =>
    refine wpAny_bind (thn (go h₁) fun _ s₀ h₀ => wpAny_bind (thn (go h₀) fun _ s₂ h₂ => ?_))
    exact wpAny_bind (wpAny_bind (thn (go h₂) fun x s₄ h₄ => wpAny_bind (thn (go h₄) fun _ s₅ h₅ => wpAny_pure (wpAny_pure ⟨rfl, h₅⟩))))
theorem compLoop_out {elt t1 i1 t2 i2 : Expr} {scope : Scope} {pos : Pos} {it acc : Value} {env : Env} {E : Value → Shared → Prop} (I : Nat → Shared → Prop)
    (hE : ∀ e s', E e s' → False) (hs : ∀ x, foldedSetIterable i2 env x = pure x)
    (turn : ∀ n s, I n s → wpAny (model prog w) A (pyNext it) (fun r s₁ => match r with
      | none => R (.ok .next) s₁
      | some v => wpAny (model prog w) A (letOwnedTupleGo t1 it v) (fun _ s₀ => wpAny (model prog w) A (assign t1 env v) (fun _ s₂ =>
          wpAny (model prog w) A (eval i2 env) (fun x s₃ => wpAny (model prog w) A (pyIter x) (fun it2 s₄ =>
              ∀ R2 : Result → Shared → Prop, (∀ s₅, (∃ m, m < n ∧ I m s₅) → R2 (.ok .next) s₅) → codeAny (model prog w) A (.compStart (.ListComp elt [⟨t1, i1, [], 0⟩, ⟨t2, i2, [], 0⟩] scope pos) 1 it2 acc env) R2 s₄) E s₃) E s₂) E s₀) E s₁) E s)
    (n : Nat) (h : I n s) : codeAny (model prog w) A (.compLoop (.ListComp elt [⟨t1, i1, [], 0⟩, ⟨t2, i2, [], 0⟩] scope pos) 0 it acc env) R s := by
  have go : ∀ {α : Type} {t : Sem α} {Q : α → Shared → Prop} {s : Shared}, wpAny (model prog w) A t Q E s → wpAny (model prog w) A t Q (notedBy (model prog w) A env fun e s' => R (.error e) s') s :=
    fun {α t Q s} q => wpAny_mono q (fun _ _ z => z) fun e s' z => (hE e s' z).elim
  refine codeAny_loop rfl I (fun n s hI => ?_) n h
  show wpAny _ A ((compTurn (.ListComp elt [⟨t1, i1, [], 0⟩, ⟨t2, i2, [], 0⟩] scope pos) 0 it acc env).onRaise (fun x => do noteFrame x env; theTreesLotGoes x)) _ _ s
  refine wpAny_noted ?_
  rw [compTurn_two0]
  refine wpAny_bind (wpAny_standAt (wpAny_bind (thn (go (turn n s hI)) fun r s₁ h₁ => ?_)))
  cases r with
  | none => exact wpAny_pure h₁
  | some v =>
    refine wpAny_bind (thn (go h₁) fun _ s₀ h₀ => wpAny_bind (thn (go h₀) fun _ s₂ h₂ => wpAny_bind (thn (go h₂) fun x s₃ h₃ => ?_)))
    refine wpAny_bind (wpAny_standAt (wpAny_bind (wpAny_of_eq (hs x) (wpAny_bind (wpAny_holding (thn (go h₃) fun it2 s₄ h₄ => ?_))))))
    refine wpAny_bind (wpAny_runOwn (h := none) ?_)
    exact h₄ _ fun s₅ h₅ => wpAny_pure ⟨rfl, h₅⟩
theorem compStart_in {elt t1 i1 t2 i2 : Expr} {scope : Scope} {pos : Pos} {it acc : Value} {env : Env}
    (h0 : codeAny (model prog w) A (.compLoop (.ListComp elt [⟨t1, i1, [], 0⟩, ⟨t2, i2, [], 0⟩] scope pos) 1 it acc env) R s)
    (h : wpAny (model prog w) A (pyIter it) (fun it' s' => codeAny (model prog w) A (.compLoop (.ListComp elt [⟨t1, i1, [], 0⟩, ⟨t2, i2, [], 0⟩] scope pos) 1 it' acc env) R s')
      (notedBy (model prog w) A env fun x s' => R (.error x) s') s) :
    codeAny (model prog w) A (.compStart (.ListComp elt [⟨t1, i1, [], 0⟩, ⟨t2, i2, [], 0⟩] scope pos) 1 it acc env) R s := by
  refine codeAny_of_tree ?_
  show wpAny _ _ ((compStart (.ListComp elt [⟨t1, i1, [], 0⟩, ⟨t2, i2, [], 0⟩] scope pos) 1 it acc env).onRaise (fun x => do noteFrame x env; standAt theWindowsPlace)) _ _ s
  refine wpAny_notedAt ?_
  unfold compStart
  show wpAny _ _ (ask >>= _) _ _ s
  refine wpAny_bind (wpAny_askSetting (wpAny_ite ?_))
  split
  · first
      | exact wpAny_bind (wpAny_pure (wpAny_pure (And.intro rfl h0)))
      | exact wpAny_pure (And.intro rfl h0)
  · first
      | exact wpAny_bind (wpAny_rule (wpAny_bind (wpAny_standAt (wpAny_bind (wpAny_mono h (fun it' s' h' => wpAny_pure (And.intro rfl h')) fun _ _ x => x)))))
      | (refine wpAny_bind (wpAny_rule ?_); show wpAny _ _ (standAt i2.pos >>= _) _ _ s; exact wpAny_bind (wpAny_standAt (wpAny_bind (wpAny_mono h (fun it' s' h' => wpAny_pure (And.intro rfl h')) fun _ _ x => x))))
end
def InnerGo (J : It) (D : Addr) (ys : List V) (σ : St) (H : Hp) (g : TG) (te : TE) (N : List V → St → Hp → Prop) : Prop :=
  ∃ W : Nat → Nat → List V → St → Hp → Prop, (∃ m, W 0 m ys σ H) ∧
    ∀ i m ys σ2 H2, W i m ys σ2 H2 → (J.stop i H2 ∧ N ys σ2 H2) ∨
      (J.go i H2 ∧ ∃ N2 : List V → St → Hp → Prop, (∀ ys' σ' H', N2 ys' σ' H' → ∃ m', m' < m ∧ W (i + 1) m' ys' σ' H') ∧ ∀ x H3, J.yld i H2 x H3 → g x σ2 H3 fun σ4 H4 =>
        te σ4 H4 fun y H6 => H6 D = some (.lst ys) ∧ ys.length < sizeLine ∧ N2 (ys ++ [y]) σ4 (upd H6 D (.lst (ys ++ [y]))))
def Comp2Go (J : It) (D : Addr) (k : Nat) (σ : St) (H1 : Hp) (g : TG) (wi2 : TI) (g2 : TG) (te : TE) (Q : VK) : Prop :=
  ∃ W : Nat → Nat → List V → St → Hp → Prop, (∃ m, W 0 m [] (σ ++ List.replicate k none) (upd H1 D (.lst []))) ∧
    ∀ i m ys σ2 H2, W i m ys σ2 H2 → (J.stop i H2 ∧ Q (.ref D) H2) ∨
      (J.go i H2 ∧ ∃ N : List V → St → Hp → Prop, (∀ ys' σ' H', N ys' σ' H' → ∃ m', m' < m ∧ W (i + 1) m' ys' σ' H') ∧ ∀ x H3, J.yld i H2 x H3 → g x σ2 H3 fun σ4 H4 => wi2 σ4 H4 fun J2 H5 => InnerGo J2 D ys σ4 H5 g2 te N)
def tComp2 (n : Nat) (wi : TI) (g : TG) (wi2 : TI) (g2 : TG) (te : TE) : TE := fun σ H Q => wi σ H fun J H1 => ∀ D, H1 D = none → Comp2Go J D n σ H1 g wi2 g2 te Q
section
variable {X : Cx} {N N' : List Str} {o c : Scope}
theorem comp_run2 {elt tg iter tg2 iter2 : Expr} {pos pos' : Pos} {wi wi2 : TI} {g g2 : TG} {te : TE} {use : Option (Value → Sem Unit)} {QQ : Value → Shared → Prop} (S : CompSc N N' o c) (hN : X.N = N) (ho : X.env.scope = o) (hc : X.calm = true)
    (hi : PI X tg iter wi) (hg : ∀ C s H fp, PG (compCx X c N' C s H fp) tg g) (hi2 : ∀ C s H fp, PI (compCx X c N' C s H fp) tg2 iter2 wi2) (hg2 : ∀ C s H fp, PG (compCx X c N' C s H fp) tg2 g2) (he : ∀ C s H fp, PE (compCx X c N' C s H fp) elt te)
    (hs : ∀ x, foldedSetIterable iter X.env x = pure x) (hs2 : ∀ C s H fp x, foldedSetIterable iter2 (compCx X c N' C s H fp).env x = pure x) {pins : List (Addr × Obj)} {s : Shared} {σ : St} {H : Hp} {Q : VK} (I : Inv X pins σ H s) (h : tComp2 (N'.length - N.length) wi g wi2 g2 te σ H Q)
    (post : ∀ (D C : Addr) (s5 : Shared) (H5 : Hp) (m : Str → Option Value), Inv X pins σ H5 s5 → H5 C = none → s5.heap.Ns C m → C ≠ X.env.locals → X.s₀.heap.objs.size ≤ C → (∀ x a, X.env.cells.lookup x = some a → a ≠ C) → (∀ p ∈ X.pn ++ pins, p.1 ≠ C) →
      Q (.ref D) H5 → compPost (model X.prog X.w) X.A X.xe use QQ (.ref D) C (.ok .next) s5) :
    wpAny (model X.prog X.w) X.A (comprehension (.ListComp elt [⟨tg, iter, [], 0⟩, ⟨tg2, iter2, [], 0⟩] c pos) c X.env pos' (newList []) false (eval iter X.env) use) QQ X.xe s := by
  have hclos : closureFor c X.env = pure (clOf X.env.cells c.names []) := closureFor_of fun y hy hf => by
    refine I.ok.has y.1 ?_
    show X.env.scope.names.lookup y.1 = _ ∨ X.env.scope.names.lookup y.1 = _
    rw [ho]; exact (S.free y hy hf).2
  refine wpAny_comprehension_free (use := use) rfl hs hclos S.kind S.loc (thn (hi pins s σ H _ I h) fun v s1 h1 => thn h1 fun itv s2 h2 => ?_)
  obtain ⟨it, fp, tn, J, H2, e, I2, T, st2, f2, hR⟩ := h2
  subst e
  have hD : H2 s2.heap.objs.size = none := I2.fresh
  have I3 : Inv X pins σ (upd H2 s2.heap.objs.size (.lst [])) { s2 with heap := s2.heap.push { cls := .type "list", data := .seq ([] : List Value).toArray } } :=
    I2.lnew (ys := []) (its := []) (t' := s2.toks) .nil (Nat.zero_le _)
  have fpl : ∀ b ∈ fp, b < s2.heap.objs.size := fun b hb => by
    obtain ⟨ob, e, _⟩ := T.obj 0 _ st2 b hb
    exact Heap.lt_size e
  refine wpAny_newObj_type (wpAny_newFunctionEnv S.nocell (by intro y hy; simp at hy) (fun h₁ hns₁ hsb₁ => ?_) S.kind)
  have e3 : ∃ s3 : Shared, s3 = { s2 with heap := s2.heap.push { cls := .type "list", data := .seq ([] : List Value).toArray } } := ⟨_, rfl⟩
  obtain ⟨s3, hs3⟩ := e3
  have e3 : s3.heap = s2.heap.push { cls := .type "list", data := .seq ([] : List Value).toArray } := by rw [hs3]
  have sz3 : s3.heap.objs.size = s2.heap.objs.size + 1 := by rw [e3, Heap.size_push]
  have fpl3 : ∀ b ∈ fp, b < s3.heap.objs.size := fun b hb => Nat.lt_of_lt_of_le (fpl b hb) (by rw [sz3]; exact Nat.le_succ _)
  have f3 : ∀ b ∈ fp, FpOk X pins (upd H2 s2.heap.objs.size (.lst [])) b := fun b hb => ⟨by rw [upd_ne (Nat.ne_of_lt (fpl b hb))]; exact (f2 b hb).1, (f2 b hb).2⟩
  have st3 : tn 0 s3.heap := T.keep 0 _ _ st2 fun b _ ob e => by rw [e3]; exact Heap.get?_push_of_some _ e
  rw [← hs3] at I3
  show codeAny (model X.prog X.w) X.A (.compStart _ 0 (.ref it) (.ref s2.heap.objs.size) (compEnvC c (clOf X.env.cells c.names []) (s2.heap.push { cls := .type "list", data := .seq ([] : List Value).toArray }).objs.size X.env))
    (compPost (model X.prog X.w) X.A X.xe use QQ (.ref s2.heap.objs.size) (s2.heap.push { cls := .type "list", data := .seq ([] : List Value).toArray }).objs.size)
    { s2 with heap := h₁, toks := s2.toks + ([] : List (Str × Value)).length }
  have hns : h₁.Ns s3.heap.objs.size (fun x => ([] : List (Str × Value)).reverse.lookup x) := by rw [e3]; exact hns₁
  have hk1 : ∀ b ob, s3.heap.get? b = some ob → h₁.get? b = some ob := fun b ob e => by
    rw [e3] at e
    exact hsb₁.extBut b ob (Nat.ne_of_lt (Heap.lt_size e)) (Heap.get?_push_of_some _ e)
  rw [← e3]
  have es4 : ({ s2 with heap := h₁, toks := s2.toks + ([] : List (Str × Value)).length } : Shared) = { s3 with heap := h₁, toks := s2.toks } := by rw [hs3]; rfl
  rw [es4]
  obtain ⟨W, ⟨m0, w0⟩, turn⟩ := hR s2.heap.objs.size hD
  have I4 := comp_inv (tk := s2.toks) S hN ho I3 f3 fpl3 hns hk1
  have st4 : tn 0 h₁ := T.keep 0 _ _ st3 fun b _ ob e => hk1 b ob e
  generalize hX : compCx X c N' s3.heap.objs.size s3 (upd H2 s2.heap.objs.size (.lst [])) fp = Y at I4
  have Yp : Y.prog = X.prog := by rw [← hX]; rfl
  have Yw : Y.w = X.w := by rw [← hX]; rfl
  have YK : Y.K = X.K := by rw [← hX]; rfl
  have Yc : Y.calm = true := by rw [← hX]; exact hc
  have YA : Y.A = X.A := by rw [← hX]; rfl
  have Yenv : Y.env = compEnvC c (clOf X.env.cells c.names []) s3.heap.objs.size X.env := by rw [← hX]; rfl
  have Yl : Y.env.locals = s3.heap.objs.size := by rw [Yenv]; rfl
  have Yxe : Y.xe = fun _ _ => False := by rw [← hX]; rfl
  have hg' := hg s3.heap.objs.size s3 (upd H2 s2.heap.objs.size (.lst [])) fp
  have hi2' := hi2 s3.heap.objs.size s3 (upd H2 s2.heap.objs.size (.lst [])) fp
  have hg2' := hg2 s3.heap.objs.size s3 (upd H2 s2.heap.objs.size (.lst [])) fp
  have hs2' := hs2 s3.heap.objs.size s3 (upd H2 s2.heap.objs.size (.lst [])) fp
  have he' := he s3.heap.objs.size s3 (upd H2 s2.heap.objs.size (.lst [])) fp
  rw [hX] at hg' hi2' hg2' hs2' he'
  have stat : ∀ {H' : Hp}, (∀ b ∈ fp, H' b = none) → ∀ b ∈ fp, FpOk Y [] H' b := fun {H'} hn b hb => by
    obtain ⟨_, q1, q2, q3, q4, _⟩ := f3 b hb
    have z1 := I4.ok.exf b (by rw [← hX]; exact hb)
    refine ⟨hn b hb, z1.1, I4.ok.exfs b (by rw [← hX]; exact hb), .inl (by rw [← hX]; exact hb), z1.2, fun p hp => ?_⟩
    have hp' : p ∈ ([] : List (Addr × Obj)) := by
      have : Y.pn = [] := by rw [← hX]; rfl
      rw [this] at hp; exact hp
    cases hp'
  have fin : ∀ (s5 : Shared) (σ5 : St) (H5 : Hp), Inv Y [] σ5 H5 s5 → Q (.ref s2.heap.objs.size) H5 → compPost (model X.prog X.w) X.A X.xe use QQ (.ref s2.heap.objs.size) s3.heap.objs.size (.ok .next) s5 := fun s5 σ5 H5 I5 q => by
    obtain ⟨m, hn, _⟩ := id I5.loc
    rw [Yl] at hn
    have hCn : H5 s3.heap.objs.size = none := by have := I5.free; rw [Yl] at this; exact this
    have un : Un (frs X.stack) fp (upd H2 s2.heap.objs.size (.lst [])) H5 s3.heap s5.heap := by
      have := I5.base
      rw [← hX] at this
      exact this
    have os5 : s5.os = s3.os := by have := I5.os; rw [← hX] at this; exact this
    have hok5 : HOk X.prog X.w H5 s5.heap := by
      have := I5.hok
      rw [Yp, Yw] at this
      exact this
    refine post _ _ s5 H5 m (I3.call' (s' := s5) (ch := fp) os5 un hok5 I5.bare fun b hb => ?_) hCn hn (Nat.ne_of_gt I3.lt) I3.sz (fun x a e => ?_) (fun p hp => ?_) q
    · obtain ⟨_, q1, _, q3, q4, q5⟩ := f3 b hb
      exact ⟨q3, q1, q4, q5⟩
    · obtain ⟨v, ob, e', _⟩ := I3.cell x a e
      exact Nat.ne_of_lt (Heap.lt_size e')
    · exact Nat.ne_of_lt (Heap.lt_size (I3.pin p hp).1)
  have loop : codeAny (model X.prog X.w) X.A (.compLoop (.ListComp elt [⟨tg, iter, [], 0⟩, ⟨tg2, iter2, [], 0⟩] c pos) 0 (.ref it) (.ref s2.heap.objs.size) (compEnvC c (clOf X.env.cells c.names []) s3.heap.objs.size X.env))
      (compPost (model X.prog X.w) X.A X.xe use QQ (.ref s2.heap.objs.size) s3.heap.objs.size) { s3 with heap := h₁, toks := s2.toks } := by
    rw [← Yenv, ← YA]
    refine compLoop_out (E := fun _ _ => False) (fun n s' => ∃ i ys σ' H', Inv Y [] σ' H' s' ∧ tn i s'.heap ∧ (∀ b ∈ fp, H' b = none) ∧ W i n ys σ' H') (fun _ _ z => z) hs2' ?_ m0
      ⟨0, [], _, _, I4, st4, fun b hb => (f3 b hb).1, ?_⟩
    · rintro n s5 ⟨i, ys, σ5, H5, I5, st5, fr5, w5⟩
      rcases turn i n ys σ5 H5 w5 with ⟨stop, qn⟩ | ⟨go, Nn, hNn, step⟩
      · refine thn (T.done Y Yp Yw YK Yc i [] s5 σ5 H5 _ I5 (stat fr5) st5 stop) fun r s6 ⟨hr, I6⟩ => ?_
        subst hr
        have fq := fin s6 σ5 H5 I6 qn
        rw [← YA] at fq
        exact fq
      · refine thn (T.item Y Yp Yw YK Yc i [] s5 σ5 H5 _ I5 (stat fr5) st5 go) fun r s6 ⟨u, hr, h6⟩ => ?_
        subst hr
        refine thn h6 fun _ s7 ⟨x, H7, I7, r7, y7, st7, fr7⟩ => ?_
        have I7' := I7.pinned (stat fr7) (T.obj _ _ st7)
        have back : ∀ {σ9 : St} {H9 : Hp} {s9 : Shared}, Inv Y ([] ++ pinsAt fp s7.heap) σ9 H9 s9 → Inv Y [] σ9 H9 s9 ∧ tn (i + 1) s9.heap ∧ ∀ b ∈ fp, H9 b = none := fun {σ9 H9 s9} I9 => by
          refine ⟨I9.unpinned, T.keep _ _ _ st7 fun b hb ob e => (I9.pin (b, ob) (List.mem_append_right _ (List.mem_append_right _ (mem_pinsAt hb e)))).1, fun b hb => ?_⟩
          obtain ⟨ob, e, d⟩ := T.obj _ _ st7 b hb
          exact (I9.pin (b, ob) (List.mem_append_right _ (List.mem_append_right _ (mem_pinsAt hb e)))).2.1
        have P1 := hg' _ s7 σ5 H7 x u _ I7' r7 (step x H7 y7)
        rw [Yp, Yw, Yxe] at P1
        refine thn P1 fun _ s8 ⟨σ8, H8, I8, q8⟩ => ?_
        have P2 := hi2' _ s8 σ8 H8 _ I8 q8
        rw [Yp, Yw, Yxe] at P2
        refine thn P2 fun v2 s9 h9 => thn h9 fun itv2 s10 h10 => ?_
        obtain ⟨it2, fp2, tn2, J2, H10, e10, I10, T2, st10, f10, W2, ⟨m2, w2⟩, turn2⟩ := h10
        subst e10
        intro R2 hR2
        rw [Yp, Yw, YK] at T2
        have stat2 : ∀ {H' : Hp}, (∀ b ∈ fp2, H' b = none) → ∀ b ∈ fp2, FpOk Y ([] ++ pinsAt fp s7.heap) H' b := fun hn b hb => ⟨hn b hb, (f10 b hb).2⟩
        have loop2 : codeAny (model X.prog X.w) Y.A (.compLoop (.ListComp elt [⟨tg, iter, [], 0⟩, ⟨tg2, iter2, [], 0⟩] c pos) 1 (.ref it2) (.ref s2.heap.objs.size) Y.env) R2 s10 := by
          refine compLoop_in (E := fun _ _ => False) (fun n' s' => ∃ i' ys' σ' H', Inv Y ([] ++ pinsAt fp s7.heap) σ' H' s' ∧ tn2 i' s'.heap ∧ (∀ b ∈ fp2, H' b = none) ∧ W2 i' n' ys' σ' H') (fun _ _ z => z) ?_ m2
            ⟨0, ys, σ8, H10, I10, st10, fun b hb => (f10 b hb).1, w2⟩
          rintro n' s11 ⟨i', ys', σ11, H11, I11, st11, fr11, w11⟩
          rcases turn2 i' n' ys' σ11 H11 w11 with ⟨stop2, qn2⟩ | ⟨go2, Nn2, hNn2, step2⟩
          · refine thn (T2.done Y Yp Yw YK Yc i' _ s11 σ11 H11 _ I11 (stat2 fr11) st11 stop2) fun r s12 ⟨hr, I12⟩ => ?_
            subst hr
            obtain ⟨b1, b2, b3⟩ := back I12
            obtain ⟨m', hm', w12⟩ := hNn _ _ _ qn2
            exact hR2 s12 ⟨m', hm', i + 1, ys', σ11, H11, b1, b2, b3, w12⟩
          · refine thn (T2.item Y Yp Yw YK Yc i' _ s11 σ11 H11 _ I11 (stat2 fr11) st11 go2) fun r s12 ⟨u2, hr, h12⟩ => ?_
            subst hr
            refine thn h12 fun _ s13 ⟨x2, H13, I13, r13, y13, st13, fr13⟩ => ?_
            have I13' := I13.pinned (stat2 fr13) (T2.obj _ _ st13)
            have back2 : ∀ {σ9 : St} {H9 : Hp} {s9 : Shared}, Inv Y (([] ++ pinsAt fp s7.heap) ++ pinsAt fp2 s13.heap) σ9 H9 s9 → Inv Y ([] ++ pinsAt fp s7.heap) σ9 H9 s9 ∧ tn2 (i' + 1) s9.heap ∧ ∀ b ∈ fp2, H9 b = none := fun {σ9 H9 s9} I9 => by
              refine ⟨I9.unpinned, T2.keep _ _ _ st13 fun b hb ob e => (I9.pin (b, ob) (List.mem_append_right _ (List.mem_append_right _ (mem_pinsAt hb e)))).1, fun b hb => ?_⟩
              obtain ⟨ob, e, d⟩ := T2.obj _ _ st13 b hb
              exact (I9.pin (b, ob) (List.mem_append_right _ (List.mem_append_right _ (mem_pinsAt hb e)))).2.1
            have P5 := hg2' _ s13 σ11 H13 x2 u2 _ I13' r13 (step2 x2 H13 y13)
            rw [Yp, Yw, Yxe] at P5
            refine thn P5 fun _ s14 ⟨σ14, H14, I14, q14⟩ => ?_
            have P3 := he' _ s14 σ14 H14 _ I14 q14
            rw [Yp, Yw, Yxe] at P3
            refine thn P3 fun y s15 ⟨vy, H15, I15, r15, hDl, hsz, q15⟩ => ?_
            have P4 := mt_append (X := Y) _ s15 σ14 H15 (.ref s2.heap.objs.size) [vy] (.ref s2.heap.objs.size) [y] (fun _ H' => Nn2 (ys' ++ [vy]) σ14 H') I15 rfl (.cons r15 .nil) ⟨_, ys', vy, rfl, rfl, hDl, hsz, q15⟩
            rw [Yp, Yw, Yxe] at P4
            refine thn P4 fun _ s16 ⟨_, H16, I16, _, q16⟩ => ?_
            obtain ⟨b1, b2, b3⟩ := back2 I16
            obtain ⟨m', hm', w16⟩ := hNn2 _ _ _ q16
            exact ⟨m', hm', i' + 1, ys' ++ [vy], σ14, H16, b1, b2, b3, w16⟩
        have lp2 := T2.self Y.A 0 s10 (fun it' s' => codeAny (model X.prog X.w) Y.A (.compLoop (.ListComp elt [⟨tg, iter, [], 0⟩, ⟨tg2, iter2, [], 0⟩] c pos) 1 it' (.ref s2.heap.objs.size) Y.env) R2 s') (fun _ _ => False) st10 loop2
        exact compStart_in loop2 (wpAny_mono lp2 (fun _ _ z => z) fun _ _ z => z.elim)
    · exact w0
  have lp := T.self X.A 0 { s3 with heap := h₁, toks := s2.toks } (fun it' s' => codeAny (model X.prog X.w) X.A (.compLoop (.ListComp elt [⟨tg, iter, [], 0⟩, ⟨tg2, iter2, [], 0⟩] c pos) 0 it' (.ref s2.heap.objs.size) (compEnvC c (clOf X.env.cells c.names []) s3.heap.objs.size X.env))
      (compPost (model X.prog X.w) X.A X.xe use QQ (.ref s2.heap.objs.size) s3.heap.objs.size) s') (fun _ _ => False) st4 loop
  exact codeAny_compStart_list loop (wpAny_mono lp (fun _ _ z => z) fun _ _ z => z.elim)
theorem pe_comp2 {elt tg iter tg2 iter2 : Expr} {pos : Pos} {wi wi2 : TI} {g g2 : TG} {te : TE} (S : CompSc N N' o c) (hN : X.N = N) (ho : X.env.scope = o) (hc : X.calm = true)
    (hi : PI X tg iter wi) (hg : ∀ C s H fp, PG (compCx X c N' C s H fp) tg g) (hi2 : ∀ C s H fp, PI (compCx X c N' C s H fp) tg2 iter2 wi2) (hg2 : ∀ C s H fp, PG (compCx X c N' C s H fp) tg2 g2) (he : ∀ C s H fp, PE (compCx X c N' C s H fp) elt te)
    (hs : ∀ x, foldedSetIterable iter X.env x = pure x := by intro _; rfl) (hs2 : ∀ C s H fp x, foldedSetIterable iter2 (compCx X c N' C s H fp).env x = pure x := by intro _ _ _ _ _; rfl) :
    PE X (.ListComp elt [⟨tg, iter, [], 0⟩, ⟨tg2, iter2, [], 0⟩] c pos) (tComp2 (N'.length - N.length) wi g wi2 g2 te) := by
  intro pins s σ H Q I h
  rw [eval_ListComp]
  refine comp_run2 (use := none) S hN ho hc hi hg hi2 hg2 he hs hs2 I h fun D C s5 H5 m I5 hCn hn n1 n2 n3 n4 q => ⟨m, hn, fun h' hsb => ?_⟩
  exact ⟨.ref D, H5, I5.let hCn n1 n2 n3 n4 hsb, rfl, q⟩
end
end L2
set_option Elab.async false
set_option linter.all false
set_option maxRecDepth 100000
namespace L2
open PySem PySem.Spec PyProof.Rows
theorem comp2_range {lo : Int} {n k : Nat} {D : Addr} {σ : St} {H1 : Hp} {g : TG} {wi2 : TI} {g2 : TG} {te : TE} {Q : VK} (Pv : Nat → List V → St → Hp → Prop) (h0 : Pv 0 [] (σ ++ List.replicate k none) (upd H1 D (.lst [])))
    (hs : ∀ i ys σ H, i < n → Pv i ys σ H → g (.int (lo + i)) σ H fun σ4 H4 => wi2 σ4 H4 fun J2 H5 => InnerGo J2 D ys σ4 H5 g2 te (Pv (i + 1)))
    (hd : ∀ ys σ H, Pv n ys σ H → Q (.ref D) H) : Comp2Go (Itr lo n) D k σ H1 g wi2 g2 te Q := by
  refine ⟨fun i m ys σ H => m = n - i ∧ i ≤ n ∧ Pv i ys σ H, ⟨n, by simp, Nat.zero_le _, h0⟩, ?_⟩
  rintro i m ys σ H ⟨rfl, hi, p⟩
  by_cases hlt : i < n
  · refine .inr ⟨hlt, Pv (i + 1), fun ys' σ' H' p' => ⟨n - (i + 1), by omega, rfl, hlt, p'⟩, fun x H' y => ?_⟩
    obtain ⟨rfl, rfl⟩ := y
    exact hs i ys σ _ hlt p
  · have e : i = n := by omega
    exact .inl ⟨Nat.le_of_not_lt hlt, hd ys σ H (e ▸ p)⟩
theorem inner_range {lo : Int} {n : Nat} {D : Addr} {ys : List V} {σ : St} {H : Hp} {g2 : TG} {te : TE} {N : List V → St → Hp → Prop} (Pv : Nat → List V → St → Hp → Prop) (h0 : Pv 0 ys σ H)
    (hs : ∀ i ys σ H, i < n → Pv i ys σ H → g2 (.int (lo + i)) σ H fun σ4 H4 => te σ4 H4 fun y H6 => H6 D = some (.lst ys) ∧ ys.length < sizeLine ∧ Pv (i + 1) (ys ++ [y]) σ4 (upd H6 D (.lst (ys ++ [y]))))
    (hd : ∀ ys σ H, Pv n ys σ H → N ys σ H) : InnerGo (Itr lo n) D ys σ H g2 te N := by
  refine ⟨fun i m ys σ H => m = n - i ∧ i ≤ n ∧ Pv i ys σ H, ⟨n, by simp, Nat.zero_le _, h0⟩, ?_⟩
  rintro i m ys σ H ⟨rfl, hi, p⟩
  by_cases hlt : i < n
  · refine .inr ⟨hlt, Pv (i + 1), fun ys' σ' H' p' => ⟨n - (i + 1), by omega, rfl, hlt, p'⟩, fun x H' y => ?_⟩
    obtain ⟨rfl, rfl⟩ := y
    exact hs i ys σ _ hlt p
  · have e : i = n := by omega
    exact .inl ⟨Nat.le_of_not_lt hlt, hd ys σ H (e ▸ p)⟩
end L2
set_option Elab.async false
set_option linter.all false
namespace Hf
open L2
abbrev PW := List (Int × Nat)
def val (P : PW) : Int := (P.map fun p => p.1 * (p.2 : Int)).sum
def ws (P : PW) : List Int := P.map (·.1)
def ds (P : PW) : List Nat := P.map (·.2)
def zs (z : Nat) : List Int := List.replicate z 0
def kr (w E : Nat) (D : List Nat) : Nat := (D.map fun d => w ^ (E - d)).sum
def Kr (w : Nat) (D : List Nat) : Prop := ∃ E, (∀ d ∈ D, d ≤ E) ∧ kr w E D = w ^ E
inductive Hu (w : Nat) : List Int → Nat → Int → Prop
  | stop {e : Int} {m : Nat} : Hu w [e] m 0
  | step {E L : List Int} {m : Nat} {C : Int} : 1 < L.length → E.Perm L → L.Pairwise (· ≤ ·) → Hu w (L.drop m ++ [(L.take m).sum]) w C → Hu w E m (C + (L.take m).sum)
def Fit (w n m : Nat) : Prop := n = 1 ∨ ∃ t, n = m + t * (w - 1)
structure Fits (w n m : Nat) : Prop where
  w2 : 2 ≤ w
  m2 : 2 ≤ m
  mw : m ≤ w
  ok : Fit w n m
end Hf
set_option Elab.async false
set_option linter.all false
set_option maxRecDepth 100000
namespace L2
open PySem PySem.Spec PyProof.Rows
section
variable {prog : Program} {w : World} {A : Around} {R : Result → Shared → Prop} {s : Shared}
theorem compLoop_anyD {kx vx target iter : Expr} {ifs : List Expr} {scope : Scope} {pos : Pos} {it : Value} {D : Addr} {env : Env} {E : Value → Shared → Prop} (I : Nat → Shared → Prop)
    (hE : ∀ e s', E e s' → False)
    (turn : ∀ n s, I n s → wpAny (model prog w) A (pyNext it) (fun r s₁ => match r with
      | none => R (.ok .next) s₁
      | some v => wpAny (model prog w) A (letOwnedTupleGo target it v) (fun _ s₀ => wpAny (model prog w) A (assign target env v) (fun _ s₂ =>
          wpAny (model prog w) A (testsOf ifs env) (fun ok s₃ =>
            if ok = true then wpAny (model prog w) A (eval kx env) (fun kv s₄ => wpAny (model prog w) A (eval vx env) (fun vv s₅ =>
              wpAny (model prog w) A (dictSet D kv vv) (fun _ s₆ => ∃ m, m < n ∧ I m s₆) E s₅) E s₄) E s₃
            else ∃ m, m < n ∧ I m s₃) E s₂) E s₀) E s₁) E s)
    (n : Nat) (h : I n s) : codeAny (model prog w) A (.compLoop (.DictComp kx vx [⟨target, iter, ifs, 0⟩] scope pos) 0 it (.ref D) env) R s := by
  have go : ∀ {α : Type} {t : Sem α} {Q : α → Shared → Prop} {s : Shared}, wpAny (model prog w) A t Q E s → wpAny (model prog w) A t Q (notedBy (model prog w) A env fun e s' => R (.error e) s') s :=
    fun {α t Q s} q => wpAny_mono q (fun _ _ z => z) fun e s' z => (hE e s' z).elim
  refine codeAny_loop rfl I (fun n s hI => ?_) n h
  show wpAny _ A ((compTurn (.DictComp kx vx [⟨target, iter, ifs, 0⟩] scope pos) 0 it (.ref D) env).onRaise (fun x => do noteFrame x env; theTreesLotGoes x)) _ _ s
  refine wpAny_noted ?_
  rw [compTurn_dict]
  refine wpAny_bind (wpAny_standAt (wpAny_bind (thn (go (turn n s hI)) fun r s₁ h₁ => ?_)))
  cases r with
  | none => exact wpAny_pure h₁
  | some v =>
    refine wpAny_bind (thn (go h₁) fun _ s₀ h₀ => wpAny_bind (thn (go h₀) fun _ s₂ h₂ => wpAny_bind (thn (go h₂) fun ok s₃ h₃ => ?_)))
    cases ok with
    | false => exact wpAny_pure ⟨rfl, h₃⟩
    | true =>
      exact wpAny_bind (wpAny_bind (thn (go h₃) fun kv s₄ h₄ => wpAny_bind (wpAny_holding (thn (go h₄) fun vv s₅ h₅ => wpAny_bind (wpAny_standAt (wpAny_holding (thn (go h₅) fun _ s₆ h₆ => wpAny_pure ⟨rfl, h₆⟩)))))))
end
theorem dset_dT {X : Cx} (hu : X.A.units + 64 < cLine) {pins : List (Addr × Obj)} {s : Shared} {σ : St} {H : Hp} {d b : Addr} {kvs : List (List Key × V)} {ks : List Key} {v : V} {u : Value} {Q : Hp → Prop} (I : Inv X pins σ H s) (hH : H d = some (.dT kvs)) (hb : H b = some (.tup (ks.map kV))) (hk : lookK kvs ks = none) (hz : kvs.length < sizeLine) (rv : RelV v u)
    (q : Q (upd H d (.dT (kvs ++ [(ks, v)])))) : wpAny (model X.prog X.w) X.A (dictSet d (.ref b) u) (fun _ s' => ∃ H', Inv X pins σ H' s' ∧ Q H') X.xe s := by
  obtain ⟨_, hd, xs, rel, o, es, ep, ho, hex, hdat, hent, hnd⟩ := (show ObjOk X.prog X.w H s.heap d (.dT kvs) from I.hok d _ hH)
  have hm : s.heap.DictOfH (tupleKind (mixKind X.prog X.w)) d xs := ⟨o, es, ep, ho, hex, hdat, hent, pair_all (R := fun ks b => (tupleKind (mixKind X.prog X.w)).is s.heap ks b) (fun ks b e => I.tkey e) rel, hnd⟩
  have hl := pair_len rel
  have hno := look_no rel hk
  refine wpAny_dictSet_heap (knd := tupleKind (mixKind X.prog X.w)) (k := ks) (by show X.A.units < cLine; omega) (I.tkey hb) hm (fun h' hm' hs => ?_) (by omega)
  rw [storedH_new hno] at hm'
  obtain ⟨o', es', ep', g1, g2, g3, g4, _, g5⟩ := hm'
  refine ⟨_, ?_, q⟩
  refine I.write (x := d) (e := d) (by rw [hH]; exact True.intro) (.inl rfl) (fun c q hc z => (hs.2 c hc).trans z) ⟨o', g1⟩ ?_
  refine ⟨by rw [List.length_append, List.length_singleton]; omega, hd, xs ++ [(ks, b, u)], ?_, o', es', ep', g1, g2, g3, g4, g5⟩
  refine pair_keep (fun c ys ec => ?_) (pair_snoc rel ⟨rfl, hb, rv⟩)
  rw [upd_ne (ne_of ec hH (fun z => nomatch z))]
  exact ec
def DictGo (J : It) (D : Addr) (k : Nat) (σ : St) (H1 : Hp) (g : TG) (tc : TT) (tk te : TE) (Q : VK) : Prop :=
  ∃ W : Nat → Nat → List (List Key × V) → St → Hp → Prop, (∃ m, W 0 m [] (σ ++ List.replicate k none) (upd H1 D (.dT []))) ∧
    ∀ i m ys σ2 H2, W i m ys σ2 H2 → (J.stop i H2 ∧ Q (.ref D) H2) ∨
      (J.go i H2 ∧ ∃ N : List (List Key × V) → St → Hp → Prop, (∀ ys' σ' H', N ys' σ' H' → ∃ m', m' < m ∧ W (i + 1) m' ys' σ' H') ∧ ∀ x H3, J.yld i H2 x H3 → g x σ2 H3 fun σ4 H4 => tc σ4 H4 fun b H5 =>
        if b = true then tk σ4 H5 fun kv H6 => te σ4 H6 fun y H7 => ∃ (b : Addr) (ks : List Key), kv = .ref b ∧ H7 D = some (.dT ys) ∧ H7 b = some (.tup (ks.map kV)) ∧ lookK ys ks = none ∧ ys.length < sizeLine ∧ N (ys ++ [(ks, y)]) σ4 (upd H7 D (.dT (ys ++ [(ks, y)]))) else N ys σ4 H5)
def tDComp (n : Nat) (wi : TI) (g : TG) (tc : TT) (tk te : TE) : TE := fun σ H Q => wi σ H fun J H1 => ∀ D, H1 D = none → DictGo J D n σ H1 g tc tk te Q
section
variable {X : Cx} {N N' : List Str} {o c : Scope}
theorem comp_runD {kx vx tg iter : Expr} {ifs : List Expr} {pos pos' : Pos} {wi : TI} {g : TG} {tc : TT} {tk te : TE} {use : Option (Value → Sem Unit)} {QQ : Value → Shared → Prop} (S : CompSc N N' o c) (hN : X.N = N) (ho : X.env.scope = o) (hc : X.calm = true)
    (hi : PI X tg iter wi) (hg : ∀ C s H fp, PG (compCx X c N' C s H fp) tg g) (ht : ∀ C s H fp, PTs (compCx X c N' C s H fp) ifs tc) (hk : ∀ C s H fp, PE (compCx X c N' C s H fp) kx tk) (he : ∀ C s H fp, PE (compCx X c N' C s H fp) vx te) (hu : X.A.units + 64 < cLine)
    (hs : ∀ x, foldedSetIterable iter X.env x = pure x) {pins : List (Addr × Obj)} {s : Shared} {σ : St} {H : Hp} {Q : VK} (I : Inv X pins σ H s) (h : tDComp (N'.length - N.length) wi g tc tk te σ H Q)
    (post : ∀ (D C : Addr) (s5 : Shared) (H5 : Hp) (m : Str → Option Value), Inv X pins σ H5 s5 → H5 C = none → s5.heap.Ns C m → C ≠ X.env.locals → X.s₀.heap.objs.size ≤ C → (∀ x a, X.env.cells.lookup x = some a → a ≠ C) → (∀ p ∈ X.pn ++ pins, p.1 ≠ C) →
      Q (.ref D) H5 → compPost (model X.prog X.w) X.A X.xe use QQ (.ref D) C (.ok .next) s5) :
    wpAny (model X.prog X.w) X.A (comprehension (.DictComp kx vx [⟨tg, iter, ifs, 0⟩] c pos) c X.env pos' newDict false (eval iter X.env) use) QQ X.xe s := by
  have hclos : closureFor c X.env = pure (clOf X.env.cells c.names []) := closureFor_of fun y hy hf => by
    refine I.ok.has y.1 ?_
    show X.env.scope.names.lookup y.1 = _ ∨ X.env.scope.names.lookup y.1 = _
    rw [ho]; exact (S.free y hy hf).2
  refine wpAny_comprehension_free (use := use) rfl hs hclos S.kind S.loc (thn (hi pins s σ H _ I h) fun v s1 h1 => thn h1 fun itv s2 h2 => ?_)
  obtain ⟨it, fp, tn, J, H2, e, I2, T, st2, f2, hR⟩ := h2
  subst e
  have hD : H2 s2.heap.objs.size = none := I2.fresh
  have I3 : Inv X pins σ (upd H2 s2.heap.objs.size (.dT [])) { s2 with heap := s2.heap.push { cls := .type "dict", data := .dict #[] } } :=
    I2.laid (t' := s2.toks) (fun _ _ q => Heap.get?_push_of_some _ q) (Nat.le_refl _) ⟨Nat.zero_le _, beq_eq_false_iff_ne.mpr fun z => Nat.lt_irrefl _ (z ▸ Nat.lt_trans (by decide) (show mainGlobals < s2.heap.objs.size from (I2.mod.glob.keeps I2.bk).lt)), [], .nil, _, #[], 0, Heap.get?_push_size _ rfl, ⟨rfl, rfl, rfl⟩, rfl, rfl, List.nodup_nil⟩
  have fpl : ∀ b ∈ fp, b < s2.heap.objs.size := fun b hb => by
    obtain ⟨ob, e, _⟩ := T.obj 0 _ st2 b hb
    exact Heap.lt_size e
  refine wpAny_newObj_type (wpAny_newFunctionEnv S.nocell (by intro y hy; simp at hy) (fun h₁ hns₁ hsb₁ => ?_) S.kind)
  have e3 : ∃ s3 : Shared, s3 = { s2 with heap := s2.heap.push { cls := .type "dict", data := .dict #[] } } := ⟨_, rfl⟩
  obtain ⟨s3, hs3⟩ := e3
  have e3 : s3.heap = s2.heap.push { cls := .type "dict", data := .dict #[] } := by rw [hs3]
  have sz3 : s3.heap.objs.size = s2.heap.objs.size + 1 := by rw [e3, Heap.size_push]
  have fpl3 : ∀ b ∈ fp, b < s3.heap.objs.size := fun b hb => Nat.lt_of_lt_of_le (fpl b hb) (by rw [sz3]; exact Nat.le_succ _)
  have f3 : ∀ b ∈ fp, FpOk X pins (upd H2 s2.heap.objs.size (.dT [])) b := fun b hb => ⟨by rw [upd_ne (Nat.ne_of_lt (fpl b hb))]; exact (f2 b hb).1, (f2 b hb).2⟩
  have st3 : tn 0 s3.heap := T.keep 0 _ _ st2 fun b _ ob e => by rw [e3]; exact Heap.get?_push_of_some _ e
  rw [← hs3] at I3
  show codeAny (model X.prog X.w) X.A (.compStart _ 0 (.ref it) (.ref s2.heap.objs.size) (compEnvC c (clOf X.env.cells c.names []) (s2.heap.push { cls := .type "dict", data := .dict #[] }).objs.size X.env))
    (compPost (model X.prog X.w) X.A X.xe use QQ (.ref s2.heap.objs.size) (s2.heap.push { cls := .type "dict", data := .dict #[] }).objs.size)
    { s2 with heap := h₁, toks := s2.toks + ([] : List (Str × Value)).length }
  have hns : h₁.Ns s3.heap.objs.size (fun x => ([] : List (Str × Value)).reverse.lookup x) := by rw [e3]; exact hns₁
  have hk1 : ∀ b ob, s3.heap.get? b = some ob → h₁.get? b = some ob := fun b ob e => by
    rw [e3] at e
    exact hsb₁.extBut b ob (Nat.ne_of_lt (Heap.lt_size e)) (Heap.get?_push_of_some _ e)
  rw [← e3]
  have es4 : ({ s2 with heap := h₁, toks := s2.toks + ([] : List (Str × Value)).length } : Shared) = { s3 with heap := h₁, toks := s2.toks } := by rw [hs3]; rfl
  rw [es4]
  obtain ⟨W, ⟨m0, w0⟩, turn⟩ := hR s2.heap.objs.size hD
  have I4 := comp_inv (tk := s2.toks) S hN ho I3 f3 fpl3 hns hk1
  have st4 : tn 0 h₁ := T.keep 0 _ _ st3 fun b _ ob e => hk1 b ob e
  generalize hX : compCx X c N' s3.heap.objs.size s3 (upd H2 s2.heap.objs.size (.dT [])) fp = Y at I4
  have Yp : Y.prog = X.prog := by rw [← hX]; rfl
  have Yw : Y.w = X.w := by rw [← hX]; rfl
  have YK : Y.K = X.K := by rw [← hX]; rfl
  have Yc : Y.calm = true := by rw [← hX]; exact hc
  have YA : Y.A = X.A := by rw [← hX]; rfl
  have Yenv : Y.env = compEnvC c (clOf X.env.cells c.names []) s3.heap.objs.size X.env := by rw [← hX]; rfl
  have Yl : Y.env.locals = s3.heap.objs.size := by rw [Yenv]; rfl
  have Yxe : Y.xe = fun _ _ => False := by rw [← hX]; rfl
  have hg' := hg s3.heap.objs.size s3 (upd H2 s2.heap.objs.size (.dT [])) fp
  have ht' := ht s3.heap.objs.size s3 (upd H2 s2.heap.objs.size (.dT [])) fp
  have hk' := hk s3.heap.objs.size s3 (upd H2 s2.heap.objs.size (.dT [])) fp
  have he' := he s3.heap.objs.size s3 (upd H2 s2.heap.objs.size (.dT [])) fp
  rw [hX] at hg' ht' hk' he'
  have stat : ∀ {H' : Hp}, (∀ b ∈ fp, H' b = none) → ∀ b ∈ fp, FpOk Y [] H' b := fun {H'} hn b hb => by
    obtain ⟨_, q1, q2, q3, q4, _⟩ := f3 b hb
    have z1 := I4.ok.exf b (by rw [← hX]; exact hb)
    refine ⟨hn b hb, z1.1, I4.ok.exfs b (by rw [← hX]; exact hb), .inl (by rw [← hX]; exact hb), z1.2, fun p hp => ?_⟩
    have hp' : p ∈ ([] : List (Addr × Obj)) := by
      have : Y.pn = [] := by rw [← hX]; rfl
      rw [this] at hp; exact hp
    cases hp'
  have fin : ∀ (s5 : Shared) (σ5 : St) (H5 : Hp), Inv Y [] σ5 H5 s5 → Q (.ref s2.heap.objs.size) H5 → compPost (model X.prog X.w) X.A X.xe use QQ (.ref s2.heap.objs.size) s3.heap.objs.size (.ok .next) s5 := fun s5 σ5 H5 I5 q => by
    obtain ⟨m, hn, _⟩ := id I5.loc
    rw [Yl] at hn
    have hCn : H5 s3.heap.objs.size = none := by have := I5.free; rw [Yl] at this; exact this
    have un : Un (frs X.stack) fp (upd H2 s2.heap.objs.size (.dT [])) H5 s3.heap s5.heap := by
      have := I5.base
      rw [← hX] at this
      exact this
    have os5 : s5.os = s3.os := by have := I5.os; rw [← hX] at this; exact this
    have hok5 : HOk X.prog X.w H5 s5.heap := by
      have := I5.hok
      rw [Yp, Yw] at this
      exact this
    refine post _ _ s5 H5 m (I3.call' (s' := s5) (ch := fp) os5 un hok5 I5.bare fun b hb => ?_) hCn hn (Nat.ne_of_gt I3.lt) I3.sz (fun x a e => ?_) (fun p hp => ?_) q
    · obtain ⟨_, q1, _, q3, q4, q5⟩ := f3 b hb
      exact ⟨q3, q1, q4, q5⟩
    · obtain ⟨v, ob, e', _⟩ := I3.cell x a e
      exact Nat.ne_of_lt (Heap.lt_size e')
    · exact Nat.ne_of_lt (Heap.lt_size (I3.pin p hp).1)
  have loop : codeAny (model X.prog X.w) X.A (.compLoop (.DictComp kx vx [⟨tg, iter, ifs, 0⟩] c pos) 0 (.ref it) (.ref s2.heap.objs.size) (compEnvC c (clOf X.env.cells c.names []) s3.heap.objs.size X.env))
      (compPost (model X.prog X.w) X.A X.xe use QQ (.ref s2.heap.objs.size) s3.heap.objs.size) { s3 with heap := h₁, toks := s2.toks } := by
    rw [← Yenv, ← YA]
    refine compLoop_anyD (E := fun _ _ => False) (fun n s' => ∃ i ys σ' H', Inv Y [] σ' H' s' ∧ tn i s'.heap ∧ (∀ b ∈ fp, H' b = none) ∧ W i n ys σ' H') (fun _ _ z => z) ?_ m0
      ⟨0, [], _, _, I4, st4, fun b hb => (f3 b hb).1, ?_⟩
    · rintro n s5 ⟨i, ys, σ5, H5, I5, st5, fr5, w5⟩
      rcases turn i n ys σ5 H5 w5 with ⟨stop, qn⟩ | ⟨go, Nn, hNn, step⟩
      · refine thn (T.done Y Yp Yw YK Yc i [] s5 σ5 H5 _ I5 (stat fr5) st5 stop) fun r s6 ⟨hr, I6⟩ => ?_
        subst hr
        have fq := fin s6 σ5 H5 I6 qn
        rw [← YA] at fq
        exact fq
      · refine thn (T.item Y Yp Yw YK Yc i [] s5 σ5 H5 _ I5 (stat fr5) st5 go) fun r s6 ⟨u, hr, h6⟩ => ?_
        subst hr
        refine thn h6 fun _ s7 ⟨x, H7, I7, r7, y7, st7, fr7⟩ => ?_
        have I7' := I7.pinned (stat fr7) (T.obj _ _ st7)
        have back : ∀ {σ9 : St} {H9 : Hp} {s9 : Shared}, Inv Y ([] ++ pinsAt fp s7.heap) σ9 H9 s9 → Inv Y [] σ9 H9 s9 ∧ tn (i + 1) s9.heap ∧ ∀ b ∈ fp, H9 b = none := fun {σ9 H9 s9} I9 => by
          refine ⟨I9.unpinned, T.keep _ _ _ st7 fun b hb ob e => (I9.pin (b, ob) (List.mem_append_right _ (List.mem_append_right _ (mem_pinsAt hb e)))).1, fun b hb => ?_⟩
          obtain ⟨ob, e, d⟩ := T.obj _ _ st7 b hb
          exact (I9.pin (b, ob) (List.mem_append_right _ (List.mem_append_right _ (mem_pinsAt hb e)))).2.1
        have P1 := hg' _ s7 σ5 H7 x u _ I7' r7 (step x H7 y7)
        rw [Yp, Yw, Yxe] at P1
        refine thn P1 fun _ s8 ⟨σ8, H8, I8, q8⟩ => ?_
        have P2 := ht' _ s8 σ8 H8 _ I8 q8
        rw [Yp, Yw, Yxe] at P2
        refine thn P2 fun ok s9 ⟨H9, I9, q9⟩ => ?_
        cases ok with
        | false =>
          rw [if_neg Bool.false_ne_true] at q9
          rw [if_neg Bool.false_ne_true]
          obtain ⟨b1, b2, b3⟩ := back I9
          obtain ⟨m', hm', w9⟩ := hNn _ _ _ q9
          exact ⟨m', hm', i + 1, ys, σ8, H9, b1, b2, b3, w9⟩
        | true =>
          rw [if_pos rfl] at q9
          rw [if_pos rfl]
          have P3 := hk' _ s9 σ8 H9 _ I9 q9
          rw [Yp, Yw, Yxe] at P3
          refine thn P3 fun kv s10 ⟨vk, H10, I10, r10, q10⟩ => ?_
          have P4 := he' _ s10 σ8 H10 _ I10 q10
          rw [Yp, Yw, Yxe] at P4
          refine thn P4 fun y s11 ⟨vy, H11, I11, r11, b, ks, eb, hDl, hb, hno, hsz, q11⟩ => ?_
          subst eb
          cases r10
          have P5 := dset_dT (X := Y) (by rw [YA]; exact hu) I11 hDl hb hno hsz r11 q11
          rw [Yp, Yw, Yxe] at P5
          refine thn P5 fun _ s12 ⟨H12, I12, q12⟩ => ?_
          obtain ⟨b1, b2, b3⟩ := back I12
          obtain ⟨m', hm', w12⟩ := hNn _ _ _ q12
          exact ⟨m', hm', i + 1, ys ++ [(ks, vy)], σ8, H12, b1, b2, b3, w12⟩
    · exact w0
  have lp := T.self X.A 0 { s3 with heap := h₁, toks := s2.toks } (fun it' s' => codeAny (model X.prog X.w) X.A (.compLoop (.DictComp kx vx [⟨tg, iter, ifs, 0⟩] c pos) 0 it' (.ref s2.heap.objs.size) (compEnvC c (clOf X.env.cells c.names []) s3.heap.objs.size X.env))
      (compPost (model X.prog X.w) X.A X.xe use QQ (.ref s2.heap.objs.size) s3.heap.objs.size) s') (fun _ _ => False) st4 loop
  exact codeAny_compStart_dict loop (wpAny_mono lp (fun _ _ z => z) fun _ _ z => z.elim)
theorem pe_dcomp {kx vx tg iter : Expr} {ifs : List Expr} {pos : Pos} {wi : TI} {g : TG} {tc : TT} {tk te : TE} (S : CompSc N N' o c) (hN : X.N = N) (ho : X.env.scope = o) (hc : X.calm = true)
    (hi : PI X tg iter wi) (hg : ∀ C s H fp, PG (compCx X c N' C s H fp) tg g) (ht : ∀ C s H fp, PTs (compCx X c N' C s H fp) ifs tc) (hk : ∀ C s H fp, PE (compCx X c N' C s H fp) kx tk) (he : ∀ C s H fp, PE (compCx X c N' C s H fp) vx te) (hu : X.A.units + 64 < cLine)
    (hs : ∀ x, foldedSetIterable iter X.env x = pure x := by intro _; rfl) :
    PE X (.DictComp kx vx [⟨tg, iter, ifs, 0⟩] c pos) (tDComp (N'.length - N.length) wi g tc tk te) := by
  intro pins s σ H Q I h
  show wpAny _ _ (comprehension (.DictComp kx vx [⟨tg, iter, ifs, 0⟩] c pos) c X.env _ newDict false (eval iter X.env)) _ _ _
  refine comp_runD (use := none) S hN ho hc hi hg ht hk he hu hs I h fun D C s5 H5 m I5 hCn hn n1 n2 n3 n4 q => ⟨m, hn, fun h' hsb => ?_⟩
  exact ⟨.ref D, H5, I5.let hCn n1 n2 n3 n4 hsb, rfl, q⟩
theorem ps_setDComp {i : Nat} {x : Str} {kx vx tg iter : Expr} {ifs : List Expr} {pos pos' spos : Pos} {wi : TI} {g : TG} {tc : TT} {tk te : TE} (hnd : X.N.Nodup) (hx : X.N[i]? = some x) (hl : Loc X.env.scope x) (S : CompSc N N' o c) (hN : X.N = N) (ho : X.env.scope = o) (hc : X.calm = true)
    (hi : PI X tg iter wi) (hg : ∀ C s H fp, PG (compCx X c N' C s H fp) tg g) (ht : ∀ C s H fp, PTs (compCx X c N' C s H fp) ifs tc) (hk : ∀ C s H fp, PE (compCx X c N' C s H fp) kx tk) (he : ∀ C s H fp, PE (compCx X c N' C s H fp) vx te) (hu : X.A.units + 64 < cLine)
    (hsw : swapsWith (.DictComp kx vx [⟨tg, iter, ifs, 0⟩] c pos) (some (.Name x pos')) spos.line X.env = pure true)
    (hs : ∀ x, foldedSetIterable iter X.env x = pure x := by intro _; rfl) (hf : X.fn x = true ∨ X.env.scope.names.lookup x = some .local := by first | exact .inl rfl | exact .inr rfl | assumption) :
    PS X (.Assign [.Name x pos'] (.DictComp kx vx [⟨tg, iter, ifs, 0⟩] c pos) spos) (tAsg (tDComp (N'.length - N.length) wi g tc tk te) (gName i)) := by
  intro pins s σ H D I h
  rw [exec_Assign_Name_used _ _ _ _ hsw]
  refine wpAny_bind (wpAny_standAt (wpAny_bind ?_))
  show wpAny _ X.A (do let _ ← comprehension (.DictComp kx vx [⟨tg, iter, ifs, 0⟩] c pos) c X.env _ newDict false (eval iter X.env) (some (assign (.Name x pos') X.env))) _ _ s
  refine wpAny_bind (thn (comp_runD (QQ := fun _ s' => SP X pins D .next s') (use := some (assign (.Name x pos') X.env)) S hN ho hc hi hg ht hk he hu hs I h ?_) fun _ s' hq => wpAny_pure (wpAny_pure hq))
  intro L C s5 H5 m I5 hCn hn n1 n2 n3 n4 q
  show wpAny _ X.A (assign (.Name x pos') X.env (.ref L)) _ _ _
  refine wpAny_assign_Name (store_ok2 (v := .ref L) I5 hnd hx hl rfl (fun s6 I6 ⟨a, hsb, ha⟩ => ?_) hf)
  have nCa : C ≠ a := by
    rcases ha with z | z
    · rw [z]; exact n1
    · exact (n3 x a z).symm
  exact ⟨m, hn.sameBut hsb nCa, fun h' hsb' => ⟨_, H5, I6.let hCn n1 n2 n3 n4 hsb', q⟩⟩
end
end L2
set_option Elab.async false
set_option linter.all false
set_option maxRecDepth 100000
namespace L2
open PySem PySem.Spec PyProof.Rows
section
variable {κ : Type} [DecidableEq κ]
def valV (kvs : List (κ × V)) (k : κ) : Option V := (kvs.find? fun kv => decide (kv.1 = k)).map (·.2)
def putK (kvs : List (κ × V)) (k : κ) (v : V) : List (κ × V) :=
  if (kvs.any fun kv => decide (kv.1 = k)) = true then kvs.map (fun kv => if kv.1 = k then (kv.1, v) else kv) else kvs ++ [(k, v)]
def dropK (kvs : List (κ × V)) (k : κ) : List (κ × V) := kvs.filter fun kv => decide (kv.1 ≠ k)
theorem valV_nil {k : κ} : valV ([] : List (κ × V)) k = none := rfl
end
abbrev KT (H : Hp) : List (List Key × V) → List (List Key × Addr × Value) → Prop := Paired fun p q => p.1 = q.1 ∧ H q.2.1 = some (.tup (p.1.map kV)) ∧ RelV p.2 q.2.2
section
variable {P : Program} {w : World} {H : Hp} {h : Heap} {a : Addr}
end
def DGet (H : Hp) (a : Addr) (y : V) (r : Option V) : Prop :=
  (∃ kvs k, Rd H a (.dK kvs) ∧ y = kV k ∧ r = valV kvs k) ∨ ∃ kvs k b, Rd H a (.dT kvs) ∧ y = .ref b ∧ H b = some (.tup (k.map kV)) ∧ r = valV kvs k
def DPut (H : Hp) (a : Addr) (y v : V) (H' : Hp) : Prop :=
  (∃ kvs k, H a = some (.dK kvs) ∧ y = kV k ∧ kvs.length < sizeLine ∧ H' = upd H a (.dK (putK kvs k v))) ∨
  ∃ kvs k b, H a = some (.dT kvs) ∧ y = .ref b ∧ H b = some (.tup (k.map kV)) ∧ kvs.length < sizeLine ∧ H' = upd H a (.dT (putK kvs k v))
section
variable {X : Cx} {pins : List (Addr × Obj)} {σ : St} {H : Hp} {s : Shared} {a : Addr} {y v : V} {u r : Value} {o : Option V} {A : Around} {E : Value → Shared → Prop}
end
section
variable {X : Cx} {pins : List (Addr × Obj)} {σ : St} {H : Hp} {s : Shared} {a : Addr} {kvs : List (Key × V)} {k : Key} {u : Value} {A : Around} {E : Value → Shared → Prop}
end
def NoSl (i : Expr) : Prop := ∀ ov iv, subscripted i false ov iv = operate [ov, iv] (getItem ov iv)
def tDGet (td ty : TE) : TE := fun σ H Q => td σ H fun x H1 => ty σ H1 fun y H2 => ∃ a v, x = .ref a ∧ DGet H2 a y (some v) ∧ Q v H2
def tDIn (ty td : TE) : TE := fun σ H Q => ty σ H fun y H1 => td σ H1 fun x H2 => ∃ a o, x = .ref a ∧ DGet H2 a y o ∧ Q (.bl o.isSome) H2
def tDNotIn (ty td : TE) : TE := fun σ H Q => ty σ H fun y H1 => td σ H1 fun x H2 => ∃ a o, x = .ref a ∧ DGet H2 a y o ∧ Q (.bl (!o.isSome)) H2
def sDPut (td ty tv : TE) : TS := fun D σ H => tv σ H fun v H1 => td σ H1 fun x H2 => ty σ H2 fun y H3 => ∃ a H4, x = .ref a ∧ DPut H3 a y v H4 ∧ D.nx σ H4
def sDAug (td ty tv : TE) (rd : V → V → Hp → VK → Prop) : TS := fun D σ H => td σ H fun x H1 => ty σ H1 fun y H2 => ∃ a v, x = .ref a ∧ DGet H2 a y (some v) ∧
  tv σ H2 fun y2 H3 => rd v y2 H3 fun z H4 => ∃ H5, DPut H4 a y z H5 ∧ D.nx σ H5
def sDDel (td ty : TE) : TS := fun D σ H => td σ H fun x H1 => ty σ H1 fun y H2 => ∃ a kvs k, x = .ref a ∧ H2 a = some (.dK kvs) ∧ y = kV k ∧ (valV kvs k).isSome = true ∧ D.nx σ (upd H2 a (.dK (dropK kvs k)))
section
variable {X : Cx} {o i e value : Expr} {pos pos' tpos : Pos} {td ty tv : TE}
end
def tDNewK : TE := fun _ H Q => ∀ p, H p = none → Q (.ref p) (upd H p (.dK []))
def tDNewT : TE := fun _ H Q => ∀ p, H p = none → Q (.ref p) (upd H p (.dT []))
section
variable {X : Cx} {pos : Pos}
end
def tPairs : List (TE × TE) → St → Hp → (List (V × V) → Hp → Prop) → Prop
  | [], _, H, Q => Q [] H
  | (tk, tv) :: r, σ, H, Q => tk σ H fun x H1 => tv σ H1 fun y H2 => tPairs r σ H2 fun ps H3 => Q ((x, y) :: ps) H3
abbrev VV : List (V × V) → List (Value × Value) → Prop := Paired fun p q => RelV p.1 q.1 ∧ RelV p.2 q.2
def PPs (X : Cx) (pos : Pos) (keys : List (Option Expr)) (values : List Expr) (trs : List (TE × TE)) : Prop :=
  ∀ (pins : List (Addr × Obj)) (s : Shared) (σ : St) (H : Hp) (Q : List (V × V) → Hp → Prop), Inv X pins σ H s → tPairs trs σ H Q →
    wpAny (model X.prog X.w) X.A (evalPairs (pairTrees keys values X.env pos)) (fun vs s' => ∃ ps H', Inv X pins σ H' s' ∧ VV ps vs ∧ Q ps H') X.xe s
def mergeK (kvs more : List (Key × V)) : List (Key × V) := more.foldl (fun acc kv => putK acc kv.1 kv.2) kvs
def tDisp (trs : List (TE × TE)) : TE := fun σ H Q => ∀ p, H p = none → tPairs trs σ (upd H p (.dK [])) fun ps H2 => H2 p = some (.dK []) ∧ ∃ kvs : List (Key × V), ps = kvs.map (fun kv => (kV kv.1, kv.2)) ∧ kvs.length ≤ 15 ∧ Q (.ref p) (upd H2 p (.dK (mergeK [] kvs)))
structure M1 (X : Cx) (o : Expr) (m : Str) (apos : Pos) (e : Expr) (cpos : Pos) : Prop where
  base : attributeBase o m X.env (eval o X.env) = eval o X.env
  few : ((backTo cpos (starEach [e] X.env)).all (fun x => !x.1) && (backToKw cpos (keywordEach [] X.env)).all (fun x => x.1.isSome)
    && decide (([e] : List Expr).length + ([] : List Keyword).length + (if ([] : List Keyword).isEmpty then 0 else 1) < 30)) = true
  line : (apos.endLine == cpos.line) = true
  trees : backTo cpos (starEach [e] X.env) = [(false, eval e X.env)]
structure M2 (X : Cx) (o : Expr) (m : Str) (apos : Pos) (e f : Expr) (cpos : Pos) : Prop where
  base : attributeBase o m X.env (eval o X.env) = eval o X.env
  few : ((backTo cpos (starEach [e, f] X.env)).all (fun x => !x.1) && (backToKw cpos (keywordEach [] X.env)).all (fun x => x.1.isSome)
    && decide (([e, f] : List Expr).length + ([] : List Keyword).length + (if ([] : List Keyword).isEmpty then 0 else 1) < 30)) = true
  line : (apos.endLine == cpos.line) = true
  trees : backTo cpos (starEach [e, f] X.env) = [(false, eval e X.env), (false, eval f X.env)]
def IsD (H : Hp) (a : Addr) : Prop := (∃ kvs, Rd H a (.dK kvs)) ∨ ∃ kvs, Rd H a (.dT kvs)
section
variable {X : Cx} {pins : List (Addr × Obj)} {σ : St} {H : Hp} {s : Shared} {a : Addr} {y d : V} {u r : Value} {o : Option V} {A : Around} {E : Value → Shared → Prop}
end
def tDGet1 (td ty : TE) : TE := fun σ H Q => td σ H fun x H1 => ∃ a, x = .ref a ∧ IsD H1 a ∧ ty σ H1 fun y H2 => ∃ o, DGet H2 a y o ∧ Q (o.getD .non) H2
def tDGet2 (td ty tx : TE) : TE := fun σ H Q => td σ H fun x H1 => ∃ a, x = .ref a ∧ IsD H1 a ∧ ty σ H1 fun y H2 => tx σ H2 fun z H3 => ∃ o, DGet H3 a y o ∧ Q (o.getD z) H3
def tDPop1 (td ty : TE) : TE := fun σ H Q => td σ H fun x H1 => ∃ a, x = .ref a ∧ IsD H1 a ∧ ty σ H1 fun y H2 => ∃ kvs k v, H2 a = some (.dK kvs) ∧ y = kV k ∧ valV kvs k = some v ∧ Q v (upd H2 a (.dK (dropK kvs k)))
def tDPop2 (td ty tx : TE) : TE := fun σ H Q => td σ H fun x H1 => ∃ a, x = .ref a ∧ IsD H1 a ∧ ty σ H1 fun y H2 => tx σ H2 fun z H3 => ∃ kvs k, H3 a = some (.dK kvs) ∧ y = kV k ∧
  (∀ v, valV kvs k = some v → Q v (upd H3 a (.dK (dropK kvs k)))) ∧ (valV kvs k = none → Q z H3)
section
variable {X : Cx} {o e f : Expr} {apos cpos : Pos} {td ty tx : TE}
end
section
variable {X : Cx} {pins : List (Addr × Obj)} {σ : St} {H : Hp} {s : Shared} {a : Addr} {kvs : List (Key × V)} {A : Around} {E : Value → Shared → Prop}
end
section
variable {X : Cx} {pins : List (Addr × Obj)} {σ : St} {H : Hp} {s : Shared} {a : Addr} {y : V} {u : Value} {A : Around} {E : Value → Shared → Prop}
end
end L2
namespace L2
open PySem PySem.Spec PyProof.Rows
section
variable {X : Cx}
end
section
variable {κ : Type} [DecidableEq κ]
end
end L2
set_option Elab.async false
set_option linter.all false
set_option maxRecDepth 100000
namespace L2
open PySem PySem.Spec PyProof.Rows
structure Mf (P : Program) (w : World) (K : PySem.W.Frag) (mg : Str → Option Value) (base : Heap) (k : Nat) (C : Addr) (m : Str) (ps : List Str) (sp : Sp) : Prop where
  ex : ∃ f fd, FnOk P w K mg base CX0 k f fd ps sp ∧ Meth K C m f ∧ Binds K fd ps []
structure Cf (P : Program) (w : World) (K : PySem.W.Frag) (mg : Str → Option Value) (base : Heap) (k : Nat) (C : Addr) (x : Str) (ps : List Str) (sp : Sp) : Prop where
  ex : ∃ f fd, FnOk P w K mg base CX0 k f fd ps sp ∧ Mk K C f ∧ Binds K fd ps [] ∧ mg x = some (.ref C)
structure TopM (K : PySem.W.Frag) (C : Addr) (m qual : Str) (st : Stmt) (ps : List Str) : Prop where
  ex : ∃ f fd, Fun K m qual st f fd ∧ Meth K C m f ∧ Binds K fd ps []
structure TopI (K : PySem.W.Frag) (mg : Str → Option Value) (C : Addr) (x qual : Str) (st : Stmt) (ps : List Str) : Prop where
  ex : ∃ f fd, Fun K "__init__" qual st f fd ∧ Mk K C f ∧ Binds K fd ps [] ∧ mg x = some (.ref C)
section
variable {P : Program} {w : World} {K : PySem.W.Frag} {mg : Str → Option Value} {base : Heap}
end
section
variable {X : Cx} {k j : Nat} {C : Addr} {m x : Str} {ps : List Str} {sp : Sp} {o e : Expr} {es : List Expr} {ta : TE} {t : TA} {p apos pos : Pos} {pl : Sem Bool}
end
end L2
set_option Elab.async false
set_option linter.all false
set_option maxRecDepth 100000
namespace L2
open PySem PySem.Spec PyProof.Rows
section
variable {X : Cx} {pins : List (Addr × Obj)} {σ : St} {H : Hp} {s : Shared} {d : Addr} {o : Obj} {u : HO}
theorem Inv.freeze (I : Inv X pins σ H s) (e : H d = some u) (mu : Mut (some u)) (ho : s.heap.get? d = some o) : Inv X pins σ (upd H d (.frz o u)) s := by
  have h := I.write (x := d) (e := d) (o := .frz o u) (t' := s.toks) (h' := s.heap) (by rw [e]; exact mu) (.inl rfl) (fun b v _ q => q) ⟨o, ho⟩ ?_
  · exact h
  · refine ⟨ho, (I.hok d u e).stay (fun b v _ q => q) (fun b q => ?_) (fun b xs q => ?_)⟩
    · rw [upd_ne (fun z => by rw [z, e] at q; cases q; exact mu)]; exact q
    · rw [upd_ne (fun z => by rw [z, e] at q; cases q; exact mu)]; exact q
theorem Inv.nofrz (I : Inv X pins σ H s) (e : H d = some u) (mu : Mut (some u)) : ∀ o' u', X.H₀ d ≠ some (.frz o' u') := fun o' u' z => by
  have := I.base.frzs d o' u' z
  rw [e] at this
  cases this
  exact mu
theorem Inv.thaw (I : Inv X pins σ H s) (e : H d = some (.frz o u)) (mu : Mut (some u)) (n : ∀ o' u', X.H₀ d ≠ some (.frz o' u')) : Inv X pins σ (upd H d u) s := by
  have hne : ∀ b, H b = none → b ≠ d := fun b z => ne_of_none (H := H) e z |>.symm
  refine ⟨I.ok, I.os, I.bare, ⟨I.base.keep, I.base.slot, fun b v a1 a2 a3 => ?_, I.base.there, fun b xs q => ?_, fun b o' u' q => ?_, fun b ps q => ?_⟩, I.loc, I.cell, ?_, fun x c q => ?_, fun p hp => ?_, ?_, I.len⟩
  · have := I.base.free b v a1 a2 a3
    rw [upd_ne (hne b this)]; exact this
  · have := I.base.tups b xs q
    rw [upd_ne (fun z => by rw [z, e] at this; cases this)]; exact this
  · have := I.base.frzs b o' u' q
    rw [upd_ne (fun z => by rw [z] at q; exact n o' u' q)]; exact this
  · obtain ⟨more, this⟩ := I.base.tbls b ps q
    refine ⟨more, ?_⟩
    rw [upd_ne (fun z => by rw [z, e] at this; cases this)]; exact this
  · rw [upd_ne (hne _ I.free)]; exact I.free
  · rw [upd_ne (hne _ (I.freeC x c q))]; exact I.freeC x c q
  · obtain ⟨a1, a2, a3⟩ := I.pin p hp
    exact ⟨a1, by rw [upd_ne (hne _ a2)]; exact a2, a3⟩
  · intro b v q
    have own : ∀ c a, H c = some (.own a) → (upd H d u) c = some (.own a) := fun c a q => by rw [upd_ne (fun z => by rw [z, e] at q; cases q)]; exact q
    have tup : ∀ c xs, H c = some (.tup xs) → (upd H d u) c = some (.tup xs) := fun c xs q => by rw [upd_ne (fun z => by rw [z, e] at q; cases q)]; exact q
    by_cases hb : b = d
    · subst hb
      rw [upd_same] at q
      cases q
      obtain ⟨_, h2⟩ := (show ObjOk X.prog X.w H s.heap b (.frz o u) from I.hok b _ e)
      exact h2.stay (fun c v _ q => q) (fun c q => own c b q) tup
    · rw [upd_ne hb] at q
      exact (I.hok b v q).stay (fun c v _ q => q) (fun c q => own c b q) tup
end
def tThaw (t : TE) : TE := fun σ H Q => ∃ d u, H d = some u ∧ Mut (some u) ∧ t σ H fun v H' => ∃ o, H' d = some (.frz o u) ∧ Q v (upd H' d u)
theorem pe_thaw {X : Cx} {e : Expr} {t : TE} (h : PE X e t) : PE X e (tThaw t) := by
  intro pins s σ H Q I q
  obtain ⟨d, u, e1, mu, q⟩ := q
  have n := I.nofrz e1 mu
  refine thn (h pins s σ H _ I q) fun v s1 ⟨x, H1, I1, r1, o, e2, q1⟩ => ?_
  exact ⟨x, _, I1.thaw e2 mu n, r1, q1⟩
def rListD : List V → Hp → VK → Prop := fun xs H Q => ∃ d kvs, xs = [.ref d] ∧ H d = some (.dK kvs) ∧ ∀ l, H l = none → Q (.ref l) (upd H l (.lst (kvs.map fun kv => kV kv.1)))
end L2
set_option Elab.async false
set_option linter.all false
set_option maxRecDepth 100000
namespace L2
open PySem PySem.Spec PyProof.Rows
def Itv (d : Addr) (o : Obj) (kvs : List (Key × V)) : It :=
  ⟨fun i H => H d = some (.frz o (.dK kvs)) ∧ i < kvs.length, fun i H v H' => H' = H ∧ ∃ k, kvs[i]? = some (k, v), fun i H => H d = some (.frz o (.dK kvs)) ∧ kvs.length ≤ i⟩
def Itk (d : Addr) (o : Obj) (kvs : List (Key × V)) : It :=
  ⟨fun i H => H d = some (.frz o (.dK kvs)) ∧ i < kvs.length, fun i H v H' => H' = H ∧ ∃ k x, kvs[i]? = some (k, x) ∧ v = kV k, fun i H => H d = some (.frz o (.dK kvs)) ∧ kvs.length ≤ i⟩
def iKeys (tl : TE) : TI := fun σ H R => tl σ H fun x H1 => ∃ d kvs, x = .ref d ∧ H1 d = some (.dK kvs) ∧ ∀ o, R (Itk d o kvs) (upd H1 d (.frz o (.dK kvs)))
end L2
set_option Elab.async false
set_option linter.all false
set_option maxRecDepth 100000
namespace L2
open PySem PySem.Spec PyProof.Rows
def rSortedD : List V → Hp → VK → Prop := fun xs H Q => ∃ d kvs ns, xs = [.ref d] ∧ H d = some (.dK kvs) ∧ kvs.map (·.1) = ns.map Sum.inl ∧ ns.length < 64 ∧
  ∀ (l : Addr) (ns' : List Int), H l = none → ns'.Perm ns → ns'.Pairwise (· ≤ ·) → Q (.ref l) (upd H l (.lst (ns'.map V.int)))
def rSumL (K : PySem.W.Frag) : List V → Hp → VK → Prop := fun vs H Q => ∃ (p : Addr) (ns : List Int), vs = [.ref p] ∧ SqL K H p (ns.map V.int) ∧ ns.length ≤ 1000 ∧ (∀ n ∈ ns, 0 ≤ n ∧ n ≤ 1000000) ∧ Q (.int ns.sum) H
def iVals (tl : TE) : TI := fun σ H R => tl σ H fun x H1 => ∃ d kvs, x = .ref d ∧ H1 d = some (.dK kvs) ∧ ∀ o, R (Itv d o kvs) (upd H1 d (.frz o (.dK kvs)))
end L2
set_option Elab.async false
set_option linter.all false
set_option maxRecDepth 100000
namespace L2
open PySem PySem.Spec PyProof.Rows
def Iti (d : Addr) (o : Obj) (kvs : List (Key × V)) : It :=
  ⟨fun i H => H d = some (.frz o (.dK kvs)) ∧ i < kvs.length,
   fun i H v H' => ∃ p k x, H p = none ∧ v = .ref p ∧ kvs[i]? = some (k, x) ∧ H' = upd H p (.tup [kV k, x]),
   fun i H => H d = some (.frz o (.dK kvs)) ∧ kvs.length ≤ i⟩
def iItems (tl : TE) : TI := fun σ H R => tl σ H fun x H1 => ∃ d kvs, x = .ref d ∧ H1 d = some (.dK kvs) ∧ ∀ o, R (Iti d o kvs) (upd H1 d (.frz o (.dK kvs)))
end L2
set_option Elab.async false
set_option linter.all false
set_option maxRecDepth 100000
namespace L2
open PySem PySem.Spec PyProof.Rows
def DictGoK (J : It) (D : Addr) (k : Nat) (σ : St) (H1 : Hp) (g : TG) (tc : TT) (tk te : TE) (Q : VK) : Prop :=
  ∃ W : Nat → Nat → List (Key × V) → St → Hp → Prop, (∃ m, W 0 m [] (σ ++ List.replicate k none) (upd H1 D (.dK []))) ∧
    ∀ i m ys σ2 H2, W i m ys σ2 H2 → (J.stop i H2 ∧ Q (.ref D) H2) ∨
      (J.go i H2 ∧ ∃ N : List (Key × V) → St → Hp → Prop, (∀ ys' σ' H', N ys' σ' H' → ∃ m', m' < m ∧ W (i + 1) m' ys' σ' H') ∧ ∀ x H3, J.yld i H2 x H3 → g x σ2 H3 fun σ4 H4 => tc σ4 H4 fun b H5 =>
        if b = true then tk σ4 H5 fun kv H6 => te σ4 H6 fun y H7 => ∃ k : Key, kv = kV k ∧ H7 D = some (.dK ys) ∧ ys.length < sizeLine ∧ N (putK ys k y) σ4 (upd H7 D (.dK (putK ys k y))) else N ys σ4 H5)
def tKComp (n : Nat) (wi : TI) (g : TG) (tc : TT) (tk te : TE) : TE := fun σ H Q => wi σ H fun J H1 => ∀ D, H1 D = none → DictGoK J D n σ H1 g tc tk te Q
section
variable {X : Cx} {N N' : List Str} {o c : Scope}
end
section
variable {X : Cx}
def rIxK : R2 := fun x y H Q => ∃ d kvs k v, x = .ref d ∧ y = kV k ∧ H d = some (.dK kvs) ∧ valV kvs k = some v ∧ Q v H
end
end L2
set_option Elab.async false
set_option linter.all false
set_option maxRecDepth 100000
namespace L2
open PySem PySem.Spec PyProof.Rows
set_option maxHeartbeats 4000000 in
section
variable {prog : Program} {w : World} {A : Around} {R : Result → Shared → Prop} {I : Addr} {fp wr : List Addr} {G : Array GenState → Array GenState → Prop} {n : Nat} {P : Nat → Value → Prop} {St : Nat → Shared → Prop} {K : Type} [DecidableEq K] {knd : KeyKind prog w K}
end
section
variable {prog : Program} {w : World} {A : Around} {E : Value → Shared → Prop} {s : Shared} {K : Type} [DecidableEq K] {knd : KeyKind prog w K}
end
def rDictP (K : PySem.W.Frag) : List V → Hp → VK → Prop := fun xs H Q => ∃ (a : Addr) (ts : List (Addr × Key × V)), xs = [.ref a] ∧ SqL K H a (ts.map fun t => V.ref t.1) ∧ (∀ t ∈ ts, H t.1 = some (.tup [kV t.2.1, t.2.2])) ∧ ts.length ≤ 1000 ∧
  ∀ D, H D = none → Q (.ref D) (upd H D (.dK (mergeK [] (ts.map (·.2)))))
def rInG : R2 := fun y x H Q => ∃ a o, x = .ref a ∧ DGet H a y o ∧ Q (.bl o.isSome) H
def rNotInG : R2 := fun y x H Q => ∃ a o, x = .ref a ∧ DGet H a y o ∧ Q (.bl (!o.isSome)) H
def rIxG : R2 := fun x y H Q => ∃ a v, x = .ref a ∧ DGet H a y (some v) ∧ Q v H
section
variable {X : Cx} {k : Nat}
def rSetG : TSet := fun o i v H Q => ∃ a H', o = .ref a ∧ DPut H a i v H' ∧ Q H'
def rEqE (neg : Bool) : R2 := fun x y H Q => ∃ a b kvs, x = .ref a ∧ y = .ref b ∧ H a = some (.dK kvs) ∧ H b = some (.dK []) ∧ Q (.bl (if neg then !kvs.isEmpty else kvs.isEmpty)) H
end
end L2
set_option Elab.async false
set_option linter.all false
set_option maxRecDepth 100000
namespace L2
open PySem PySem.Spec PyProof.Rows
mutual
inductive DH (H : Hp) : V → PyData → Prop where
  | non : DH H .non .none
  | bl (b : Bool) : DH H (.bl b) (.bool b)
  | int (i : Int) : DH H (.int i) (.int i)
  | str (s : Str) : DH H (.str s) (.str s)
  | lst {a : Addr} {xs : List V} {ds : List PyData} : H a = some (.lst xs) → DHs H xs ds → DH H (.ref a) (.list ds)
  | tup {a : Addr} {xs : List V} {ds : List PyData} : H a = some (.tup xs) → DHs H xs ds → DH H (.ref a) (.tuple ds)
inductive DHs (H : Hp) : List V → List PyData → Prop where
  | nil : DHs H [] []
  | cons {x : V} {d : PyData} {xs : List V} {ds : List PyData} : DH H x d → DHs H xs ds → DHs H (x :: xs) (d :: ds)
end
mutual
theorem DH.mono {H H' : Hp} (s : Same H H') : ∀ {x : V} {d : PyData}, DH H x d → DH H' x d
  | _, _, .non => .non
  | _, _, .bl b => .bl b
  | _, _, .int i => .int i
  | _, _, .str z => .str z
  | _, _, .lst h hs => .lst (s _ _ h) (DHs.mono s hs)
  | _, _, .tup h hs => .tup (s _ _ h) (DHs.mono s hs)
theorem DHs.mono {H H' : Hp} (s : Same H H') : ∀ {xs : List V} {ds : List PyData}, DHs H xs ds → DHs H' xs ds
  | _, _, .nil => .nil
  | _, _, .cons h hs => .cons (DH.mono s h) (DHs.mono s hs)
end
mutual
theorem DH.dv {K : PySem.W.Frag} {H : Hp} : ∀ {x : V} {d : PyData}, DH H x d → DV K H x d
  | _, _, .non => .non
  | _, _, .bl b => .bl b
  | _, _, .int i => .int i
  | _, _, .str z => .str z
  | _, _, .lst h hs => .lst (SqL.of h) (DHs.dv hs)
  | _, _, .tup h hs => .tup (SqT.of h) (DHs.dv hs)
theorem DHs.dv {K : PySem.W.Frag} {H : Hp} : ∀ {xs : List V} {ds : List PyData}, DHs H xs ds → DVs K H xs ds
  | _, _, .nil => .nil
  | _, _, .cons h hs => .cons (DH.dv h) (DHs.dv hs)
end
def tyD : PyData → String
  | .none => "NoneType"
  | .bool _ => "bool"
  | .int _ => "int"
  | .str _ => "str"
  | .tuple _ => "tuple"
  | _ => "list"
def isIntD : PyData → Bool
  | .int _ => true
  | _ => false
def isBoolD : PyData → Bool
  | .bool _ => true
  | _ => false
def isLstD : PyData → Bool
  | .list _ => true
  | _ => false
def isTupD : PyData → Bool
  | .tuple _ => true
  | _ => false
def isStrD : PyData → Bool
  | .str _ => true
  | _ => false
section
open PySem.W
end
end L2
set_option Elab.async false
set_option linter.all false
set_option maxRecDepth 100000
namespace L2
open PySem PySem.Spec PyProof.Rows
def tOrK (K : PySem.W.Frag) (ta tb : TE) : TE := fun σ H Q => ta σ H fun x H1 => ∃ k, TruV K x H1 k ∧ if k = true then Q x H1 else tb σ H1 Q
end L2
set_option Elab.async false
set_option linter.all false
set_option maxRecDepth 100000
namespace L2
open PySem PySem.Spec PyProof.Rows
end L2
set_option Elab.async false
set_option linter.all false
set_option maxRecDepth 100000
namespace L2
open PySem PySem.Spec PyProof.Rows
def off (p : Addr) (H : Hp) : Hp := fun b => if b = p then none else H b
end L2
set_option Elab.async false
set_option linter.all false
set_option maxRecDepth 100000
namespace L2
open PySem PySem.Spec PyProof.Rows
section
variable {prog : Program} {w : World} {A : Around} {R : Result → Shared → Prop} {I : Addr} {fp wr : List Addr} {G : Array GenState → Array GenState → Prop} {n : Nat} {P : Nat → Value → Prop} {St : Nat → Shared → Prop} {K : Type} [DecidableEq K] {knd : KeyKind prog w K}
end
def rDPop : V → List V → Hp → VK → Prop := fun x vs H Q => ∃ a kvs k v, x = .ref a ∧ vs = [kV k] ∧ H a = some (.dK kvs) ∧ valV kvs k = some v ∧ Q v (upd H a (.dK (dropK kvs k)))
def rDUpd (K : PySem.W.Frag) : V → List V → Hp → VK → Prop := fun x vs H Q => ∃ (D a : Addr) (kvs : List (Key × V)) (ts : List (Addr × Key × V)), x = .ref D ∧ vs = [.ref a] ∧ H D = some (.dK kvs) ∧ H a = some (.lst (ts.map fun t => V.ref t.1)) ∧ (∀ t ∈ ts, H t.1 = some (.tup [kV t.2.1, t.2.2])) ∧ ts.length ≤ 1000 ∧ kvs.length ≤ 100000 ∧
  Q .non (upd H D (.dK (mergeK kvs (ts.map (·.2)))))
end L2
set_option Elab.async false
set_option linter.all false
set_option maxRecDepth 100000
namespace L2
open PySem PySem.Spec PyProof.Rows
def pairsAt (ts : List (Addr × Key × V)) (l : Addr) (H : Hp) : Hp := fun b => if b = l then some (.lst (ts.map fun t => V.ref t.1)) else
  match ts.find? fun t => decide (t.1 = b) with
  | some t => some (.tup [kV t.2.1, t.2.2])
  | none => H b
def tLstItems (to : TE) : TE := fun σ H Q => to σ H fun x H1 => ∃ d kvs, x = .ref d ∧ H1 d = some (.dK kvs) ∧
  ∀ (l : Addr) (ts : List (Addr × Key × V)) (H2 : Hp), H1 l = none → ts.map (·.2) = kvs → (∀ t ∈ ts, H1 t.1 = none ∧ H2 t.1 = some (.tup [kV t.2.1, t.2.2])) → (∀ b o, H1 b = some o → H2 b = some o) → H2 l = some (.lst (ts.map fun t => V.ref t.1)) → Q (.ref l) H2
end L2
set_option Elab.async false
set_option linter.all false
set_option maxRecDepth 100000
namespace L2
open PySem PySem.Spec PyProof.Rows
end L2
set_option Elab.async false
set_option linter.all false
set_option maxRecDepth 100000
namespace L2
open PySem PySem.Spec PyProof.Rows
section
variable {prog : Program} {w : World} {A : Around} {E : Value → Shared → Prop} {s : Shared} {l : Addr} {xs : Array (Int × Tok)}
end
def rMinQ (K : PySem.W.Frag) : List V → Hp → VK → Prop := fun vs H Q => ∃ (p : Addr) (ns : List Int), vs = [.ref p] ∧ SqT K H p (ns.map V.int) ∧ 0 < ns.length ∧ ∀ M, M ∈ ns → (∀ a ∈ ns, M ≤ a) → Q (.int M) H
end L2
set_option Elab.async false
set_option linter.all false
set_option maxRecDepth 100000
namespace L2
open PySem PySem.Spec PyProof.Rows
section
variable {X : Cx}
end
end L2
set_option Elab.async false
set_option linter.all false
set_option maxRecDepth 100000
namespace L2
open PySem PySem.Spec PyProof.Rows
section
variable {X : Cx}
end
end L2
set_option Elab.async false
set_option linter.all false
set_option maxRecDepth 100000
namespace L2
open PySem PySem.Spec PyProof.Rows
def tThawS (t : TS) : TS := fun D σ H => ∃ d u, H d = some u ∧ Mut (some u) ∧ t ⟨fun σ' H' => ∃ o, H' d = some (.frz o u) ∧ D.nx σ' (upd H' d u), fun _ _ => False, fun _ _ => False, fun _ _ => False⟩ σ H
def tCut (t u : TS) : TS := fun D σ H => ∃ M : St → Hp → Prop, t { D with nx := M } σ H ∧ ∀ σ' H', M σ' H' → u D σ' H'
end L2
set_option Elab.async false
set_option linter.all false
set_option maxRecDepth 100000
namespace L2
open PySem PySem.Spec PyProof.Rows
section
variable {prog : Program} {w : World} {A : Around} {E : Value → Shared → Prop} {s : Shared} {K : Type} [DecidableEq K] {knd : KeyKind prog w K}
end
def rDictC : List V → Hp → VK → Prop := fun xs H Q => ∃ (a : Addr) (kvs : List (Key × V)), xs = [.ref a] ∧ H a = some (.dK kvs) ∧ ∀ D, H D = none → Q (.ref D) (upd H D (.dK kvs))
section
variable {prog : Program} {w : World} {A : Around} {E : Value → Shared → Prop} {s : Shared} {K : Type} [DecidableEq K] {knd : HeapKind prog w K}
end
def rDictT : List V → Hp → VK → Prop := fun xs H Q => ∃ (a : Addr) (kvs : List (List Key × V)), xs = [.ref a] ∧ H a = some (.dT kvs) ∧ (∀ (P : Program) (w : World), ∀ x ∈ kvs.map (·.1), ∀ y ∈ kvs.map (·.1), (tupleKind (mixKind P w)).hash x = (tupleKind (mixKind P w)).hash y → x = y) ∧ ∀ D, H D = none → Q (.ref D) (upd H D (.dT kvs))
def pairH (a b : Nat) : Int := reduceHash (Builtin.Tuple.tupleHashOf [hashInt (a : Int), hashInt (b : Int)])
def pairs36 : List (Nat × Nat) := (List.range 36).flatMap fun b => (List.range b).map fun a => (a, b)
def apart : List Int → Bool
  | [] => true
  | x :: r => r.all (fun y => x != y) && apart r
end L2
set_option Elab.async false
set_option linter.all false
set_option maxRecDepth 100000
namespace L2
open PySem PySem.Spec PyProof.Rows
structure CompScC (N N' : List Str) (o c : Scope) : Prop where
  kind : c.kind = .function
  okind : o.kind = .function
  cel : ∀ y ∈ c.names, y.2 = .cell → c.names.lookup y.1 = some .cell
  loc : ∀ y ∈ c.names, y.2 = .local → c.names.lookup y.1 = some .local
  free : ∀ y ∈ c.names, y.2 = .free → c.names.lookup y.1 = some .free ∧ (o.names.lookup y.1 = some .cell ∨ o.names.lookup y.1 = some .free)
  len : N.length ≤ N'.length
  same : ∀ i ∈ List.range N.length, ∀ x ∈ N'[i]?, c.names.lookup x = some .local ∨ c.names.lookup x = some .free ∨ c.names.lookup x = some .cell → c.names.lookup x = some .free ∧ N[i]? = some x
  nd : N'.Nodup
def clsC (X : Cx) (c : Scope) (C : Addr) : List (Str × Addr) := cellsFrom (C + 1) c.names (clOf X.env.cells c.names [])
def compCxC (X : Cx) (c : Scope) (N' : List Str) (C : Addr) (s : Shared) (H : Hp) (fp : List Addr) : Cx :=
  { X with N := N', s₀ := s, H₀ := H, env := compEnvC c (clsC X c C) C X.env, outer := X.stack, stack := X.stack, ex := fp, fn := fun x => c.names.lookup x == some .cell, pn := [], xe := fun _ _ => False }
section
variable {X : Cx} {N N' : List Str} {o c : Scope}
variable {x : Str} {pos : Pos} {C : Addr} {s : Shared} {H : Hp} {fp : List Addr}
end
end L2
set_option Elab.async false
set_option linter.all false
set_option maxRecDepth 100000
namespace L2
open PySem PySem.Spec PyProof.Rows
section
variable {prog : Program} {w : World} {A : Around} {E : Value → Shared → Prop} {s : Shared}
end
def rTupR : List V → Hp → VK → Prop := fun xs H Q => ∃ (p : Addr) (lo hi : Int), xs = [.ref p] ∧ H p = some (.rng lo hi) ∧ -(2 ^ 62) ≤ lo ∧ lo < 2 ^ 62 ∧ -(2 ^ 62) ≤ hi ∧ hi < 2 ^ 62 ∧ (hi - lo).toNat ≤ 1000 ∧
  ∀ l, H l = none → Q (.ref l) (upd H l (.tup ((upsI lo (hi - lo).toNat).map V.int)))
end L2
set_option Elab.async false
set_option linter.all false
set_option maxRecDepth 100000
namespace L2
open PySem PySem.Spec PyProof.Rows
section
variable {prog : Program} {w : World} {A : Around} {R : Result → Shared → Prop} {I : Addr} {fp wr : List Addr} {G : Array GenState → Array GenState → Prop} {n : Nat} {P : Nat → Value → Prop} {St : Nat → Shared → Prop}
variable {K : Type} [DecidableEq K] {knd : KeyKind prog w K}
end
section
variable {prog : Program} {w : World} {A : Around} {E : Value → Shared → Prop} {s : Shared} {K : Type} [DecidableEq K] {knd : KeyKind prog w K}
end
end L2
namespace L2
open PySem PySem.Spec PyProof.Rows
def rDictU (K : PySem.W.Frag) : List V → Hp → VK → Prop := fun xs H Q => ∃ (a : Addr) (ts : List (Addr × Addr × List Key × V)), xs = [.ref a] ∧ SqL K H a (ts.map fun t => V.ref t.1) ∧ (∀ t ∈ ts, H t.1 = some (.tup [.ref t.2.1, t.2.2.2]) ∧ H t.2.1 = some (.tup (t.2.2.1.map kV))) ∧ ts.length ≤ 1000 ∧ (ts.map (·.2.2.1)).Nodup ∧
  ∀ D, H D = none → Q (.ref D) (upd H D (.dT (ts.map (·.2.2))))
end L2
set_option Elab.async false
set_option linter.all false
set_option maxRecDepth 100000
namespace L2
open PySem PySem.Spec PyProof.Rows
def gallop' : Bool → Keyed → Array Keyed → Nat → Nat → Nat → StateT SortSt Sem (Option Nat) := sortPriv% PySem.Builtin.gallop
def Has (κ : PyProof.Rows.KeyKind) (p : Keyed) : Prop := ∃ a, κ.keyOf p.1 = some a
def kyd (κ : PyProof.Rows.KeyKind) (p : Keyed) : κ.α := (κ.keyOf p.1).getD κ.dflt
def gAsk (left : Bool) (key : Keyed) (arr : Array Keyed) (base i : Nat) : StateT SortSt Sem (Option Bool) :=
  elem' arr (base + i) >>= fun x => if left = true then lt' x key else lt' key x >>= fun r => pure (r.map (!·))
def gB (κ : PyProof.Rows.KeyKind) (left : Bool) (key p : Keyed) : Bool := if left then κ.blt (kyd κ p) (kyd κ key) else !κ.blt (kyd κ key) (kyd κ p)
section
variable {prog : Program} {w : World} {A : Around} {E : Value → Shared → Prop} {s : Shared} {κ : PyProof.Rows.KeyKind} {k0 : SortKind} {a₀ : Array Keyed} {st : SortSt}
end
end L2
set_option Elab.async false
set_option linter.all false
set_option maxRecDepth 100000
namespace L2
open PySem PySem.Spec PyProof.Rows
section
variable {κ : PyProof.Rows.KeyKind}
def kS (κ : PyProof.Rows.KeyKind) (l : List Keyed) : Prop := l.Pairwise fun p q => κ.kle (kyd κ p) (kyd κ q)
def kLe (κ : PyProof.Rows.KeyKind) (l m : List Keyed) : Prop := ∀ x ∈ l, ∀ y ∈ m, κ.kle (kyd κ x) (kyd κ y)
structure Mg (κ : PyProof.Rows.KeyKind) (all out l m : List Keyed) : Prop where
  perm : (out ++ (l ++ m)).Perm all
  so : kS κ out
  sl : kS κ l
  sm : kS κ m
  ol : kLe κ out l
  om : kLe κ out m
structure Mh (κ : PyProof.Rows.KeyKind) (all l m out : List Keyed) : Prop where
  perm : ((l ++ m) ++ out).Perm all
  so : kS κ out
  sl : kS κ l
  sm : kS κ m
  lo : kLe κ l out
  mo : kLe κ m out
structure LoPre (κ : PyProof.Rows.KeyKind) (a b : Array Keyed) : Prop where
  ha : ∀ p ∈ a.toList, Has κ p
  hb : ∀ p ∈ b.toList, Has κ p
  sa : kS κ a.toList
  sb : kS κ b.toList
  a0 : 0 < a.size
  b0 : 0 < b.size
  fst : ∀ i, i < a.size → κ.kle (KK κ b 0) (KK κ a i)
  lst : ∀ i, i < b.size → κ.kle (KK κ b i) (KK κ a (a.size - 1))
def MEnd (κ : PyProof.Rows.KeyKind) (a b r : Array Keyed) : Prop := r.toList.Perm (a.toList ++ b.toList) ∧ kS κ r.toList
def Lo (κ : PyProof.Rows.KeyKind) (a b out : Array Keyed) (ia ib : Nat) : Prop := Mg κ (a.toList ++ b.toList) out.toList (a.toList.drop ia) (b.toList.drop ib)
variable {a b out : Array Keyed} {ia ib : Nat}
def Hi (κ : PyProof.Rows.KeyKind) (a b out : Array Keyed) (na nb : Nat) : Prop := Mh κ (a.toList ++ b.toList) (a.toList.take na) (b.toList.take nb) out.toList.reverse
variable {na nb : Nat}
end
end L2
set_option Elab.async false
set_option linter.all false
set_option maxRecDepth 100000
namespace L2
open PySem PySem.Spec PyProof.Rows
def mergeLo' : Array Keyed → Array Keyed → StateT SortSt Sem (Array Keyed) := sortPriv% PySem.Builtin.mergeLo
def mergeHi' : Array Keyed → Array Keyed → StateT SortSt Sem (Array Keyed) := sortPriv% PySem.Builtin.mergeHi
def Sm (st st' : SortSt) : Prop := kindOf st' = kindOf st ∧ arrOf st' = arrOf st ∧ pendingOf st' = pendingOf st ∧ failedOf st' = failedOf st
section
variable {prog : Program} {w : World} {A : Around} {E : Value → Shared → Prop} {s : Shared} {κ : PyProof.Rows.KeyKind} {k0 : SortKind} {st : SortSt} {α β γ : Type}
def LoIn (κ : PyProof.Rows.KeyKind) (a b : Array Keyed) (t : Nat) (out : Array Keyed) (ia ib : Nat) : Prop := Lo κ a b out ia ib ∧ ia + 1 < a.size ∧ ib < b.size ∧ t ≤ ia + ib
end
end L2
set_option Elab.async false
set_option linter.all false
set_option maxRecDepth 100000
namespace L2
open PySem PySem.Spec PyProof.Rows
section
variable {prog : Program} {w : World} {A : Around} {E : Value → Shared → Prop} {s : Shared} {κ : PyProof.Rows.KeyKind} {k0 : SortKind} {st : SortSt} {α β γ : Type} {a b out : Array Keyed} {na nb : Nat}
def HiIn (κ : PyProof.Rows.KeyKind) (a b : Array Keyed) (t : Nat) (out : Array Keyed) (na nb : Nat) : Prop := Hi κ a b out na nb ∧ 0 < na ∧ 1 < nb ∧ na ≤ a.size ∧ nb ≤ b.size ∧ na + nb + t ≤ a.size + b.size
end
end L2
set_option Elab.async false
set_option linter.all false
set_option maxRecDepth 100000
namespace L2
open PySem PySem.Spec PyProof.Rows
def offs : Nat → List (List Keyed) → List (Nat × Nat)
  | _, [] => []
  | o, r :: rs => (o, r.length) :: offs (o + r.length) rs
def fst2 (p : Nat × Nat × Nat) : Nat × Nat := (p.1, p.2.1)
section
variable {prog : Program} {w : World} {A : Around} {E : Value → Shared → Prop} {s : Shared} {κ : PyProof.Rows.KeyKind} {k0 : SortKind} {st : SortSt} {a₀ : Array Keyed}
structure Rn (κ : PyProof.Rows.KeyKind) (k0 : SortKind) (a₀ : Array Keyed) (st : SortSt) (rs : List (List Keyed)) (rest : List Keyed) : Prop where
  kind : kindOf st = k0
  failed : failedOf st = none
  arr : (arrOf st).toList = rs.flatten ++ rest
  perm : (arrOf st).Perm a₀
  srt : ∀ r ∈ rs, kS κ r
  ne : ∀ r ∈ rs, r ≠ []
  pend : (pendingOf st).toList.map fst2 = offs 0 rs
end
end L2
set_option Elab.async false
set_option linter.all false
set_option maxRecDepth 100000
namespace L2
open PySem PySem.Spec PyProof.Rows
section
variable {prog : Program} {w : World} {A : Around} {E : Value → Shared → Prop} {s : Shared} {κ : PyProof.Rows.KeyKind} {k0 : SortKind} {st st0 : SortSt} {a₀ : Array Keyed} {α : Type} {lo : Nat}
structure Ph (k0 : SortKind) (a₀ : Array Keyed) (lo : Nat) (st0 st : SortSt) : Prop where
  kind : kindOf st = k0
  failed : failedOf st = none
  pend : pendingOf st = pendingOf st0
  perm : (arrOf st).Perm a₀
  pre : ∀ k, k < lo → (arrOf st)[k]? = (arrOf st0)[k]?
def SgK (κ : PyProof.Rows.KeyKind) (xs : Array Keyed) (lo n : Nat) : Prop := ∀ i j, lo ≤ i → i ≤ j → j < lo + n → κ.kle (KK κ xs i) (KK κ xs j)
def NiK (κ : PyProof.Rows.KeyKind) (xs : Array Keyed) (lo n : Nat) : Prop := ∀ i j, lo ≤ i → i ≤ j → j < lo + n → κ.kle (KK κ xs j) (KK κ xs i)
end
end L2
set_option Elab.async false
set_option linter.all false
set_option maxRecDepth 100000
namespace L2
open PySem PySem.Spec PyProof.Rows
section
variable {prog : Program} {w : World} {A : Around} {E : Value → Shared → Prop} {s : Shared} {κ : PyProof.Rows.KeyKind} {k0 : SortKind} {st st0 : SortSt} {a₀ : Array Keyed} {lo : Nat} {rs : List (List Keyed)} {rest : List Keyed}
end
end L2
set_option Elab.async false
set_option linter.all false
set_option maxRecDepth 100000
namespace L2
open PySem PySem.Spec PyProof.Rows
section
variable {prog : Program} {w : World} {A : Around} {E : Value → Shared → Prop} {s : Shared} {κ : PyProof.Rows.KeyKind}
end
def rSrtTA (K : PySem.W.Frag) : List V → Hp → VK → Prop := fun xs H Q => ∃ (p : Addr) (ts : TupL) (sh : List Bool), xs = [.ref p] ∧ SqL K H p (refs ts) ∧ AtT H ts ∧ sh ≠ [] ∧ (∀ t ∈ ts, shape t.2 = sh) ∧
  ∀ (l : Addr) (ts' : TupL), H l = none → ts'.Perm ts → ts'.Pairwise (fun a b => lexB b.2 a.2 = false) → Q (.ref l) (upd H l (.lst (refs ts')))
def rSrtSA (K : PySem.W.Frag) : List V → Hp → VK → Prop := fun xs H Q => ∃ (p : Addr) (ss : List Str), xs = [.ref p] ∧ SqL K H p (ss.map V.str) ∧ ∀ (l : Addr) (ss' : List Str), H l = none → ss'.Perm ss → sortedS ss' = true → Q (.ref l) (upd H l (.lst (ss'.map V.str)))
end L2
set_option Elab.async false
set_option linter.all false
set_option maxRecDepth 100000
set_option maxHeartbeats 4000000
namespace L2
open PySem PySem.Spec PyProof.Rows
section
variable {X : Cx}
def rCatA (K : PySem.W.Frag) : R2 := fun x y H Q => ∃ a b xs ys, x = .ref a ∧ y = .ref b ∧ SqT K H a xs ∧ SqT K H b ys ∧ xs.length + ys.length ≤ sizeLine ∧
  (xs = [] → Q (.ref b) H) ∧ (xs ≠ [] → ys = [] → Q (.ref a) H) ∧ (xs ≠ [] → ys ≠ [] → ∀ p, H p = none → Q (.ref p) (upd H p (.tup (xs ++ ys))))
theorem op_catA : OpR X (binaryOp .Add) (rCatA X.K) := by
  intro pins s σ H x y v u Q I rx ry h
  obtain ⟨a, b, xs, ys, rfl, rfl, ha, hb, hz, q0, q1, q2⟩ := h
  by_cases hx : xs = []
  · cases rx
    cases ry
    obtain ⟨its, r1, p1, _⟩ := I.tuple ha
    obtain ⟨its2, r2, p2, _⟩ := I.tuple hb
    obtain ⟨⟨cls, dd, data, sl⟩, ho, hc, n, hd⟩ := id p1
    obtain ⟨⟨cls2, dd2, data2, sl2⟩, ho2, hc2, n2, hd2⟩ := id p2
    simp only at hc hd hc2 hd2
    subst hc hd hc2 hd2
    have e0 : its = [] := r1.nil_iff.mpr hx
    exact concat_meets ⟨_, ho, rfl⟩ ⟨_, ho2, rfl⟩ noFill_tuple_add seq_tuple_add PySem.F.slot_tuple_add PySem.F.entry_tuple_add (PySem.F.args_tuple_add_2 _ _)
      (tuple_addW0 a b its.toArray its2.toArray n n2 dd dd2 sl sl2 (by simp [e0])) ⟨ho, ho2, ⟨.ref b, H, I, rfl, q0 hx⟩⟩
  · exact op_catT pins s σ H _ _ v u Q I rx ry ⟨a, b, xs, ys, rfl, rfl, ha, hb, hx, hz, q1 hx, q2 hx⟩
theorem catA (K : PySem.W.Frag) (h : X.K = K := by rfl) : OpR X (binaryOp .Add) (rCatA K) := by subst h; exact op_catA
theorem catA_go {K : PySem.W.Frag} {H : Hp} {Q : VK} {a b : Addr} {xs ys : List V} (ha : H a = some (.tup xs)) (hb : H b = some (.tup ys)) (hz : xs.length + ys.length ≤ sizeLine)
    (q : ∀ r H', (∀ b o, H b = some o → H' b = some o) → H' r = some (.tup (xs ++ ys)) → Q (.ref r) H') : rCatA K (.ref a) (.ref b) H Q := by
  refine ⟨a, b, xs, ys, rfl, rfl, SqT.of ha, SqT.of hb, hz, fun e => q b H (fun _ _ h => h) (by rw [e]; exact hb), fun _ e => q a H (fun _ _ h => h) (by rw [e, List.append_nil]; exact ha), fun _ _ p hp => q p _ (fun b o h => by rw [upd_ne (fun e => by rw [e, hp] at h; cases h)]; exact h) upd_same⟩
end
section
variable {prog : Program} {w : World} {A : Around} {E : Value → Shared → Prop} {s : Shared} {a kS : Addr} {vs : List Value} {kz : List Int} {keys : Array Value} {e e1 : Nat} {P : PySem.Fin → Shared → Prop}
def Kp2 (a k : Addr) (h h' : Heap) : Prop := ∀ b o, b ≠ a → b ≠ k → h.get? b = some o → h'.get? b = some o
end
abbrev TL := List (Addr × List V)
def tRefs (ts : TL) : List V := ts.map fun t => V.ref t.1
def tSrtLen (K : PySem.W.Frag) (t : TA) : TE := fun σ H Q => t σ H fun xs H1 => ∃ (p : Addr) (ts : TL), xs = [.ref p] ∧ SqL K H1 p (tRefs ts) ∧ (∀ t ∈ ts, SqT K H1 t.1 t.2) ∧ ts.length < 64 ∧
  ∀ (l : Addr) (ts' : TL), H1 l = none → ts'.Perm ts → ts'.Pairwise (fun a b => a.2.length ≤ b.2.length) → Q (.ref l) (upd H1 l (.lst (tRefs ts')))
variable {X : Cx}
end L2
set_option Elab.async false
set_option linter.all false
set_option maxRecDepth 100000
set_option maxHeartbeats 4000000
namespace L2
open PySem PySem.Spec PyProof.Rows
section
variable {X : Cx}
def rIxDR : R2 := fun x y H Q => ∃ d kvs b ks v, x = .ref d ∧ y = .ref b ∧ Rd H d (.dT kvs) ∧ H b = some (.tup (ks.map kV)) ∧ lookK kvs ks = some v ∧ Q v H
theorem ix_dTR (hu : X.A.units + 64 < cLine) : IxR X rIxDR := by
  intro value slice pins s σ H x y v u Q I rx ry h hs
  obtain ⟨d, kvs, b, ks, z, rfl, rfl, hH, hb, hk, q⟩ := h
  cases rx
  cases ry
  obtain ⟨_, hd, xs, rel, o, es, ep, ho, hex, hdat, hent, hnd⟩ := (show ObjOk X.prog X.w H s.heap d (.dT kvs) from hH.ok I.hok)
  have hm : s.heap.DictOfH (tupleKind (mixKind X.prog X.w)) d xs := ⟨o, es, ep, ho, hex, hdat, hent, pair_all (R := fun ks b => (tupleKind (mixKind X.prog X.w)).is s.heap ks b) (fun ks b e => I.tkey e) rel, hnd⟩
  obtain ⟨p, hp, rp⟩ := look_at rel hk
  exact subscriptTail_builtinR (x := p.2) hm.typeIs PySem.F.slot_dict_getitem.lookup (wpAny_getItem_heap (knd := tupleKind (mixKind X.prog X.w)) (by show X.A.units + 1 < cLine; omega) (I.tkey hb) hm hp ⟨rfl, z, H, I.tok _, rp, q⟩) hs
theorem ixDR {k : Nat} (hr : Room k X.A) : IxR X rIxDR := ix_dTR hr.units
def rNotInD (K : PySem.W.Frag) : R2 := fun x y H Q => ∃ (l : Addr) (xs : List V) (ds : List PyData) (d : PyData), y = .ref l ∧ SqL K H l xs ∧ DVs K H xs ds ∧ DV K H x d ∧ PyData.canLayAll0 ds = true ∧ SeqAt.shaped d = true ∧ d.depth ≤ 60 ∧ Q (.bl (!ds.any fun e => PyData.eqv e d)) H
theorem op_notInD (hu : X.A.units + 64 < cLine) : OpR X (compareOp .NotIn) (rNotInD X.K) := by
  intro pins s σ H x y v u Q I rx ry h
  obtain ⟨l, xs, ds, d, rfl, hl, hds, hd, hc, hsd, hdep, q⟩ := h
  obtain ⟨as, ra⟩ := I.reads (.lst hl hds) ry
  obtain ⟨bs, rb⟩ := I.reads hd rx
  exact SeqAt.notIn_list_reads ra rb hc (SeqAt.canLay_of_shaped hsd) (by have := Nat.min_le_right (PyData.depthAll ds) d.depth; omega) ⟨.bl _, H, I, rfl, q⟩
theorem notInD (K : PySem.W.Frag) {k : Nat} (hr : Room k X.A) (h : X.K = K := by rfl) : OpR X (compareOp .NotIn) (rNotInD K) := by subst h; exact op_notInD hr.units
end
section
variable {prog : Program} {w : World} {A : Around} {E : Value → Shared → Prop} {s : Shared} {it d : Addr} {i ep : Nat} {es : Array DictEntry} {od : Obj} {ok ov : Value}
theorem next_pair {Q : Option Value → Shared → Prop} (hit : IsItemIter s.heap it d i es.size ep ok ov) (hod : s.heap.get? d = some od) (hdd : od.data = .dict es ep) (hlt : i < es.size)
    (hQ : ∀ h', IsItemIterOut h' it d (i + 1) es.size ep es[i].key es[i].val s.heap.objs.size → h'.get? s.heap.objs.size = some { cls := .type "tuple", data := .seq #[es[i].key, es[i].val] } → h'.objs.size = s.heap.objs.size + 1 →
      (∀ b o, b ≠ it → s.heap.get? b = some o → h'.get? b = some o) → Q (some (.ref s.heap.objs.size)) { s with heap := h' }) : wpAny (model prog w) A (pyNext (.ref it)) Q E s := by
  obtain ⟨hp, g, dr, tk, os⟩ := s
  have ty : ∀ {h : Heap} {j : Nat} {a b : Value}, IsItemIter h it d j es.size ep a b → Shared.TypeIs ⟨h, g, dr, tk, os⟩ (.ref it) "dict_itemiterator" := fun e => ⟨_, e, rfl⟩
  have hil : it < hp.objs.size := Heap.lt_size hit
  have hown : Builtin.Dict_items.ownsTuple "dict_itemiterator" = true := by decide
  unfold pyNext
  refine wpAny_bind (wpAny_attempt (wpAny_callSpecial?_slot (name := Str.ofString "__next__") (ty hit) PySem.F.slot_dict_itemiterator_next (wpAny_call_entry PySem.F.slot_dict_itemiterator_next (ty hit) PySem.F.entry_dict_itemiterator_next ?_ (PySem.F.args_dict_itemiterator_next_1 _))))
  refine wpAny_bind (wpAny_pure (wpAny_bind (wpAny_bind ?_)))
  first | refine wpAny_bind (wpAny_typeNameOfWhole_itemiter (ty hit) (wpAny_pure ?_)) | refine wpAny_bind (wpAny_typeNameOf_itemiter (ty hit) (wpAny_pure ?_))
  refine wpAny_bind (wpAny_fieldsOf hit rfl ?_)
  simp only [hown, if_true]
  show wpAny _ _ (if (Value.ref d == Value.none) = true then _ else _) _ _ _
  rw [if_neg (show ¬ ((Value.ref d == Value.none) = true) from Bool.false_ne_true)]
  refine wpAny_bind (wpAny_pure (wpAny_bind (wpAny_dictEntries hod hdd ?_)))
  rw [if_neg (by simp)]
  refine wpAny_bind (wpAny_pure (wpAny_bind (wpAny_dictEpoch hod hdd ?_)))
  rw [if_neg (by simp)]
  refine wpAny_pure ?_
  simp only [show ¬ ((i : Int) < 0) from by omega, if_false, Int.toNat_natCast, Array.getElem?_eq_getElem hlt]
  refine wpAny_bind ?_
  first | refine wpAny_bind (wpAny_typeNameOfWhole_itemiter (ty hit) (wpAny_pure ?_)) | refine wpAny_bind (wpAny_typeNameOf_itemiter (ty hit) (wpAny_pure ?_))
  refine wpAny_bind (wpAny_isOneOf_itemiter (ty hit) ?_)
  show wpAny _ _ (setField (.ref it) 3 (rawInt ((i : Int) + 1)) >>= _) _ _ ⟨hp, g, dr, tk, os⟩
  refine wpAny_bind (wpAny_setField_rec hit (by simp) fun h₁ he₁ hs₁ => ?_)
  replace hs₁ : Heap.SameBut it hp h₁ := hs₁
  replace he₁ : IsItemIter h₁ it d (i + 1) es.size ep ok ov := by
    unfold IsItemIter; rw [show ((i + 1 : Nat) : Int) = (i : Int) + 1 by omega]; simpa [rawInt] using he₁
  refine wpAny_bind (wpAny_holding (wpAny_bind (wpAny_isOneOf_itemiter (ty he₁) (wpAny_bind (wpAny_isOneOf_itemiter (ty he₁) ?_)))))
  show wpAny _ _ (Builtin.Dict_items.pairFromOwner (.ref it) 6 es[i].key es[i].val) _ _ ⟨h₁, g, dr, tk, os⟩
  unfold Builtin.Dict_items.pairFromOwner
  refine wpAny_bind (wpAny_newTuple ?_)
  have he₂ : IsItemIter (h₁.push { cls := .type "tuple", data := .seq #[es[i].key, es[i].val] }) it d (i + 1) es.size ep ok ov := Heap.get?_push_of_some _ he₁
  have ht₂ : (h₁.push { cls := .type "tuple", data := .seq #[es[i].key, es[i].val] }).get? hp.objs.size = some { cls := .type "tuple", data := .seq #[es[i].key, es[i].val] } := by rw [← hs₁.1]; exact Heap.get?_push_size _ rfl
  have hz₂ : (h₁.push { cls := .type "tuple", data := .seq #[es[i].key, es[i].val] }).objs.size = hp.objs.size + 1 := by rw [Heap.size_push, hs₁.1]
  have hk₂ : ∀ b o, b ≠ it → hp.get? b = some o → (h₁.push { cls := .type "tuple", data := .seq #[es[i].key, es[i].val] }).get? b = some o := fun b o hb e => Heap.get?_push_of_some _ (hs₁.extBut b o hb e)
  have hz₁ : h₁.objs.size = hp.objs.size := hs₁.1
  show wpAny _ _ (Builtin.Dict_items.ownedTupleIsFree (.ref it) >>= _) _ _ ⟨h₁.push { cls := .type "tuple", data := .seq #[es[i].key, es[i].val] }, g, dr, tk, os⟩
  rw [hz₁]
  generalize h₁.push { cls := .type "tuple", data := .seq #[es[i].key, es[i].val] } = h₂ at he₂ ht₂ hz₂ hk₂ ⊢
  clear hz₁ he₁ hs₁ h₁
  refine wpAny_bind ?_
  unfold Builtin.Dict_items.ownedTupleIsFree
  refine wpAny_bind (wpAny_field he₂ rfl (x := .none) rfl (wpAny_pure ?_))
  simp only [if_true]
  refine wpAny_bind (wpAny_field he₂ rfl (x := ok) rfl (wpAny_bind (wpAny_field he₂ rfl (x := ov) rfl ?_)))
  refine wpAny_bind (wpAny_setField_rec he₂ (by simp) fun h₃ he₃ hs₃ => ?_)
  replace hs₃ : Heap.SameBut it h₂ h₃ := hs₃
  replace he₃ : IsItemIter h₃ it d (i + 1) es.size ep es[i].key ov := he₃
  refine wpAny_bind (wpAny_setField_rec he₃ (by simp) fun h₄ he₄ hs₄ => ?_)
  replace hs₄ : Heap.SameBut it h₃ h₄ := hs₄
  replace he₄ : IsItemIter h₄ it d (i + 1) es.size ep es[i].key es[i].val := he₄
  refine wpAny_bind (wpAny_setField_rec he₄ (by simp) fun h₅ he₅ hs₅ => ?_)
  replace hs₅ : Heap.SameBut it h₄ h₅ := hs₅
  replace he₅ : IsItemIterOut h₅ it d (i + 1) es.size ep es[i].key es[i].val hp.objs.size := he₅
  refine wpAny_bind (wpAny_setField_rec he₅ (by simp) fun h₆ he₆ hs₆ => ?_)
  replace hs₆ : Heap.SameBut it h₅ h₆ := hs₆
  replace he₆ : IsItemIterOut h₆ it d (i + 1) es.size ep es[i].key es[i].val hp.objs.size := he₆
  have up : ∀ b o, b ≠ it → h₂.get? b = some o → h₆.get? b = some o := fun b o hb e => hs₆.extBut b o hb (hs₅.extBut b o hb (hs₄.extBut b o hb (hs₃.extBut b o hb e)))
  refine wpAny_bind (wpAny_letGo (wpAny_pure (wpAny_pure ⟨_, rfl, wpAny_pure (hQ h₆ he₆ (up _ _ (Nat.ne_of_gt hil) ht₂) ?_ fun b o hb e => up b o hb (hk₂ b o hb e))⟩)))
  show h₆.objs.size = hp.objs.size + 1
  rw [hs₆.1, hs₅.1, hs₄.1, hs₃.1, hz₂]
theorem next_none {Q : Option Value → Shared → Prop} (hh : A.handled = none) (hit : IsItemIter s.heap it d i es.size ep ok ov) (hod : s.heap.get? d = some od) (hdd : od.data = .dict es ep) (hge : es.size ≤ i)
    (hQ : ∀ h', Heap.ExtBut it s.heap h' → Q none { s with heap := h' }) : wpAny (model prog w) A (pyNext (.ref it)) Q E s := by
  have ty : s.TypeIs (.ref it) "dict_itemiterator" := ⟨_, hit, rfl⟩
  have hown : Builtin.Dict_items.ownsTuple "dict_itemiterator" = true := by decide
  unfold pyNext
  refine wpAny_bind (wpAny_attempt (wpAny_callSpecial?_slot (name := Str.ofString "__next__") ty PySem.F.slot_dict_itemiterator_next (wpAny_call_entry PySem.F.slot_dict_itemiterator_next ty PySem.F.entry_dict_itemiterator_next ?_ (PySem.F.args_dict_itemiterator_next_1 _))))
  refine wpAny_bind (wpAny_pure (wpAny_bind (wpAny_bind ?_)))
  first | refine wpAny_bind (wpAny_typeNameOfWhole_itemiter ty (wpAny_pure ?_)) | refine wpAny_bind (wpAny_typeNameOf_itemiter ty (wpAny_pure ?_))
  refine wpAny_bind (wpAny_fieldsOf hit rfl ?_)
  simp only [hown, if_true]
  show wpAny _ _ (if (Value.ref d == Value.none) = true then _ else _) _ _ s
  rw [if_neg (show ¬ ((Value.ref d == Value.none) = true) from Bool.false_ne_true)]
  refine wpAny_bind (wpAny_pure (wpAny_bind (wpAny_dictEntries hod hdd ?_)))
  rw [if_neg (by simp)]
  refine wpAny_bind (wpAny_pure (wpAny_bind (wpAny_dictEpoch hod hdd ?_)))
  rw [if_neg (by simp)]
  refine wpAny_pure ?_
  simp only [show ¬ ((i : Int) < 0) from by omega, if_false, Int.toNat_natCast, Array.getElem?_eq_none hge]
  refine wpAny_bind ?_
  first | refine wpAny_bind (wpAny_typeNameOfWhole_itemiter ty (wpAny_pure ?_)) | refine wpAny_bind (wpAny_typeNameOf_itemiter ty (wpAny_pure ?_))
  show wpAny _ _ (setField (.ref it) 2 .none >>= _) _ _ s
  refine wpAny_bind (wpAny_setField hit rfl (by simp) ?_)
  show wpAny _ _ (newExc (.type "StopIteration") [] >>= _) _ _ _
  refine wpAny_bind ?_
  simp only [newExc, newTuple]
  refine wpAny_bind (wpAny_newObj_type ?_ (by size_fits))
  refine wpAny_bind (m := firstArgMember _ _) (wpAny_of_eq (a := Value.none) (by first | rfl | (simp only [firstArgMember]; rfl)) ?_)
  refine wpAny_newObj_type ?_ (by size_fits)
  simp only [raiseNew]
  refine wpAny_bind (wpAny_handled ?_)
  rw [show A.in1.handled = none from hh]
  refine wpAny_bind (wpAny_pure (wpAny_throw ?_))
  refine wpAny_bind (wpAny_isInstance (T := "StopIteration") (b := true) ⟨_, Heap.get?_push_size _ rfl, rfl⟩ isSubtype_stop ?_)
  exact wpAny_pure (hQ _ (((Heap.SameBut.update ..).extBut.push _).push _))
end
def ItiT (d : Addr) (o : Obj) (kvs : List (List Key × V)) : It :=
  ⟨fun i H => H d = some (.frz o (.dT kvs)) ∧ i < kvs.length,
   fun i H v H' => ∃ p b ks x, H p = none ∧ v = .ref p ∧ kvs[i]? = some (ks, x) ∧ H b = some (.tup (ks.map kV)) ∧ H' = upd H p (.tup [.ref b, x]),
   fun i H => H d = some (.frz o (.dT kvs)) ∧ kvs.length ≤ i⟩
theorem pair_at {H : Hp} {kvs : List (List Key × V)} {xs : List (List Key × Addr × Value)} (r : PairT H kvs xs) : ∀ (i : Nat) (ks : List Key) (x : V), kvs[i]? = some (ks, x) → ∃ b u, xs[i]? = some (ks, b, u) ∧ H b = some (.tup (ks.map kV)) ∧ RelV x u := by
  induction r with
  | nil => intro i k x h; simp at h
  | @cons p q ps qs h t ih =>
    intro i k x hx
    cases i with
    | zero =>
      have e : p = (k, x) := by simpa using hx
      subst e
      obtain ⟨k', b, u⟩ := q
      obtain ⟨e1, e2, e3⟩ := h
      have e1 : k = k' := e1
      subst e1
      exact ⟨b, u, rfl, e2, e3⟩
    | succ i => simpa using ih i k x (by simpa using hx)
theorem Inv.dictFT {X : Cx} {pins : List (Addr × Obj)} {σ : St} {H : Hp} {s : Shared} {d : Addr} {o : Obj} {kvs : List (List Key × V)} {es : Array DictEntry} {ep : Nat} (I : Inv X pins σ H s) (e : H d = some (.frz o (.dT kvs))) (hd : o.data = .dict es ep) :
    s.heap.get? d = some o ∧ es.size = kvs.length ∧ ∀ (i : Nat) (ks : List Key) (x : V) (hi : i < es.size), kvs[i]? = some (ks, x) → ∃ b, H b = some (.tup (ks.map kV)) ∧ es[i].key = .ref b ∧ RelV x es[i].val := by
  obtain ⟨ho, _, _, xs, rel, o', es', ep', h1, h2, h3, h4, h5⟩ := (show ObjOk X.prog X.w H s.heap d (.frz o (.dT kvs)) from I.hok d _ e)
  rw [ho] at h1
  cases h1
  rw [hd] at h3
  cases h3
  have hsz : es.size = kvs.length := by rw [← Array.length_toList, h4, List.length_map, pair_len rel]
  refine ⟨ho, hsz, fun i ks x hi hx => ?_⟩
  obtain ⟨b, u, hb, hH, hr⟩ := pair_at rel i ks x hx
  have he : es.toList[i]? = some (entryOfKey (tupleKind (mixKind X.prog X.w)) (ks, b, u)) := by rw [h4, List.getElem?_map, hb]; rfl
  rw [Array.getElem?_toList, Array.getElem?_eq_getElem hi] at he
  have he := Option.some.inj he
  rw [he]
  exact ⟨b, hH, rfl, hr⟩
theorem turn_itemsT {P : Program} {w : World} {K : PySem.W.Frag} {elts : List Expr} {x1 : Nat} {tpos : Pos} {d it : Addr} {o : Obj} {kvs : List (List Key × V)} {es : Array DictEntry} {ep : Nat} (hd : o.data = .dict es ep) :
    Turn P w K (.Tuple elts x1 tpos) (ItiT d o kvs) [it] it (fun i h => ∃ ok ov, IsItemIter h it d i kvs.length ep ok ov) where
  mem := by simp
  obj := fun i h st b hb => by
    obtain ⟨ok, ov, he⟩ := st
    rw [List.mem_singleton.mp hb]
    exact ⟨_, he, fun v z => by cases z⟩
  keep := fun i h h' st k => by
    obtain ⟨ok, ov, he⟩ := st
    exact ⟨ok, ov, k it (by simp) _ he⟩
  item := by
    intro X hP hw hK hc i pins s σ H E I hf st hg
    subst hP hw hK
    obtain ⟨ok, ov, he⟩ := st
    obtain ⟨hfz, hi⟩ := hg
    obtain ⟨ho, hsz, hat⟩ := I.dictFT hfz hd
    obtain ⟨b, hb, ek, ru⟩ := hat i kvs[i].1 kvs[i].2 (by omega) (List.getElem?_eq_getElem hi)
    rw [← hsz] at he
    refine next_pair he ho hd (by omega) fun h' a1 a2 a3 a4 => ?_
    have hes : s.heap.objs.size ≠ it := Nat.ne_of_gt (Heap.lt_size he)
    refine ⟨_, rfl, wpAny_letOwnedTupleGo_items a1 fun h'' he'' hs'' => ?_⟩
    have hs' : Heap.SameBut it h' h'' := hs''
    have I2 : Inv X pins σ (upd H s.heap.objs.size (.tup [.ref b, kvs[i].2])) { s with heap := h'', toks := s.toks } := by
      refine I.zipped (fp := [it]) (u := es[i].key) (v := es[i].val) hf (by rw [ek]; rfl) ru (hs'.extBut _ _ hes a2) (fun c hc => ?_) fun c o hc q => ?_
      · have e := List.mem_singleton.mp hc
        subst e
        exact ⟨_, he''⟩
      · have hc' : c ≠ it := fun z => hc (by rw [z]; simp)
        exact hs'.extBut _ _ hc' (a4 c o hc' q)
    have he3 : ∃ a b, IsItemIter h'' it d (i + 1) kvs.length ep a b := by
      generalize es[i].key = kk at he''
      generalize es[i].val = vv at he''
      rw [hsz] at he''
      exact ⟨_, _, he''⟩
    refine ⟨.ref s.heap.objs.size, _, I2, rfl, ⟨s.heap.objs.size, b, kvs[i].1, kvs[i].2, I.fresh, rfl, List.getElem?_eq_getElem hi, hb, rfl⟩, he3, fun c hc => ?_⟩
    have e := List.mem_singleton.mp hc
    subst e
    rw [upd_ne hes.symm]
    exact (hf _ hc).1
  done := by
    intro X hP hw hK hc i pins s σ H E I hf st hg
    subst hP hw hK
    obtain ⟨ok, ov, he⟩ := st
    obtain ⟨f0, f1, f2, f3, f4, f5⟩ := hf it (by simp)
    obtain ⟨hfz, hi⟩ := hg
    obtain ⟨ho, hsz, _⟩ := I.dictFT hfz hd
    rw [← hsz] at he
    exact next_none (I.ok.hd hc) he ho hd (by omega) fun h' eb => ⟨rfl, I.turned (t' := s.toks) (fun b o hb e => eb b o hb e) f0 f1 f3 f4 f5⟩
  self := fun _ _ _ _ _ st h => by obtain ⟨ok, ov, he⟩ := st; exact PySem.W.kcp_self he h
def iItemsT (tl : TE) : TI := fun σ H R => tl σ H fun x H1 => ∃ d kvs, x = .ref d ∧ H1 d = some (.dT kvs) ∧ ∀ o, R (ItiT d o kvs) (upd H1 d (.frz o (.dT kvs)))
theorem pi_itemsT {X : Cx} {elts : List Expr} {x1 : Nat} {tpos : Pos} {o : Expr} {to : TE} {apos cpos : Pos} (ho : PE X o to) (hbase : attributeBase o "items" X.env (eval o X.env) = eval o X.env := by rfl) (hline : (apos.endLine == cpos.line) = true := by rfl) :
    PI X (.Tuple elts x1 tpos) (.Call (.Attribute o "items" apos) [] [] cpos) (iItemsT to) := by
  intro pins s σ H R I h
  refine wpAny_Call_method0_late hbase hline (thn (ho pins s σ H _ I h) fun v s1 ⟨x, H1, I1, r1, q1⟩ => ?_)
  obtain ⟨d, kvs, e, hd, q⟩ := q1
  subst e
  cases r1
  obtain ⟨z, lo, xs, rel, ob, es, ep, h1, h2, h3, h4, h5⟩ := (show ObjOk X.prog X.w H1 s1.heap d (.dT kvs) from I1.hok d _ hd)
  have hlen : es.size = kvs.length := by rw [← Array.length_toList, h4, List.length_map, pair_len rel]
  have I2 := I1.freeze hd True.intro h1
  have ty : s1.TypeIs (.ref d) "dict" := ⟨ob, h1, h2.1⟩
  refine ⟨"dict", "dict.items", PySem.F.plainAttrs_dict, PySem.F.slot_dict_items, PySem.F.type_dict_items, ty, fun a e => ?_, ?_⟩
  · cases e; exact ⟨ob, h1, h2.2.1⟩
  refine Calls.callWith_builtin rfl (PySem.evalArgs_none ?_)
  refine wpAny_call_entry PySem.F.slot_dict_items ty PySem.F.entry_dict_items ?_ (PySem.F.args_dict_items_1 _)
  unfold Builtin.«dict.items»
  refine wpAny_bind ?_
  unfold Builtin.Dict.noArgs
  refine wpAny_bind (wpAny_notOrdered_dict ty ?_)
  show wpAny _ _ (pure d) _ _ s1
  refine wpAny_pure ?_
  show wpAny _ _ (Builtin.Dict.showsAll d >>= _) _ _ s1
  unfold Builtin.Dict.showsAll
  rw [if_neg (by rw [lo]; exact Bool.false_ne_true)]
  refine wpAny_bind (wpAny_pure (wpAny_bind (wpAny_newObj_type (wpAny_pure ⟨_, rfl, ?_⟩))))
  have hov : (s1.heap.push { cls := .type "dict_items", data := .fields #[.ref d] }).get? s1.heap.objs.size = some { cls := .type "dict_items", data := .fields #[.ref d] } := Heap.get?_push_size _ rfl
  have hv : (s1.heap.push { cls := .type "dict_items", data := .fields #[.ref d] }).IsItemsView s1.heap.objs.size d := ⟨_, hov, rfl, rfl⟩
  have h1' : (s1.heap.push { cls := .type "dict_items", data := .fields #[.ref d] }).get? d = some ob := Heap.get?_push_of_some _ h1
  have hown : Builtin.Dict_items.ownsTuple "dict_itemiterator" = true := by decide
  have I3 : Inv X pins σ (upd H1 d (.frz ob (.dT kvs))) { s1 with heap := s1.heap.push { cls := .type "dict_items", data := .fields #[.ref d] } } := I2.kept (t' := s1.toks) fun b o e => Heap.get?_push_of_some _ e
  refine wpAny_pyIter_slot (s := { s1 with heap := s1.heap.push { cls := .type "dict_items", data := .fields #[.ref d] } }) hv.typeIs PySem.F.slot_dict_items_iter (wpAny_call_entry PySem.F.slot_dict_items_iter hv.typeIs PySem.F.entry_dict_items_iter ?_ (PySem.F.args_dict_items_iter_1 _))
  unfold Builtin.«dict_items.__iter__»
  refine wpAny_bind (wpAny_pure (wpAny_bind ?_))
  unfold Builtin.Dict_items.dictOf
  refine wpAny_bind (wpAny_field hov rfl (x := .ref d) rfl (wpAny_pure (wpAny_bind ?_)))
  unfold Builtin.Dict_items.newIterator
  refine wpAny_bind (wpAny_dictEntries h1' h3 (wpAny_bind (wpAny_dictEpoch h1' h3 ?_)))
  simp only [hown, if_true]
  refine wpAny_newObj_type (wpAny_pure ⟨_, rfl, "dict_itemiterator", _, ⟨_, Heap.get?_push_size _ rfl, rfl⟩, PySem.F.slot_dict_itemiterator_next.lookup, ?_⟩)
    (by simp only [sizeOk, Builtin.Dict_items.ownedTupleFields, List.size_toArray, List.length_append, List.length_cons, List.length_nil, sizeLine_eq]; omega)
  refine ⟨_, [_], _, ItiT d ob kvs, upd H1 d (.frz ob (.dT kvs)), rfl, I3.kept (t' := s1.toks) fun b o e => Heap.get?_push_of_some _ e, turn_itemsT h3, ⟨.none, .none, ?_⟩, fun b hb => ?_, q ob⟩
  · rw [← hlen]; exact Heap.get?_push_size _ rfl
  · rw [List.mem_singleton.mp hb]
    exact I3.fpOk (Nat.le_refl _) (I3.hok.fresh (Nat.le_refl _))
theorem dict_listT {K : PySem.W.Frag} {a : Addr} {xs : List V} {k : Nat} {D : Addr} {σ : St} {H1 : Hp} {g : TG} {tk te : TE} {Q : VK} (Pv : Nat → List (List Key × V) → St → Hp → Prop) (h0 : Pv 0 [] (σ ++ List.replicate k none) (upd H1 D (.dT [])))
    (hl : ∀ i ys σ H, Pv i ys σ H → SqL K H a xs)
    (hs : ∀ i x ys σ H, xs[i]? = some x → Pv i ys σ H → g x σ H fun σ4 H4 => tk σ4 H4 fun kv H6 => te σ4 H6 fun y H7 => ∃ (b : Addr) (ks : List Key), kv = .ref b ∧ H7 D = some (.dT ys) ∧ H7 b = some (.tup (ks.map kV)) ∧ lookK ys ks = none ∧ ys.length < sizeLine ∧ Pv (i + 1) (ys ++ [(ks, y)]) σ4 (upd H7 D (.dT (ys ++ [(ks, y)]))))
    (hd : ∀ ys σ H, Pv xs.length ys σ H → Q (.ref D) H) : DictGo (Itl K a) D k σ H1 g tYes tk te Q := by
  refine ⟨fun i m ys σ H => m = xs.length - i ∧ i ≤ xs.length ∧ Pv i ys σ H, ⟨xs.length, by simp, Nat.zero_le _, h0⟩, ?_⟩
  rintro i m ys σ H ⟨rfl, hi, p⟩
  have q1 := hl i ys σ H p
  by_cases hlt : i < xs.length
  · refine .inr ⟨⟨xs, xs[i], q1, List.getElem?_eq_getElem hlt⟩, Pv (i + 1), fun ys' σ' H' p' => ⟨xs.length - (i + 1), by omega, rfl, hlt, p'⟩, fun x H' y => ?_⟩
    obtain ⟨rfl, e⟩ := y
    simp only [tYes, ↓reduceIte]
    exact hs i x ys σ _ (e xs q1) p
  · have e : i = xs.length := by omega
    exact .inl ⟨⟨xs, q1, by omega⟩, hd ys σ H (e ▸ p)⟩
theorem dict_itemsT {d : Addr} {o : Obj} {kvs : List (List Key × V)} {k : Nat} {D : Addr} {σ : St} {H1 : Hp} {g : TG} {tk te : TE} {Q : VK} (Pv : Nat → List (List Key × V) → St → Hp → Prop) (h0 : Pv 0 [] (σ ++ List.replicate k none) (upd H1 D (.dT [])))
    (hl : ∀ i ys σ H, Pv i ys σ H → H d = some (.frz o (.dT kvs)))
    (hs : ∀ i ks x ys σ H p b, kvs[i]? = some (ks, x) → Pv i ys σ H → H p = none → H b = some (.tup (ks.map kV)) → g (.ref p) σ (upd H p (.tup [.ref b, x])) fun σ4 H4 => tk σ4 H4 fun kv H6 => te σ4 H6 fun y H7 => ∃ (b : Addr) (ks : List Key), kv = .ref b ∧ H7 D = some (.dT ys) ∧ H7 b = some (.tup (ks.map kV)) ∧ lookK ys ks = none ∧ ys.length < sizeLine ∧ Pv (i + 1) (ys ++ [(ks, y)]) σ4 (upd H7 D (.dT (ys ++ [(ks, y)]))))
    (hd : ∀ ys σ H, Pv kvs.length ys σ H → Q (.ref D) H) : DictGo (ItiT d o kvs) D k σ H1 g tYes tk te Q := by
  refine ⟨fun i m ys σ H => m = kvs.length - i ∧ i ≤ kvs.length ∧ Pv i ys σ H, ⟨kvs.length, by simp, Nat.zero_le _, h0⟩, ?_⟩
  rintro i m ys σ H ⟨rfl, hi, p⟩
  have q1 := hl i ys σ H p
  by_cases hlt : i < kvs.length
  · refine .inr ⟨⟨q1, hlt⟩, Pv (i + 1), fun ys' σ' H' p' => ⟨kvs.length - (i + 1), by omega, rfl, hlt, p'⟩, fun x H' y => ?_⟩
    obtain ⟨r, b, ks, x', hr, rfl, e, hb, rfl⟩ := y
    simp only [tYes, ↓reduceIte]
    exact hs i ks x' ys σ H r b e p hr hb
  · have e : i = kvs.length := by omega
    exact .inl ⟨⟨q1, by omega⟩, hd ys σ H (e ▸ p)⟩
end L2
set_option Elab.async false
set_option linter.all false
set_option maxRecDepth 100000
set_option maxHeartbeats 4000000
namespace My
open PySem L2 PyProof.Rows
def hdS : List Stmt → Stmt
  | a :: _ => a
  | [] => .Pass ⟨0, 0, 0, 0⟩
abbrev body0 : List Stmt := PySem.Challenge.pw_mergetree_k70_whole_near_beside_all_near.main.body
abbrev st_near_plan : Stmt := hdS (List.tail body0)
abbrev st_prices_for : Stmt := hdS (List.tail (List.tail body0))
abbrev st_least_groves : Stmt := hdS (List.tail (List.tail (List.tail body0)))
abbrev st_least_tree : Stmt := hdS (List.tail (List.tail (List.tail (List.tail body0))))
abbrev st_least_grove : Stmt := hdS (List.tail (List.tail (List.tail (List.tail (List.tail body0)))))
abbrev st_least_cut : Stmt := hdS (List.tail (List.tail (List.tail (List.tail (List.tail (List.tail body0))))))
abbrev st_is_number : Stmt := hdS (List.tail (List.tail (List.tail (List.tail (List.tail (List.tail (List.tail (List.tail body0))))))))
abbrev st_is_triple : Stmt := hdS (List.tail (List.tail (List.tail (List.tail (List.tail (List.tail (List.tail (List.tail (List.tail body0)))))))))
abbrev st_finds_rows : Stmt := hdS (List.tail (List.tail (List.tail (List.tail (List.tail (List.tail (List.tail (List.tail (List.tail (List.tail (List.tail body0)))))))))))
abbrev st_cost_of : Stmt := hdS (List.tail (List.tail (List.tail (List.tail (List.tail (List.tail (List.tail (List.tail (List.tail (List.tail (List.tail (List.tail body0))))))))))))
abbrev st_size_and_cost : Stmt := hdS (List.tail (List.tail (List.tail (List.tail (List.tail (List.tail (List.tail (List.tail (List.tail (List.tail (List.tail (List.tail (List.tail body0)))))))))))))
abbrev st_shows_near : Stmt := hdS (List.tail (List.tail (List.tail (List.tail (List.tail (List.tail (List.tail (List.tail (List.tail (List.tail (List.tail (List.tail (List.tail (List.tail (List.tail body0)))))))))))))))
abbrev st_is_near : Stmt := hdS (List.tail (List.tail (List.tail (List.tail (List.tail (List.tail (List.tail (List.tail (List.tail (List.tail (List.tail (List.tail (List.tail (List.tail (List.tail (List.tail body0))))))))))))))))
abbrev st_are_prices : Stmt := hdS (List.tail (List.tail (List.tail (List.tail (List.tail (List.tail (List.tail (List.tail (List.tail (List.tail (List.tail (List.tail (List.tail (List.tail (List.tail (List.tail (List.tail body0)))))))))))))))))
abbrev st_stretches_of : Stmt := hdS (List.tail (List.tail (List.tail (List.tail (List.tail (List.tail (List.tail (List.tail (List.tail (List.tail (List.tail (List.tail (List.tail (List.tail (List.tail (List.tail (List.tail (List.tail body0))))))))))))))))))
abbrev st_cut_prices : Stmt := hdS (List.tail (List.tail (List.tail (List.tail (List.tail (List.tail (List.tail (List.tail (List.tail (List.tail (List.tail (List.tail (List.tail (List.tail (List.tail (List.tail (List.tail (List.tail (List.tail body0)))))))))))))))))))
abbrev st_part_sums : Stmt := hdS (List.tail (List.tail (List.tail (List.tail (List.tail (List.tail (List.tail (List.tail (List.tail (List.tail (List.tail (List.tail (List.tail (List.tail (List.tail (List.tail (List.tail (List.tail (List.tail (List.tail body0))))))))))))))))))))
abbrev st_most_price : Stmt := hdS (List.tail (List.tail (List.tail (List.tail (List.tail (List.tail (List.tail (List.tail (List.tail (List.tail (List.tail (List.tail (List.tail (List.tail (List.tail (List.tail (List.tail (List.tail (List.tail (List.tail (List.tail body0)))))))))))))))))))))
abbrev st_l_mix : Stmt := hdS (List.tail (List.tail (List.tail (List.tail (List.tail (List.tail (List.tail (List.tail (List.tail (List.tail (List.tail (List.tail (List.tail (List.tail (List.tail (List.tail (List.tail (List.tail (List.tail (List.tail (List.tail (List.tail (List.tail body0)))))))))))))))))))))))
abbrev st_l_left : Stmt := hdS (List.tail (List.tail (List.tail (List.tail (List.tail (List.tail (List.tail (List.tail (List.tail (List.tail (List.tail (List.tail (List.tail (List.tail (List.tail (List.tail (List.tail (List.tail (List.tail (List.tail (List.tail (List.tail (List.tail (List.tail body0))))))))))))))))))))))))
abbrev st_l_pick : Stmt := hdS (List.tail (List.tail (List.tail (List.tail (List.tail (List.tail (List.tail (List.tail (List.tail (List.tail (List.tail (List.tail (List.tail (List.tail (List.tail (List.tail (List.tail (List.tail (List.tail (List.tail (List.tail (List.tail (List.tail (List.tail (List.tail body0)))))))))))))))))))))))))
abbrev st_l_many : Stmt := hdS (List.tail (List.tail (List.tail (List.tail (List.tail (List.tail (List.tail (List.tail (List.tail (List.tail (List.tail (List.tail (List.tail (List.tail (List.tail (List.tail (List.tail (List.tail (List.tail (List.tail (List.tail (List.tail (List.tail (List.tail (List.tail (List.tail body0))))))))))))))))))))))))))
abbrev st_l_sizes : Stmt := hdS (List.tail (List.tail (List.tail (List.tail (List.tail (List.tail (List.tail (List.tail (List.tail (List.tail (List.tail (List.tail (List.tail (List.tail (List.tail (List.tail (List.tail (List.tail (List.tail (List.tail (List.tail (List.tail (List.tail (List.tail (List.tail (List.tail (List.tail body0)))))))))))))))))))))))))))
abbrev st_l_ways : Stmt := hdS (List.tail (List.tail (List.tail (List.tail (List.tail (List.tail (List.tail (List.tail (List.tail (List.tail (List.tail (List.tail (List.tail (List.tail (List.tail (List.tail (List.tail (List.tail (List.tail (List.tail (List.tail (List.tail (List.tail (List.tail (List.tail (List.tail (List.tail (List.tail body0))))))))))))))))))))))))))))
abbrev st_l_rows_in : Stmt := hdS (List.tail (List.tail (List.tail (List.tail (List.tail (List.tail (List.tail (List.tail (List.tail (List.tail (List.tail (List.tail (List.tail (List.tail (List.tail (List.tail (List.tail (List.tail (List.tail (List.tail (List.tail (List.tail (List.tail (List.tail (List.tail (List.tail (List.tail (List.tail (List.tail body0)))))))))))))))))))))))))))))
abbrev st_l_cost : Stmt := hdS (List.tail (List.tail (List.tail (List.tail (List.tail (List.tail (List.tail (List.tail (List.tail (List.tail (List.tail (List.tail (List.tail (List.tail (List.tail (List.tail (List.tail (List.tail (List.tail (List.tail (List.tail (List.tail (List.tail (List.tail (List.tail (List.tail (List.tail (List.tail (List.tail (List.tail body0))))))))))))))))))))))))))))))
abbrev st_l_same : Stmt := hdS (List.tail (List.tail (List.tail (List.tail (List.tail (List.tail (List.tail (List.tail (List.tail (List.tail (List.tail (List.tail (List.tail (List.tail (List.tail (List.tail (List.tail (List.tail (List.tail (List.tail (List.tail (List.tail (List.tail (List.tail (List.tail (List.tail (List.tail (List.tail (List.tail (List.tail (List.tail body0)))))))))))))))))))))))))))))))
abbrev st_l_cuts : Stmt := hdS (List.tail (List.tail (List.tail (List.tail (List.tail (List.tail (List.tail (List.tail (List.tail (List.tail (List.tail (List.tail (List.tail (List.tail (List.tail (List.tail (List.tail (List.tail (List.tail (List.tail (List.tail (List.tail (List.tail (List.tail (List.tail (List.tail (List.tail (List.tail (List.tail (List.tail (List.tail (List.tail body0))))))))))))))))))))))))))))))))
abbrev st_l_trees : Stmt := hdS (List.tail (List.tail (List.tail (List.tail (List.tail (List.tail (List.tail (List.tail (List.tail (List.tail (List.tail (List.tail (List.tail (List.tail (List.tail (List.tail (List.tail (List.tail (List.tail (List.tail (List.tail (List.tail (List.tail (List.tail (List.tail (List.tail (List.tail (List.tail (List.tail (List.tail (List.tail (List.tail (List.tail body0)))))))))))))))))))))))))))))))))
abbrev st_l_put_beside : Stmt := hdS (List.tail (List.tail (List.tail (List.tail (List.tail (List.tail (List.tail (List.tail (List.tail (List.tail (List.tail (List.tail (List.tail (List.tail (List.tail (List.tail (List.tail (List.tail (List.tail (List.tail (List.tail (List.tail (List.tail (List.tail (List.tail (List.tail (List.tail (List.tail (List.tail (List.tail (List.tail (List.tail (List.tail (List.tail body0))))))))))))))))))))))))))))))))))
abbrev st_l_dearer : Stmt := hdS (List.tail (List.tail (List.tail (List.tail (List.tail (List.tail (List.tail (List.tail (List.tail (List.tail (List.tail (List.tail (List.tail (List.tail (List.tail (List.tail (List.tail (List.tail (List.tail (List.tail (List.tail (List.tail (List.tail (List.tail (List.tail (List.tail (List.tail (List.tail (List.tail (List.tail (List.tail (List.tail (List.tail (List.tail (List.tail body0)))))))))))))))))))))))))))))))))))
abbrev st_law : Stmt := hdS (List.tail (List.tail (List.tail (List.tail (List.tail (List.tail (List.tail (List.tail (List.tail (List.tail (List.tail (List.tail (List.tail (List.tail (List.tail (List.tail (List.tail (List.tail (List.tail (List.tail (List.tail (List.tail (List.tail (List.tail (List.tail (List.tail (List.tail (List.tail (List.tail (List.tail (List.tail (List.tail (List.tail (List.tail (List.tail (List.tail body0))))))))))))))))))))))))))))))))))))
theorem sc_l_mix : FnScope ["_law_cell", "_law_k", "_law_m"] ["_law_cell", "_law_k"] (defScope st_l_mix) := ⟨rfl, rfl, rfl, by decide +kernel, rfl, by decide +kernel, by decide +kernel⟩
theorem sc_l_left : FnScope ["_law_script", "_law_k", "_law_cell"] ["_law_script", "_law_k"] (defScope st_l_left) := ⟨rfl, rfl, rfl, by decide +kernel, rfl, by decide +kernel, by decide +kernel⟩
theorem sc_l_pick : FnScope ["_law_left_here", "_law_many_here", "_law_digit"] ["_law_left_here", "_law_many_here"] (defScope st_l_pick) := ⟨rfl, rfl, rfl, by decide +kernel, rfl, by decide +kernel, by decide +kernel⟩
theorem sc_l_same : FnScope ["_law_found", "_law_due"] ["_law_found", "_law_due"] (defScope st_l_same) := ⟨rfl, rfl, rfl, by decide +kernel, rfl, by decide +kernel, by decide +kernel⟩
theorem sc_is_number : FnScope ["thing"] ["thing"] (defScope st_is_number) := ⟨rfl, rfl, rfl, by decide +kernel, rfl, by decide +kernel, by decide +kernel⟩
theorem sc_size_and_cost : FnScope ["sizes", "tree", "size", "cost", "part", "part_size", "part_cost"] ["sizes", "tree"] (defScope st_size_and_cost) := ⟨rfl, rfl, rfl, by decide +kernel, rfl, by decide +kernel, by decide +kernel⟩
theorem sc_cost_of : FnScope ["sizes", "tree"] ["sizes", "tree"] (defScope st_cost_of) := ⟨rfl, rfl, rfl, by decide +kernel, rfl, by decide +kernel, by decide +kernel⟩
theorem sc_l_many : FnScope ["_law_left_here", "_law_way"] ["_law_left_here"] (defScope st_l_many) := ⟨rfl, rfl, rfl, by decide +kernel, rfl, by decide +kernel, by decide +kernel⟩
theorem sc_l_ways : FnScope ["_law_left_here"] ["_law_left_here"] (defScope st_l_ways) := ⟨rfl, rfl, rfl, by decide +kernel, rfl, by decide +kernel, by decide +kernel⟩
theorem sc_l_rows_in : FnScope ["_law_tree", "_law_found", "_law_waiting", "_law_one"] ["_law_tree"] (defScope st_l_rows_in) := ⟨rfl, rfl, rfl, by decide +kernel, rfl, by decide +kernel, by decide +kernel⟩
theorem sc_l_cost : FnScope ["_law_sizes_here", "_law_tree", "_law_total", "_law_waiting", "_law_one"] ["_law_sizes_here", "_law_tree"] (defScope st_l_cost) := ⟨rfl, rfl, rfl, by decide +kernel, rfl, by decide +kernel, by decide +kernel⟩
theorem sc_l_sizes : FnScope ["_law_left_here", "_law_most", "_law_many_here", "_law_way", "_law_found", "_law_k", "_law_some"] ["_law_left_here", "_law_most"] (defScope st_l_sizes) := ⟨rfl, rfl, rfl, by decide +kernel, rfl, by decide +kernel, by decide +kernel⟩
theorem sc_least_cut : FnScope ["groves", "begin", "end", "most", "price", "middle"] ["groves", "begin", "end", "most"] (defScope st_least_cut) := ⟨rfl, rfl, rfl, by decide +kernel, rfl, by decide +kernel, by decide +kernel⟩
theorem sc_least_tree : FnScope ["groves", "sizes", "ways", "begin", "end", "price", "parts"] ["groves", "sizes", "ways", "begin", "end"] (defScope st_least_tree) := ⟨rfl, rfl, rfl, by decide +kernel, rfl, by decide +kernel, by decide +kernel⟩
theorem sc_least_grove : FnScope ["groves", "alone", "begin", "end", "most", "cut"] ["groves", "alone", "begin", "end", "most"] (defScope st_least_grove) := ⟨rfl, rfl, rfl, by decide +kernel, rfl, by decide +kernel, by decide +kernel⟩
theorem sc_least_groves : FnScope ["sizes", "ways", "groves", "many", "begin", "end", "alone", "most"] ["sizes", "ways"] (defScope st_least_groves) := ⟨rfl, rfl, rfl, by decide +kernel, rfl, by decide +kernel, by decide +kernel⟩
theorem sc_near_plan : FnScope ["sizes", "ways", "price", "trees"] ["sizes", "ways"] (defScope st_near_plan) := ⟨rfl, rfl, rfl, by decide +kernel, rfl, by decide +kernel, by decide +kernel⟩
theorem sc_l_cuts : FnScope ["_law_begin", "_law_end", "_law_ways_here", "_law_found", "_law_place"] ["_law_begin", "_law_end", "_law_ways_here"] (defScope st_l_cuts) := ⟨rfl, rfl, rfl, by decide +kernel, rfl, by decide +kernel, by decide +kernel⟩
theorem sc_prices_for : FnScope ["sizes", "ways", "groves", "many"] ["sizes", "ways"] (defScope st_prices_for) := ⟨rfl, rfl, rfl, by decide +kernel, rfl, by decide +kernel, by decide +kernel⟩
theorem sc_finds_rows : FnScope ["sizes", "ways", "thing", "found", "part"] ["sizes", "ways", "thing", "found"] (defScope st_finds_rows) := ⟨rfl, rfl, rfl, by decide +kernel, rfl, by decide +kernel, by decide +kernel⟩
theorem sc_stretches_of : FnScope ["many"] ["many"] (defScope st_stretches_of) := ⟨rfl, rfl, rfl, by decide +kernel, rfl, by decide +kernel, by decide +kernel⟩
theorem sc_part_sums : FnScope ["priced", "cut", "begin", "end"] ["priced", "cut", "begin", "end"] (defScope st_part_sums) := ⟨rfl, rfl, rfl, by decide +kernel, rfl, by decide +kernel, by decide +kernel⟩
theorem sc_cut_prices : FnScope ["priced", "most", "cut", "parts"] ["priced", "most"] (defScope st_cut_prices) := ⟨rfl, rfl, rfl, by decide +kernel, rfl, by decide +kernel, by decide +kernel⟩
theorem sc_most_price : FnScope ["sizes", "priced", "cut", "begin", "end"] ["sizes", "priced", "cut", "begin", "end"] (defScope st_most_price) := ⟨rfl, rfl, rfl, by decide +kernel, rfl, by decide +kernel, by decide +kernel⟩
theorem sc_is_near : FnScope ["sizes", "ways", "thing", "found"] ["sizes", "ways", "thing"] (defScope st_is_near) := ⟨rfl, rfl, rfl, by decide +kernel, rfl, by decide +kernel, by decide +kernel⟩
theorem sc_is_triple : FnScope ["thing"] ["thing"] (defScope st_is_triple) := ⟨rfl, rfl, rfl, by decide +kernel, rfl, by decide +kernel, by decide +kernel⟩
theorem sc_are_prices : FnScope ["many", "thing", "entry"] ["many", "thing"] (defScope st_are_prices) := ⟨rfl, rfl, rfl, by decide +kernel, rfl, by decide +kernel, by decide +kernel⟩
theorem sc_shows_near : FnScope ["sizes", "ways", "tree", "prices", "priced", "cut", "begin", "end", "price"] ["sizes", "ways", "tree", "prices"] (defScope st_shows_near) := ⟨rfl, rfl, rfl, by decide +kernel, rfl, by decide +kernel, by decide +kernel⟩
theorem sc_l_put_beside : FnScope ["_law_trees_here", "_law_cuts_here", "_law_end", "_law_found", "_law_pair", "_law_longer", "_law_parts"] ["_law_trees_here", "_law_cuts_here", "_law_end"] (defScope st_l_put_beside) := ⟨rfl, rfl, rfl, by decide +kernel, rfl, by decide +kernel, by decide +kernel⟩
theorem sc_l_trees : FnScope ["_law_many_here", "_law_ways_here", "_law_trees_here", "_law_wide", "_law_begin", "_law_end", "_law_cuts_here"] ["_law_many_here", "_law_ways_here"] (defScope st_l_trees) := ⟨rfl, rfl, rfl, by decide +kernel, rfl, by decide +kernel, by decide +kernel⟩
theorem sc_l_dearer : FnScope ["_law_sizes_here", "_law_ways_here", "_law_tree", "_law_prices", "_law_at", "_law_begin", "_law_end", "_law_price", "_law_more"] ["_law_sizes_here", "_law_ways_here", "_law_tree", "_law_prices"] (defScope st_l_dearer) := ⟨rfl, rfl, rfl, by decide +kernel, rfl, by decide +kernel, by decide +kernel⟩
theorem sc_law : FnScope ["_law_script", "_law_k", "_law_left_here", "_law_sizes_here", "_law_ways_here", "_law_trees_here", "_law_costs", "_law_cost_here", "_law_tree", "_law_prices", "_law_one", "_law_own", "_law_shown"] ["_law_script"] (defScope st_law) := ⟨rfl, rfl, rfl, by decide +kernel, rfl, by decide +kernel, by decide +kernel⟩
abbrev zsc (l : List (Str × NameKind)) : Scope := { kind := .function, names := l, isGenerator := false, isCoroutine := false, more := [] }
def scope_0 : Scope := zsc [(".0", .«local»), ("_law_one", .«local»), ("_law_other", .«local»), ("_law_same", .globalImplicit)]
theorem cs_0 : CompSc ["_law_found", "_law_due"] ["_law_found", "_law_due", "_law_one", "_law_other"] (defScope st_l_same) scope_0 := ⟨rfl, rfl, by decide +kernel, by decide +kernel, by decide +kernel, by decide, by decide +kernel, by decide +kernel⟩
def scope_1 : Scope := zsc [(".0", .«local»), ("_law_n", .«local»), ("_law_sizes_here", .free)]
theorem cs_1 : CompSc ["_law_sizes_here", "_law_tree", "_law_total", "_law_waiting", "_law_one"] ["_law_sizes_here", "_law_tree", "_law_total", "_law_waiting", "_law_one", "_law_n"] (defScope st_l_cost) scope_1 := ⟨rfl, rfl, by decide +kernel, by decide +kernel, by decide +kernel, by decide, by decide +kernel, by decide +kernel⟩
def scope_2 : Scope := zsc [(".0", .«local»), ("middle", .«local»), ("begin", .free), ("end", .free), ("groves", .free), ("most", .free)]
theorem cs_2 : CompSc ["groves", "begin", "end", "most", "price", "middle"] ["groves", "begin", "end", "most", "price", "?middle", "middle"] (defScope st_least_cut) scope_2 := ⟨rfl, rfl, by decide +kernel, by decide +kernel, by decide +kernel, by decide, by decide +kernel, by decide +kernel⟩
def scope_3 : Scope := zsc [(".0", .«local»), ("_law_cuts_here", .«local»), ("len", .globalImplicit), ("_law_place", .free), ("_law_ways_here", .free)]
theorem cs_3 : CompSc ["_law_begin", "_law_end", "_law_ways_here", "_law_found", "_law_place"] ["_law_begin", "_law_end", "_law_ways_here", "_law_found", "_law_place", "_law_cuts_here"] (defScope st_l_cuts) scope_3 := ⟨rfl, rfl, by decide +kernel, by decide +kernel, by decide +kernel, by decide, by decide +kernel, by decide +kernel⟩
def scope_4 : Scope := zsc [(".0", .«local»), ("_law_cuts_here", .«local»), ("len", .globalImplicit)]
theorem cs_4 : CompSc ["_law_begin", "_law_end", "_law_ways_here", "_law_found", "_law_place"] ["_law_begin", "_law_end", "_law_ways_here", "_law_found", "_law_place", "_law_cuts_here"] (defScope st_l_cuts) scope_4 := ⟨rfl, rfl, by decide +kernel, by decide +kernel, by decide +kernel, by decide, by decide +kernel, by decide +kernel⟩
def scope_5 : Scope := zsc [(".0", .«local»), ("begin", .«local»), ("end", .«local»), ("range", .globalImplicit), ("groves", .free), ("many", .free)]
theorem cs_5 : CompSc ["sizes", "ways", "groves", "many"] ["sizes", "ways", "groves", "many", "begin", "end"] (defScope st_prices_for) scope_5 := ⟨rfl, rfl, by decide +kernel, by decide +kernel, by decide +kernel, by decide, by decide +kernel, by decide +kernel⟩
def scope_6 : Scope := zsc [(".0", .«local»), ("begin", .«local»), ("end", .«local»), ("range", .globalImplicit), ("many", .free)]
theorem cs_6 : CompSc ["many"] ["many", "begin", "end"] (defScope st_stretches_of) scope_6 := ⟨rfl, rfl, by decide +kernel, by decide +kernel, by decide +kernel, by decide, by decide +kernel, by decide +kernel⟩
def scope_7 : Scope := zsc [(".0", .«local»), ("middle", .«local»), ("begin", .free), ("cut", .free), ("end", .free), ("priced", .free)]
theorem cs_7 : CompSc ["priced", "cut", "begin", "end"] ["priced", "cut", "begin", "end", "middle"] (defScope st_part_sums) scope_7 := ⟨rfl, rfl, by decide +kernel, by decide +kernel, by decide +kernel, by decide, by decide +kernel, by decide +kernel⟩
def scope_8 : Scope := zsc [(".0", .«local»), ("begin", .«local»), ("end", .«local»), ("price", .«local»), ("min", .globalImplicit), ("part_sums", .globalImplicit), ("cut", .free), ("priced", .free)]
theorem cs_8 : CompSc ["priced", "most", "cut", "parts"] ["priced", "most", "cut", "parts", "price", "begin", "end"] (defScope st_cut_prices) scope_8 := ⟨rfl, rfl, by decide +kernel, by decide +kernel, by decide +kernel, by decide, by decide +kernel, by decide +kernel⟩
def scope_9 : Scope := zsc [(".0", .«local»), ("begin", .«local»), ("end", .«local»), ("price", .«local»)]
theorem cs_9 : CompSc ["many", "thing", "entry"] ["many", "thing", "entry", "begin", "end", "price"] (defScope st_are_prices) scope_9 := ⟨rfl, rfl, by decide +kernel, by decide +kernel, by decide +kernel, by decide, by decide +kernel, by decide +kernel⟩
def scope_10 : Scope := zsc [(".0", .«local»), ("begin", .«local»), ("end", .«local»), ("price", .«local»)]
theorem cs_10 : CompSc ["sizes", "ways", "tree", "prices", "priced", "cut", "begin", "end", "price"] ["sizes", "ways", "tree", "prices", "priced", "cut", "?begin", "?end", "?price", "begin", "end", "price"] (defScope st_shows_near) scope_10 := ⟨rfl, rfl, by decide +kernel, by decide +kernel, by decide +kernel, by decide, by decide +kernel, by decide +kernel⟩
def scope_11 : Scope := zsc [(".0", .«local»), ("_law_tree", .«local»), ("_law_parts", .free)]
theorem cs_11 : CompSc ["_law_trees_here", "_law_cuts_here", "_law_end", "_law_found", "_law_pair", "_law_longer", "_law_parts"] ["_law_trees_here", "_law_cuts_here", "_law_end", "_law_found", "_law_pair", "_law_longer", "_law_parts", "_law_tree"] (defScope st_l_put_beside) scope_11 := ⟨rfl, rfl, by decide +kernel, by decide +kernel, by decide +kernel, by decide, by decide +kernel, by decide +kernel⟩
def scope_12 : Scope := zsc [(".0", .«local»), ("_law_tree", .«local»), ("_law_cost", .globalImplicit), ("_law_sizes_here", .free)]
theorem cs_12 : CompSc ["_law_script", "_law_k", "_law_left_here", "_law_sizes_here", "_law_ways_here", "_law_trees_here", "_law_costs", "_law_cost_here", "_law_tree", "_law_prices", "_law_one", "_law_own", "_law_shown"] ["_law_script", "_law_k", "_law_left_here", "_law_sizes_here", "_law_ways_here", "_law_trees_here", "_law_costs", "_law_cost_here", "?_law_tree", "_law_prices", "_law_one", "_law_own", "_law_shown", "_law_tree"] (defScope st_law) scope_12 := ⟨rfl, rfl, by decide +kernel, by decide +kernel, by decide +kernel, by decide, by decide +kernel, by decide +kernel⟩
structure Bt (mg : Str → Option Value) : Prop where
  n_abs : mg "abs" = none
  n_all : mg "all" = none
  n_bool : mg "bool" = none
  n_enumerate : mg "enumerate" = none
  n_int : mg "int" = none
  n_isinstance : mg "isinstance" = none
  n_len : mg "len" = none
  n_list : mg "list" = none
  n_max : mg "max" = none
  n_min : mg "min" = none
  n_range : mg "range" = none
  n_str : mg "str" = none
  n_sum : mg "sum" = none
  n_tuple : mg "tuple" = none
  n_zip : mg "zip" = none
structure Tops (K : PySem.W.Frag) (mg : Str → Option Value) : Prop where
  b : Bt mg
  t_near_plan : Top K mg "near_plan" st_near_plan ["sizes", "ways"]
  t_prices_for : Top K mg "prices_for" st_prices_for ["sizes", "ways"]
  t_least_groves : Top K mg "least_groves" st_least_groves ["sizes", "ways"]
  t_least_tree : Top K mg "least_tree" st_least_tree ["groves", "sizes", "ways", "begin", "end"]
  t_least_grove : Top K mg "least_grove" st_least_grove ["groves", "alone", "begin", "end", "most"]
  t_least_cut : Top K mg "least_cut" st_least_cut ["groves", "begin", "end", "most"]
  t_is_number : Top K mg "is_number" st_is_number ["thing"]
  t_is_triple : Top K mg "is_triple" st_is_triple ["thing"]
  t_finds_rows : Top K mg "finds_rows" st_finds_rows ["sizes", "ways", "thing", "found"]
  t_cost_of : Top K mg "cost_of" st_cost_of ["sizes", "tree"]
  t_size_and_cost : Top K mg "size_and_cost" st_size_and_cost ["sizes", "tree"]
  t_shows_near : Top K mg "shows_near" st_shows_near ["sizes", "ways", "tree", "prices"]
  t_is_near : Top K mg "is_near" st_is_near ["sizes", "ways", "thing"]
  t_are_prices : Top K mg "are_prices" st_are_prices ["many", "thing"]
  t_stretches_of : Top K mg "stretches_of" st_stretches_of ["many"]
  t_cut_prices : Top K mg "cut_prices" st_cut_prices ["priced", "most"]
  t_part_sums : Top K mg "part_sums" st_part_sums ["priced", "cut", "begin", "end"]
  t_most_price : Top K mg "most_price" st_most_price ["sizes", "priced", "cut", "begin", "end"]
  t_l_mix : Top K mg "_law_mix" st_l_mix ["_law_cell", "_law_k"]
  t_l_left : Top K mg "_law_left" st_l_left ["_law_script", "_law_k"]
  t_l_pick : Top K mg "_law_pick" st_l_pick ["_law_left_here", "_law_many_here"]
  t_l_many : Top K mg "_law_many" st_l_many ["_law_left_here"]
  t_l_sizes : Top K mg "_law_sizes" st_l_sizes ["_law_left_here", "_law_most"]
  t_l_ways : Top K mg "_law_ways" st_l_ways ["_law_left_here"]
  t_l_rows_in : Top K mg "_law_rows_in" st_l_rows_in ["_law_tree"]
  t_l_cost : Top K mg "_law_cost" st_l_cost ["_law_sizes_here", "_law_tree"]
  t_l_same : Top K mg "_law_same" st_l_same ["_law_found", "_law_due"]
  t_l_cuts : Top K mg "_law_cuts" st_l_cuts ["_law_begin", "_law_end", "_law_ways_here"]
  t_l_trees : Top K mg "_law_trees" st_l_trees ["_law_many_here", "_law_ways_here"]
  t_l_put_beside : Top K mg "_law_put_beside" st_l_put_beside ["_law_trees_here", "_law_cuts_here", "_law_end"]
  t_l_dearer : Top K mg "_law_dearer" st_l_dearer ["_law_sizes_here", "_law_ways_here", "_law_tree", "_law_prices"]
def Left (H : Hp) (p : Addr) (c : Int) : Prop := ∃ a b : Int, H p = some (.lst [.int a, .int b, .int c]) ∧ 0 ≤ c
def But (p : Addr) (H H' : Hp) : Prop := ∀ b o, H b = some o → b ≠ p → H' b = some o
theorem But.trans {p : Addr} {H H1 H2 : Hp} (a : But p H H1) (b : But p H1 H2) : But p H H2 := fun c o h n => b c o (a c o h n) n
theorem But.same {p : Addr} {H H1 : Hp} (a : Same H H1) : But p H H1 := fun c o h _ => a c o h
theorem same_new {H : Hp} {p : Addr} (h : H p = none) (o : HO) : Same H (upd H p o) := fun b u q => by rw [upd_ne (ne_of_none q h)]; exact q
theorem small {n : Nat} (h : n ≤ 1000) : n ≤ sizeLine := Nat.le_of_lt (small1000 h)
def spMix : Sp := fun vs H Q _ => ∃ a k : Int, vs = [.int a, .int k] ∧ -(2 ^ 62) < k ∧ k < 2 ^ 62 ∧ ∀ r : Int, 0 ≤ r → r < 2000000000 → Q (.int r) H
def spLeft (K : PySem.W.Frag) : Sp := fun vs H Q _ => ∃ (a : Addr) (ns : List Int) (k : Int), vs = [.ref a, .int k] ∧ SqL K H a (ns.map V.int) ∧ ns.length ≤ 63 ∧ 0 ≤ k ∧ k < 100 ∧
  ∀ (p : Addr) (H' : Hp), H p = none → Left H' p 0 → Same H H' → Q (.ref p) H'
def spPick : Sp := fun vs H Q _ => ∃ (p : Addr) (c m : Int), vs = [.ref p, .int m] ∧ Left H p c ∧ c < 2 ^ 60 ∧ 0 < m ∧ m < 1073741824 ∧
  ∀ (r : Int) (H' : Hp), 0 ≤ r → r < m → Left H' p (c + 1) → But p H H' → Q (.int r) H'
theorem at_int {ns : List Int} {k : Int} (h0 : 0 ≤ k) (h : k < (ns.length : Int)) : ∃ v : Int, atI (ns.map V.int) k = some (.int v) := by
  have hk : k.toNat < ns.length := by omega
  have ek : k = ((k.toNat : Nat) : Int) := by omega
  have q : atI (ns.map V.int) ((k.toNat : Nat) : Int) = some (.int ns[k.toNat]) := atI_nat (by rw [List.getElem?_map, List.getElem?_eq_getElem hk] <;> rfl)
  rw [← ek] at q
  exact ⟨_, q⟩
theorem bit01 (b : Bool) : -(2 ^ 64) < (if b = true then (1 : Int) else 0) ∧ (if b = true then (1 : Int) else 0) < 2 ^ 64 := by cases b <;> decide
def lcp : List Nat → List Nat → Nat
  | a :: r, b :: s => if a = b then lcp r s + 1 else 0
  | _, _ => 0
abbrev cds (z : Str) : List Nat := z.cps.toList
def AZ (z : Str) : Prop := ∀ c ∈ cds z, 97 ≤ c ∧ c ≤ 122
def spAlike : Sp := fun vs H Q _ => ∃ x y : Str, vs = [.str x, .str y] ∧ x.length ≤ 1000 ∧ y.length ≤ 1000 ∧ Q (.int (lcp (cds x) (cds y))) H
def spAlikeFrom : Sp := fun vs H Q _ => ∃ (x y : Str) (far : Nat), vs = [.str x, .str y, .int far] ∧ x.length ≤ 1000 ∧ y.length ≤ 1000 ∧ far ≤ lcp (cds x) (cds y) ∧ Q (.int (lcp (cds x) (cds y))) H
def IsD (H : Hp) : Nat → V → V → Prop
  | 0, _, _ => False
  | n + 1, x, y => (x = y ∧ (x = .non ∨ (∃ b, x = .bl b) ∨ (∃ i, x = .int i) ∨ ∃ s, x = .str s)) ∨
      (∃ (p q : Addr) (xs ys : List V), x = .ref p ∧ y = .ref q ∧ ((H p = some (.lst xs) ∧ H q = some (.lst ys)) ∨ (H p = some (.tup xs) ∧ H q = some (.tup ys))) ∧ xs.length = ys.length ∧ xs.length ≤ 1000 ∧ ∀ (i : Nat) (x y : V), xs[i]? = some x → ys[i]? = some y → IsD H n x y)
theorem IsD.mono {H H' : Hp} (s : Same H H') : ∀ {n : Nat} {x y : V}, IsD H n x y → IsD H' n x y
  | 0, _, _, h => h.elim
  | n + 1, x, y, h => by
    rcases h with h | ⟨p, q, xs, ys, e1, e2, h, hl, hz, hi⟩
    · exact .inl h
    · refine .inr ⟨p, q, xs, ys, e1, e2, ?_, hl, hz, fun i x y a b => (hi i x y a b).mono s⟩
      rcases h with ⟨a, b⟩ | ⟨a, b⟩
      · exact .inl ⟨s _ _ a, s _ _ b⟩
      · exact .inr ⟨s _ _ a, s _ _ b⟩
def spSame (n : Nat) : Sp := fun vs H Q _ => ∃ x y : V, vs = [x, y] ∧ IsD H n x y ∧ ∀ H', Same H H' → Q (.bl true) H'
section
variable (K : PySem.W.Frag)
open PySem.W
theorem k_int_seq : kitAny K (.type "int") (["list", "tuple"].map Value.type) = some false := by unfold kitAny kitOne kitCls; rfl
theorem k_bl_seq : kitAny K (.type "bool") (["list", "tuple"].map Value.type) = some false := by unfold kitAny kitOne kitCls; rfl
theorem k_str_seq : kitAny K (.type "str") (["list", "tuple"].map Value.type) = some false := by unfold kitAny kitOne kitCls; rfl
theorem k_non_seq : kitAny K (.type "NoneType") (["list", "tuple"].map Value.type) = some false := by unfold kitAny kitOne kitCls; rfl
theorem k_lst_seq : kitAny K (.type "list") (["list", "tuple"].map Value.type) = some true := by unfold kitAny kitOne kitCls; rfl
theorem k_tup_seq : kitAny K (.type "tuple") (["list", "tuple"].map Value.type) = some true := by unfold kitAny kitOne kitCls; rfl
theorem k_lst_lst : kitOne K (.type "list") (.type "list") = some true := by unfold kitOne kitCls; rfl
theorem k_lst_tup : kitOne K (.type "list") (.type "tuple") = some false := by unfold kitOne kitCls; rfl
theorem k_tup_lst : kitOne K (.type "tuple") (.type "list") = some false := by unfold kitOne kitCls; rfl
theorem k_tup_tup : kitOne K (.type "tuple") (.type "tuple") = some true := by unfold kitOne kitCls; rfl
theorem k_int_str : kitOne K (.type "int") (.type "str") = some false := by unfold kitOne kitCls; rfl
theorem k_int_bl : kitOne K (.type "int") (.type "bool") = some false := by unfold kitOne kitCls; rfl
theorem k_int_int : kitOne K (.type "int") (.type "int") = some true := by unfold kitOne kitCls; rfl
theorem k_str_str : kitOne K (.type "str") (.type "str") = some true := by unfold kitOne kitCls; rfl
theorem k_non_str : kitOne K (.type "NoneType") (.type "str") = some false := by unfold kitOne kitCls; rfl
theorem k_bl_str : kitOne K (.type "bool") (.type "str") = some false := by unfold kitOne kitCls; rfl
theorem k_bl_bl : kitOne K (.type "bool") (.type "bool") = some true := by unfold kitOne kitCls; rfl
end
section
variable {P : Program} {w : World} {K : PySem.W.Frag} {mg : Str → Option Value} {base : Heap}
theorem ok_mix (T : Tops K mg) : Df P w K mg base 1 "_law_mix" ["_law_cell", "_law_k"] spMix := by
  refine T.t_l_mix.df sc_l_mix (fun vs H Q E h => ?_) (fun cdv f A outer s H vs Q E hr h => ?_)
  · obtain ⟨a, k, rfl, _⟩ := h
    rfl
  obtain ⟨a, k, rfl, k1, k2, q⟩ := h
  refine ⟨_, (@pss_cons _ _ _ _ _ (@ps_set _ _ 2 _ _ _ _ sc_l_mix.nd rfl (Or.inl rfl) (@pe_op _ _ _ _ _ _ _ _ op_mod (@pe_op _ _ _ _ _ _ _ _ op_mul (@pe_op _ _ _ _ _ _ _ _ op_add (@pe_op _ _ _ _ _ _ _ _ op_add (@pe_op _ _ _ _ _ _ _ _ op_mod (@pv _ 0 _ _ (by rfl) (Or.inl rfl) (by decide) (by decide)) (@pe_int _ _ _ _)) (@pe_op _ _ _ _ _ _ _ _ op_mul (@pe_op _ _ _ _ _ _ _ _ op_mul (@pv _ 1 _ _ (by rfl) (Or.inl rfl) (by decide) (by decide)) (@pv _ 1 _ _ (by rfl) (Or.inl rfl) (by decide) (by decide))) (@pe_int _ _ _ _))) (@pe_int _ _ _ _)) (@pe_int _ _ _ _)) (@pe_int _ _ _ _)) (by rfl) (by first | exact .inl rfl | exact .inr rfl)) (@pss_one _ _ _ (@ps_ret _ _ _ _ (@pe_op _ _ _ _ _ _ _ _ op_mod (@pe_op _ _ _ _ _ _ _ _ op_mul (@pv _ 2 _ _ (by rfl) (Or.inl rfl) (by decide) (by decide)) (@pv _ 2 _ _ (by rfl) (Or.inl rfl) (by decide) (by decide))) (@pe_int _ _ _ _))))), ?_⟩
  refine ⟨_, rfl, _, _, rfl, rfl, (by show (0 : Int) < _; decide), _, rfl, _, rfl, _, _, rfl, rfl, .inl ⟨by omega, by omega⟩, _, _, rfl, rfl, .inr ⟨by decide, by decide⟩, _, _, rfl, rfl, _, _, rfl, rfl, _, _, rfl, rfl, .inr ⟨by decide, by decide⟩, _, _, rfl, rfl, (by show (0 : Int) < _; decide), ?_⟩
  have m0 := Int.emod_nonneg ((a % 2147483629 + k * k * 7919 + 11) * 48271) (show (2147483647 : Int) ≠ 0 by decide)
  have m1 := Int.emod_lt_of_pos ((a % 2147483629 + k * k * 7919 + 11) * 48271) (show (0 : Int) < 2147483647 by decide)
  refine ⟨_, rfl, _, rfl, _, _, rfl, rfl, .inl ⟨by omega, by omega⟩, _, _, rfl, rfl, (by show (0 : Int) < _; decide), ?_⟩
  exact q _ (Int.emod_nonneg _ (by decide)) (Int.lt_trans (Int.emod_lt_of_pos _ (by decide)) (by decide))
theorem ok_left (T : Tops K mg) : Df P w K mg base 1 "_law_left" ["_law_script", "_law_k"] (spLeft K) := by
  refine T.t_l_left.df sc_l_left (fun vs H Q E h => ?_) (fun cdv f A outer s H vs Q E hr h => ?_)
  · obtain ⟨a, ns, k, rfl, _⟩ := h
    rfl
  obtain ⟨a, ns, k, rfl, hS, h63, k0, k1, q⟩ := h
  refine ⟨_, (@pss_cons _ _ _ _ _ (@ps_set _ _ 2 _ _ _ _ sc_l_left.nd rfl (Or.inl rfl) (@pe_ifExp _ _ _ _ _ _ _ _ (@pt_cmpR _ _ _ _ _ _ _ _ op_lt (@pv _ 1 _ _ (by rfl) (Or.inl rfl) (by decide) (by decide)) (@pe_callB _ _ _ _ _ _ _ _ _ (lenQ K) (by rfl) T.b.n_len PySem.boot_len (@pa_cons _ _ _ _ _ (@pv _ 0 _ _ (by rfl) (Or.inl rfl) (by decide) (by decide)) (@pa_nil _) (by rfl)) (by decide) (by decide) (by rfl) (by rfl)) (nomark _)) (@pe_ix _ _ _ _ _ _ _ (ixL K) (@pv _ 0 _ _ (by rfl) (Or.inl rfl) (by decide) (by decide)) (@pv _ 1 _ _ (by rfl) (Or.inl rfl) (by decide) (by decide)) (fun _ _ => rfl)) (@pe_int _ _ _ _)) (by rfl) (by first | exact .inl rfl | exact .inr rfl)) (@pss_one _ _ _ (@ps_ret _ _ _ _ (@pe_lst _ _ _ _ (@pa_cons _ _ _ _ _ (@pe_op _ _ _ _ _ _ _ _ op_mul (@pe_callB _ _ _ _ _ _ _ _ _ call_abs (by rfl) T.b.n_abs boot_abs (@pa_cons _ _ _ _ _ (@pv _ 2 _ _ (by rfl) (Or.inl rfl) (by decide) (by decide)) (@pa_nil _) (by rfl)) (by decide) (by decide) (by rfl) (by rfl)) (@pe_callTy _ _ _ _ _ _ _ _ _ call_int1 (by rfl) T.b.n_int boot_int (@pa_cons _ _ _ _ _ (@pe_cmpR _ _ _ _ _ _ _ _ op_ge (@pe_callB _ _ _ _ _ _ _ _ _ call_abs (by rfl) T.b.n_abs boot_abs (@pa_cons _ _ _ _ _ (@pv _ 2 _ _ (by rfl) (Or.inl rfl) (by decide) (by decide)) (@pa_nil _) (by rfl)) (by decide) (by decide) (by rfl) (by rfl)) (@pe_op _ _ _ _ _ _ _ _ op_pow (@pe_int _ _ _ _) (@pe_int _ _ _ _)) (nomark _)) (@pa_nil _) (by rfl)) (by decide) (by decide) (by rfl) (by rfl))) (@pa_cons _ _ _ _ _ (@pe_op _ _ _ _ _ _ _ _ op_add (@pv _ 2 _ _ (by rfl) (Or.inl rfl) (by decide) (by decide)) (@pe_op _ _ _ _ _ _ _ _ op_mul (@pe_int _ _ _ _) (@pv _ 1 _ _ (by rfl) (Or.inl rfl) (by decide) (by decide)))) (@pa_cons _ _ _ _ _ (@pe_int _ _ _ _) (@pa_nil _) (by rfl)) (by rfl)) (by rfl)))))), ?_⟩
  have hl : (ns.map V.int).length = ns.length := List.length_map _
  have pw : CPow 10 18 := ⟨by decide, by decide, by decide⟩
  refine ⟨_, rfl, _, rfl, a, _, rfl, .inl hS, _, _, rfl, rfl, _, rfl, ?_⟩
  refine ite2 (fun c => ?_) (fun c => ?_)
  · have c' : k < (((ns.map V.int).length : Nat) : Int) := of_decide_eq_true c
    rw [hl] at c'
    obtain ⟨v, hv⟩ := at_int (ns := ns) k0 c'
    refine ⟨_, rfl, _, rfl, a, _, _, _, rfl, rfl, hS, hv, ?_⟩
    refine ⟨_, rfl, _, rfl, _, rfl, _, rfl, _, _, rfl, rfl, pw, _, _, rfl, rfl, .inr ⟨_, rfl, _, _, rfl, rfl, .inr (bit01 _), _, rfl, _, rfl, _, _, rfl, rfl, .inl ⟨by decide, by decide⟩, _, _, rfl, rfl, (by show 3 ≤ sizeLine; decide), fun p hp => ?_⟩⟩
    exact q p _ hp ⟨_, _, upd_same, Int.le_refl _⟩ (same_new hp _)
  · refine ⟨_, rfl, _, rfl, _, rfl, _, rfl, _, _, rfl, rfl, pw, _, _, rfl, rfl, .inr ⟨_, rfl, _, _, rfl, rfl, .inr (bit01 _), _, rfl, _, rfl, _, _, rfl, rfl, .inl ⟨by decide, by decide⟩, _, _, rfl, rfl, (by show 3 ≤ sizeLine; decide), fun p hp => ?_⟩⟩
    exact q p _ hp ⟨_, _, upd_same, Int.le_refl _⟩ (same_new hp _)
theorem ok_pick (T : Tops K mg) (f_l_mix : Df P w K mg base 1 "_law_mix" ["_law_cell", "_law_k"] spMix) : Df P w K mg base 2 "_law_pick" ["_law_left_here", "_law_many_here"] spPick := by
  refine T.t_l_pick.df sc_l_pick (fun vs H Q E h => ?_) (fun cdv f A outer s H vs Q E hr h => ?_)
  · obtain ⟨p, c, m, rfl, _⟩ := h
    rfl
  obtain ⟨p, c, m, rfl, ⟨a, b, hp, c0⟩, c1, m0, m1, q⟩ := h
  refine ⟨_, (@pss_cons _ _ _ _ _ (@ps_asg _ _ _ _ _ _ (@pe_op _ _ _ _ _ _ _ _ op_add (@pe_ix _ _ _ _ _ _ _ (ixL K) (@pv _ 0 _ _ (by rfl) (Or.inl rfl) (by decide) (by decide)) (@pe_int _ _ _ _) (fun _ _ => rfl)) (@pe_int _ _ _ _)) (@pg_sub _ _ _ _ _ _ _ (@pv _ 0 _ _ (by rfl) (Or.inl rfl) (by decide) (by decide)) (@pe_int _ _ _ _) set_list (by intro _; rfl)) (by rfl) (by rfl) (by rfl)) (@pss_cons _ _ _ _ _ (@ps_if _ _ _ _ _ _ _ _ (@pt_cmpR _ _ _ _ _ _ _ _ op_gt (@pe_ix _ _ _ _ _ _ _ (ixL K) (@pv _ 0 _ _ (by rfl) (Or.inl rfl) (by decide) (by decide)) (@pe_int _ _ _ _) (fun _ _ => rfl)) (@pe_int _ _ _ _) (nomark _)) (@pss_cons _ _ _ _ _ (@ps_set _ _ 2 _ _ _ _ sc_l_pick.nd rfl (Or.inl rfl) (@pe_op _ _ _ _ _ _ _ _ op_mod (@pe_ix _ _ _ _ _ _ _ (ixL K) (@pv _ 0 _ _ (by rfl) (Or.inl rfl) (by decide) (by decide)) (@pe_int _ _ _ _) (fun _ _ => rfl)) (@pv _ 1 _ _ (by rfl) (Or.inl rfl) (by decide) (by decide))) (by rfl) (by first | exact .inl rfl | exact .inr rfl)) (@pss_cons _ _ _ _ _ (@ps_asg _ _ _ _ _ _ (@pe_op _ _ _ _ _ _ _ _ op_fdiv (@pe_ix _ _ _ _ _ _ _ (ixL K) (@pv _ 0 _ _ (by rfl) (Or.inl rfl) (by decide) (by decide)) (@pe_int _ _ _ _) (fun _ _ => rfl)) (@pv _ 1 _ _ (by rfl) (Or.inl rfl) (by decide) (by decide))) (@pg_sub _ _ _ _ _ _ _ (@pv _ 0 _ _ (by rfl) (Or.inl rfl) (by decide) (by decide)) (@pe_int _ _ _ _) set_list (by intro _; rfl)) (by rfl) (by rfl) (by rfl)) (@pss_one _ _ _ (@ps_ret _ _ _ _ (@pv _ 2 _ _ (by rfl) (Or.inl rfl) (by decide) (by decide)))))) (@pss_nil _)) (@pss_one _ _ _ (@ps_ret _ _ _ _ (@pe_op _ _ _ _ _ _ _ _ op_mod (@pe_op _ _ _ _ _ _ _ _ op_fdiv (@pe_df _ _ _ _ _ _ _ _ _ _ _ f_l_mix hr (@pa_cons _ _ _ _ _ (@pe_df _ _ _ _ _ _ _ _ _ _ _ f_l_mix hr (@pa_cons _ _ _ _ _ (@pe_ix _ _ _ _ _ _ _ (ixL K) (@pv _ 0 _ _ (by rfl) (Or.inl rfl) (by decide) (by decide)) (@pe_int _ _ _ _) (fun _ _ => rfl)) (@pa_cons _ _ _ _ _ (@pe_ix _ _ _ _ _ _ _ (ixL K) (@pv _ 0 _ _ (by rfl) (Or.inl rfl) (by decide) (by decide)) (@pe_int _ _ _ _) (fun _ _ => rfl)) (@pa_nil _) (by rfl)) (by rfl)) (by first | decide | exact Nat.le_refl _ | omega) (by rfl) (by decide) (by rfl) (by rfl)) (@pa_cons _ _ _ _ _ (@pe_op _ _ _ _ _ _ _ _ op_add (@pe_ix _ _ _ _ _ _ _ (ixL K) (@pv _ 0 _ _ (by rfl) (Or.inl rfl) (by decide) (by decide)) (@pe_int _ _ _ _) (fun _ _ => rfl)) (@pe_int _ _ _ _)) (@pa_nil _) (by rfl)) (by rfl)) (by first | decide | exact Nat.le_refl _ | omega) (by rfl) (by decide) (by rfl) (by rfl)) (@pe_int _ _ _ _)) (@pv _ 1 _ _ (by rfl) (Or.inl rfl) (by decide) (by decide))))))), ?_⟩
  have u1 : (upd H p (.lst [.int a, .int b, .int (c + 1)])) p = some (.lst [.int a, .int b, .int (c + 1)]) := upd_same
  refine ⟨_, rfl, p, _, _, _, rfl, rfl, SqL.of hp, rfl, _, _, rfl, rfl, _, rfl, p, _, _, 2, rfl, rfl, hp, rfl, ?_⟩
  refine ⟨_, rfl, p, _, _, _, rfl, rfl, SqL.of u1, rfl, _, _, rfl, rfl, _, rfl, ?_⟩
  refine ite2 (fun d => ?_) (fun d => ?_)
  · refine ⟨_, rfl, p, _, _, _, rfl, rfl, SqL.of u1, rfl, _, rfl, _, _, rfl, rfl, m0, ?_⟩
    refine ⟨_, rfl, p, _, _, _, rfl, rfl, SqL.of u1, rfl, _, rfl, _, _, rfl, rfl, ⟨m0, by omega⟩, _, rfl, p, _, _, 0, rfl, rfl, u1, rfl, ?_⟩
    refine ⟨_, rfl, ?_⟩
    refine q _ _ (Int.emod_nonneg _ (by omega)) (Int.emod_lt_of_pos _ m0) ⟨a / m, b, upd_same, by omega⟩ fun e o h n => ?_
    rw [upd_ne n, upd_ne n]
    exact h
  · refine ⟨_, rfl, p, _, _, _, rfl, rfl, SqL.of u1, rfl, _, rfl, p, _, _, _, rfl, rfl, SqL.of u1, rfl, _, _, rfl, by omega, by omega, fun r r0 r1 => ?_⟩
    refine ⟨_, rfl, p, _, _, _, rfl, rfl, SqL.of u1, rfl, _, _, rfl, rfl, _, _, rfl, by omega, by omega, fun r' r0' r1' => ?_⟩
    refine ⟨_, _, rfl, rfl, ⟨by decide, by decide⟩, _, rfl, _, _, rfl, rfl, m0, ?_⟩
    refine q _ _ (Int.emod_nonneg _ (by omega)) (Int.emod_lt_of_pos _ m0) ⟨a, b, upd_same, by omega⟩ fun e o h n => ?_
    rw [upd_ne n]
    exact h
theorem iteD {c A B : Prop} [Decidable c] (hc : c) (h : A) : if decide c = true then A else B := by
  rw [if_pos (decide_eq_true hc)]
  exact h
theorem iteDN {c A B : Prop} [Decidable c] (hc : ¬ c) (h : B) : if decide c = true then A else B := by
  rw [if_neg (by rw [decide_eq_false hc]; exact Bool.false_ne_true)]
  exact h
theorem ok_same (T : Tops K mg) : ∀ n : Nat, Df P w K mg base (n + 1) "_law_same" ["_law_found", "_law_due"] (spSame n)
  | 0 => by
    refine T.t_l_same.df sc_l_same (fun vs H Q E h => ?_) (fun cdv f A outer s H vs Q E hr h => ?_)
    · obtain ⟨x, y, rfl, _⟩ := h
      rfl
    obtain ⟨x, y, rfl, h, _⟩ := h
    exact h.elim
  | n + 1 => by
    have f_l_same := ok_same T n
    refine T.t_l_same.df sc_l_same (fun vs H Q E h => ?_) (fun cdv f A outer s H vs Q E hr h => ?_)
    · obtain ⟨x, y, rfl, _⟩ := h
      rfl
    obtain ⟨x, y, rfl, hD, q⟩ := h
    refine ⟨_, (@pss_cons _ _ _ _ _ (@ps_if _ _ _ _ _ _ _ _ (@pt_val _ _ _ (@pe_callB _ _ _ _ _ _ _ _ _ (isiTQ K) (by rfl) T.b.n_isinstance boot_isinstance (@pa_cons _ _ _ _ _ (@pv _ 1 _ _ (by rfl) (Or.inl rfl) (by decide) (by decide)) (@pa_cons _ _ _ _ _ (@pe_tup _ _ _ _ _ (@pa_cons _ _ _ _ _ (@pe_ty _ _ _ _ T.b.n_list boot_list (by rfl) (by decide) (by decide)) (@pa_cons _ _ _ _ _ (@pe_ty _ _ _ _ T.b.n_tuple boot_tuple (by rfl) (by decide) (by decide)) (@pa_nil _) (by rfl)) (by rfl))) (@pa_nil _) (by rfl)) (by rfl)) (by decide) (by decide) (by rfl) (by rfl)) (by intro _; rfl)) (@pss_cons _ _ _ _ _ (@ps_if _ _ _ _ _ _ _ _ (@PW.pt _ _ _ (@pw_or _ _ _ _ _ _ _ (@pt_cmpR _ _ _ _ _ _ _ _ op_ne (@pe_callB _ _ _ _ _ _ _ _ _ (isiQ K) (by rfl) T.b.n_isinstance boot_isinstance (@pa_cons _ _ _ _ _ (@pv _ 0 _ _ (by rfl) (Or.inl rfl) (by decide) (by decide)) (@pa_cons _ _ _ _ _ (@pe_ty _ _ _ _ T.b.n_list boot_list (by rfl) (by decide) (by decide)) (@pa_nil _) (by rfl)) (by rfl)) (by decide) (by decide) (by rfl) (by rfl)) (@pe_callB _ _ _ _ _ _ _ _ _ (isiQ K) (by rfl) T.b.n_isinstance boot_isinstance (@pa_cons _ _ _ _ _ (@pv _ 1 _ _ (by rfl) (Or.inl rfl) (by decide) (by decide)) (@pa_cons _ _ _ _ _ (@pe_ty _ _ _ _ T.b.n_list boot_list (by rfl) (by decide) (by decide)) (@pa_nil _) (by rfl)) (by rfl)) (by decide) (by decide) (by rfl) (by rfl)) (nomark _)) (@pw_or1 _ _ _ _ (@pt_cmpR _ _ _ _ _ _ _ _ op_ne (@pe_callB _ _ _ _ _ _ _ _ _ (isiQ K) (by rfl) T.b.n_isinstance boot_isinstance (@pa_cons _ _ _ _ _ (@pv _ 0 _ _ (by rfl) (Or.inl rfl) (by decide) (by decide)) (@pa_cons _ _ _ _ _ (@pe_ty _ _ _ _ T.b.n_tuple boot_tuple (by rfl) (by decide) (by decide)) (@pa_nil _) (by rfl)) (by rfl)) (by decide) (by decide) (by rfl) (by rfl)) (@pe_callB _ _ _ _ _ _ _ _ _ (isiQ K) (by rfl) T.b.n_isinstance boot_isinstance (@pa_cons _ _ _ _ _ (@pv _ 1 _ _ (by rfl) (Or.inl rfl) (by decide) (by decide)) (@pa_cons _ _ _ _ _ (@pe_ty _ _ _ _ T.b.n_tuple boot_tuple (by rfl) (by decide) (by decide)) (@pa_nil _) (by rfl)) (by rfl)) (by decide) (by decide) (by rfl) (by rfl)) (nomark _))))) (@pss_one _ _ _ (@ps_ret _ _ _ _ (@pe_bl _ _ _ _))) (@pss_nil _)) (@pss_one _ _ _ (@ps_ret _ _ _ _ (@pe_and _ _ _ _ _ _ _ (@pe_cmpR _ _ _ _ _ _ _ _ op_eq (@pe_callB _ _ _ _ _ _ _ _ _ (lenQ K) (by rfl) T.b.n_len PySem.boot_len (@pa_cons _ _ _ _ _ (@pv _ 0 _ _ (by rfl) (Or.inl rfl) (by decide) (by decide)) (@pa_nil _) (by rfl)) (by decide) (by decide) (by rfl) (by rfl)) (@pe_callB _ _ _ _ _ _ _ _ _ (lenQ K) (by rfl) T.b.n_len PySem.boot_len (@pa_cons _ _ _ _ _ (@pv _ 1 _ _ (by rfl) (Or.inl rfl) (by decide) (by decide)) (@pa_nil _) (by rfl)) (by decide) (by decide) (by rfl) (by rfl)) (nomark _)) (@pe_one _ _ _ _ _ (@pe_callB _ _ _ _ _ _ _ _ _ (allQ K) (by rfl) T.b.n_all boot_all (@pa_cons _ _ _ _ _ (@pe_comp _ _ _ _ _ _ _ _ _ _ _ _ _ _ cs_0 rfl rfl rfl (@iZ _ K _ _ _ _ _ _ _ _ T.b.n_zip (@pa_cons _ _ _ _ _ (@pv _ 0 _ _ (by rfl) (Or.inl rfl) (by decide) (by decide)) (@pa_cons _ _ _ _ _ (@pv _ 1 _ _ (by rfl) (Or.inl rfl) (by decide) (by decide)) (@pa_nil _) (by rfl)) (by rfl)) (by rfl) (by rfl) (by rfl) (by rfl)) (fun _ _ _ _ => (@gT _ K _ _ _ 2 _ (@pgs_cons _ _ _ _ _ (@cg _ _ _ _ _ _ _ _ _ _ _ 2 cs_0 rfl (by decide +kernel) (by rfl)) (@pgs_cons _ _ _ _ _ (@cg _ _ _ _ _ _ _ _ _ _ _ 3 cs_0 rfl (by decide +kernel) (by rfl)) (@pgs_nil _) (by rfl)) (by rfl)) (by rfl) (by rfl) (by rfl) (by rfl))) (fun _ _ _ _ => (@pts_nil _)) (fun _ _ _ _ => (@pe_df _ _ _ _ _ _ _ _ _ _ _ f_l_same hr (@pa_cons _ _ _ _ _ (@cw _ _ _ _ _ _ _ _ _ _ _ 2 cs_0 rfl (by decide +kernel) (by rfl) (by decide) (by decide)) (@pa_cons _ _ _ _ _ (@cw _ _ _ _ _ _ _ _ _ _ _ 3 cs_0 rfl (by decide +kernel) (by rfl) (by decide) (by decide)) (@pa_nil _) (by rfl)) (by rfl)) (by first | decide | exact Nat.le_refl _ | omega) (comp_glob cs_0 rfl (by decide +kernel)) (by decide) (by rfl) (by rfl))) (by intro _; rfl)) (@pa_nil _) (by rfl)) (by decide) (by decide) (by rfl) (by rfl))))))) (@pss_nil _)) (@pss_cons _ _ _ _ _ (@ps_if _ _ _ _ _ _ _ _ (@PW.pt _ _ _ (@pw_or _ _ _ _ _ _ _ (@pt_cmpR _ _ _ _ _ _ _ _ op_isN (@pv _ 1 _ _ (by rfl) (Or.inl rfl) (by decide) (by decide)) (@pe_non _ _ _) (nomark _)) (@pw_or1 _ _ _ _ (@pt_val _ _ _ (@pe_callB _ _ _ _ _ _ _ _ _ (isiQ K) (by rfl) T.b.n_isinstance boot_isinstance (@pa_cons _ _ _ _ _ (@pv _ 1 _ _ (by rfl) (Or.inl rfl) (by decide) (by decide)) (@pa_cons _ _ _ _ _ (@pe_ty _ _ _ _ T.b.n_str boot_str (by rfl) (by decide) (by decide)) (@pa_nil _) (by rfl)) (by rfl)) (by decide) (by decide) (by rfl) (by rfl)) (by intro _; rfl))))) (@pss_one _ _ _ (@ps_ret _ _ _ _ (@pe_and _ _ _ _ _ _ _ (@pe_cmpR _ _ _ _ _ _ _ _ op_eq (@pv _ 0 _ _ (by rfl) (Or.inl rfl) (by decide) (by decide)) (@pv _ 1 _ _ (by rfl) (Or.inl rfl) (by decide) (by decide)) (nomark _)) (@pe_one _ _ _ _ _ (@pe_cmpR _ _ _ _ _ _ _ _ op_eq (@pe_callB _ _ _ _ _ _ _ _ _ (isiQ K) (by rfl) T.b.n_isinstance boot_isinstance (@pa_cons _ _ _ _ _ (@pv _ 0 _ _ (by rfl) (Or.inl rfl) (by decide) (by decide)) (@pa_cons _ _ _ _ _ (@pe_ty _ _ _ _ T.b.n_str boot_str (by rfl) (by decide) (by decide)) (@pa_nil _) (by rfl)) (by rfl)) (by decide) (by decide) (by rfl) (by rfl)) (@pe_callB _ _ _ _ _ _ _ _ _ (isiQ K) (by rfl) T.b.n_isinstance boot_isinstance (@pa_cons _ _ _ _ _ (@pv _ 1 _ _ (by rfl) (Or.inl rfl) (by decide) (by decide)) (@pa_cons _ _ _ _ _ (@pe_ty _ _ _ _ T.b.n_str boot_str (by rfl) (by decide) (by decide)) (@pa_nil _) (by rfl)) (by rfl)) (by decide) (by decide) (by rfl) (by rfl)) (nomark _)))))) (@pss_nil _)) (@pss_cons _ _ _ _ _ (@ps_if _ _ _ _ _ _ _ _ (@pt_val _ _ _ (@pe_callB _ _ _ _ _ _ _ _ _ (isiQ K) (by rfl) T.b.n_isinstance boot_isinstance (@pa_cons _ _ _ _ _ (@pv _ 1 _ _ (by rfl) (Or.inl rfl) (by decide) (by decide)) (@pa_cons _ _ _ _ _ (@pe_ty _ _ _ _ T.b.n_bool boot_bool (by rfl) (by decide) (by decide)) (@pa_nil _) (by rfl)) (by rfl)) (by decide) (by decide) (by rfl) (by rfl)) (by intro _; rfl)) (@pss_one _ _ _ (@ps_ret _ _ _ _ (@pe_and _ _ _ _ _ _ _ (@pe_callB _ _ _ _ _ _ _ _ _ (isiQ K) (by rfl) T.b.n_isinstance boot_isinstance (@pa_cons _ _ _ _ _ (@pv _ 0 _ _ (by rfl) (Or.inl rfl) (by decide) (by decide)) (@pa_cons _ _ _ _ _ (@pe_ty _ _ _ _ T.b.n_bool boot_bool (by rfl) (by decide) (by decide)) (@pa_nil _) (by rfl)) (by rfl)) (by decide) (by decide) (by rfl) (by rfl)) (@pe_one _ _ _ _ _ (@pe_cmpR _ _ _ _ _ _ _ _ op_eq (@pv _ 0 _ _ (by rfl) (Or.inl rfl) (by decide) (by decide)) (@pv _ 1 _ _ (by rfl) (Or.inl rfl) (by decide) (by decide)) (nomark _)))))) (@pss_nil _)) (@pss_one _ _ _ (@ps_ret _ _ _ _ (@pe_and _ _ _ _ _ _ _ (@pe_callB _ _ _ _ _ _ _ _ _ (isiQ K) (by rfl) T.b.n_isinstance boot_isinstance (@pa_cons _ _ _ _ _ (@pv _ 0 _ _ (by rfl) (Or.inl rfl) (by decide) (by decide)) (@pa_cons _ _ _ _ _ (@pe_ty _ _ _ _ T.b.n_int boot_int (by rfl) (by decide) (by decide)) (@pa_nil _) (by rfl)) (by rfl)) (by decide) (by decide) (by rfl) (by rfl)) (@pe_and _ _ _ _ _ _ _ (@pe_not _ _ _ _ (@pe_callB _ _ _ _ _ _ _ _ _ (isiQ K) (by rfl) T.b.n_isinstance boot_isinstance (@pa_cons _ _ _ _ _ (@pv _ 0 _ _ (by rfl) (Or.inl rfl) (by decide) (by decide)) (@pa_cons _ _ _ _ _ (@pe_ty _ _ _ _ T.b.n_bool boot_bool (by rfl) (by decide) (by decide)) (@pa_nil _) (by rfl)) (by rfl)) (by decide) (by decide) (by rfl) (by rfl))) (@pe_one _ _ _ _ _ (@pe_cmpR _ _ _ _ _ _ _ _ op_eq (@pv _ 0 _ _ (by rfl) (Or.inl rfl) (by decide) (by decide)) (@pv _ 1 _ _ (by rfl) (Or.inl rfl) (by decide) (by decide)) (nomark _)))))))))), ?_⟩
    refine ⟨_, rfl, (by show 2 ≤ sizeLine; decide), fun tp htp => ?_⟩
    have sT : Same H (upd H tp (.tup (["list", "tuple"].map V.ty))) := same_new htp _
    rcases hD with ⟨rfl, rfl | ⟨b, rfl⟩ | ⟨i, rfl⟩ | ⟨z, rfl⟩⟩ | ⟨p, q2, xs, ys, rfl, rfl, ⟨hp, hq⟩ | ⟨hp, hq⟩, hl, hz, hi⟩
    · refine ⟨_, tp, ["list", "tuple"], _, _, rfl, upd_same, .non, k_non_seq K, _, rfl, iteF ?_⟩
      refine ⟨_, rfl, rfl, _, rfl, iteD rfl (iteT ?_)⟩
      refine ⟨_, rfl, _, rfl, rfl, _, rfl, iteD rfl ?_⟩
      exact ⟨_, rfl, _, "str", _, _, rfl, .non, k_non_str K, _, rfl, _, "str", _, _, rfl, .non, k_non_str K, rfl, q _ sT⟩
    · refine ⟨_, tp, ["list", "tuple"], _, _, rfl, upd_same, .bl b, k_bl_seq K, _, rfl, iteF ?_⟩
      refine ⟨_, rfl, rfl, _, rfl, iteDN (by intro z; cases z) ?_⟩
      refine ⟨_, rfl, _, "str", _, _, rfl, .bl b, k_bl_str K, _, rfl, iteF ?_⟩
      refine ⟨_, rfl, _, "bool", _, _, rfl, .bl b, k_bl_bl K, _, rfl, iteT ?_⟩
      refine ⟨_, rfl, _, "bool", _, _, rfl, .bl b, k_bl_bl K, _, rfl, iteT ?_⟩
      refine ⟨_, rfl, _, rfl, rfl, ?_⟩
      have e : decide (V.bl b = V.bl b) = true := decide_eq_true rfl
      rw [e]
      exact q _ sT
    · refine ⟨_, tp, ["list", "tuple"], _, _, rfl, upd_same, .int i, k_int_seq K, _, rfl, iteF ?_⟩
      refine ⟨_, rfl, rfl, _, rfl, iteDN (by intro z; cases z) ?_⟩
      refine ⟨_, rfl, _, "str", _, _, rfl, .int i, k_int_str K, _, rfl, iteF ?_⟩
      refine ⟨_, rfl, _, "bool", _, _, rfl, .int i, k_int_bl K, _, rfl, iteF ?_⟩
      refine ⟨_, rfl, _, "int", _, _, rfl, .int i, k_int_int K, _, rfl, iteT ?_⟩
      refine ⟨_, rfl, _, "bool", _, _, rfl, .int i, k_int_bl K, _, rfl, _, rfl, iteT ?_⟩
      refine ⟨_, rfl, _, rfl, rfl, ?_⟩
      have e : decide (V.int i = V.int i) = true := decide_eq_true rfl
      rw [e]
      exact q _ sT
    · refine ⟨_, tp, ["list", "tuple"], _, _, rfl, upd_same, .str z, k_str_seq K, _, rfl, iteF ?_⟩
      refine ⟨_, rfl, rfl, _, rfl, iteDN (by intro z; cases z) ?_⟩
      refine ⟨_, rfl, _, "str", _, _, rfl, .str z, k_str_str K, _, rfl, iteT ?_⟩
      refine ⟨_, rfl, _, rfl, rfl, _, rfl, iteD rfl ?_⟩
      exact ⟨_, rfl, _, "str", _, _, rfl, .str z, k_str_str K, _, rfl, _, "str", _, _, rfl, .str z, k_str_str K, rfl, q _ sT⟩
    · have hxT : (upd H tp (.tup (["list", "tuple"].map V.ty))) p = some (.lst xs) := by rw [upd_ne (ne_of_none hp htp)]; exact hp
      have hyT : (upd H tp (.tup (["list", "tuple"].map V.ty))) q2 = some (.lst ys) := by rw [upd_ne (ne_of_none hq htp)]; exact hq
      refine ⟨_, tp, ["list", "tuple"], _, _, rfl, upd_same, .lst hyT, k_lst_seq K, _, rfl, iteT ?_⟩
      refine ⟨_, rfl, _, "list", _, _, rfl, .lst hxT, k_lst_lst K, _, rfl, _, "list", _, _, rfl, .lst hyT, k_lst_lst K, rfl, _, rfl, iteNS rfl ?_⟩
      refine ⟨_, rfl, _, "tuple", _, _, rfl, .lst hxT, k_lst_tup K, _, rfl, _, "tuple", _, _, rfl, .lst hyT, k_lst_tup K, rfl, _, rfl, iteNS rfl ?_⟩
      refine ⟨_, rfl, p, xs, rfl, .inl (SqL.of hxT), _, rfl, q2, ys, rfl, .inl (SqL.of hyT), rfl, _, rfl, iteD (by rw [hl]) ?_⟩
      refine ⟨_, rfl, _, rfl, .l p, .l q2, xs, ys, rfl, SqL.of hxT, SqL.of hyT, fun D hD => ?_⟩
      have sD : Same H (upd H tp (.tup (["list", "tuple"].map V.ty))) := same_new htp _
      refine comp_zip (K := K) (xs := xs) (ys := ys) (fun i zs σ H2 => (∃ v1 v2, σ = [some (.ref p), some (.ref q2), v1, v2]) ∧ zs = List.replicate i (.bl true) ∧ Same H H2 ∧ H2 D = some (.lst zs) ∧ i ≤ xs.length) ?_ ?_ ?_ ?_
      · exact ⟨⟨none, none, rfl⟩, rfl, sD.trans (same_new hD _), upd_same, Nat.zero_le _⟩
      · rintro i zs σ H2 ⟨_, _, s2, _⟩
        exact ⟨SqL.of (s2 _ _ hp), SqL.of (s2 _ _ hq)⟩
      · rintro i zs σ H2 x' y' r hx' hy' ⟨⟨v1, v2, rfl⟩, rfl, s2, hD2, hiz⟩ hr
        have hil : i < xs.length := (List.getElem?_eq_some_iff.mp hx').1
        have nDr : D ≠ r := ne_of_none hD2 hr
        have s3 : Same H (upd H2 r (.tup [x', y'])) := s2.trans (same_new hr _)
        refine ⟨r, _, rfl, SqT.of upd_same, rfl, _, _, rfl, _, _, rfl, rfl, ?_⟩
        refine ⟨_, rfl, _, rfl, x', y', rfl, (hi i x' y' hx' hy').mono s3, fun H' s' => ?_⟩
        have hD' : H' D = some (.lst (List.replicate i (.bl true))) := s' _ _ (by rw [upd_ne nDr]; exact hD2)
        refine ⟨hD', (by rw [List.length_replicate]; exact small1000 (by omega)), ⟨_, _, rfl⟩, ?_, ?_, upd_same, hil⟩
        · rw [List.replicate_succ']
        · intro b o e
          have e1 := s' b o (s3 b o e)
          rw [upd_ne (fun z => by subst z; exact nomatch (sD b o e).symm.trans hD)]
          exact e1
      · rintro zs σ H2 ⟨_, rfl, s2, hD2, _⟩
        refine ⟨D, List.replicate (min xs.length ys.length) true, rfl, SqL.of (by rw [List.map_replicate]; exact hD2), ?_⟩
        have e : (List.replicate (min xs.length ys.length) true).all id = true := by rw [List.all_eq_true]; intro b hb; exact (List.eq_of_mem_replicate hb)
        rw [e]
        exact q H2 s2
    · have hxT : (upd H tp (.tup (["list", "tuple"].map V.ty))) p = some (.tup xs) := by rw [upd_ne (ne_of_none hp htp)]; exact hp
      have hyT : (upd H tp (.tup (["list", "tuple"].map V.ty))) q2 = some (.tup ys) := by rw [upd_ne (ne_of_none hq htp)]; exact hq
      refine ⟨_, tp, ["list", "tuple"], _, _, rfl, upd_same, .tup hyT, k_tup_seq K, _, rfl, iteT ?_⟩
      refine ⟨_, rfl, _, "list", _, _, rfl, .tup hxT, k_tup_lst K, _, rfl, _, "list", _, _, rfl, .tup hyT, k_tup_lst K, rfl, _, rfl, iteNS rfl ?_⟩
      refine ⟨_, rfl, _, "tuple", _, _, rfl, .tup hxT, k_tup_tup K, _, rfl, _, "tuple", _, _, rfl, .tup hyT, k_tup_tup K, rfl, _, rfl, iteNS rfl ?_⟩
      refine ⟨_, rfl, p, xs, rfl, .inr (SqT.of hxT), _, rfl, q2, ys, rfl, .inr (SqT.of hyT), rfl, _, rfl, iteD (by rw [hl]) ?_⟩
      refine ⟨_, rfl, _, rfl, .t p, .t q2, xs, ys, rfl, SqT.of hxT, SqT.of hyT, fun D hD => ?_⟩
      have sD : Same H (upd H tp (.tup (["list", "tuple"].map V.ty))) := same_new htp _
      refine comp_zip (K := K) (xs := xs) (ys := ys) (fun i zs σ H2 => (∃ v1 v2, σ = [some (.ref p), some (.ref q2), v1, v2]) ∧ zs = List.replicate i (.bl true) ∧ Same H H2 ∧ H2 D = some (.lst zs) ∧ i ≤ xs.length) ?_ ?_ ?_ ?_
      · exact ⟨⟨none, none, rfl⟩, rfl, sD.trans (same_new hD _), upd_same, Nat.zero_le _⟩
      · rintro i zs σ H2 ⟨_, _, s2, _⟩
        exact ⟨SqT.of (s2 _ _ hp), SqT.of (s2 _ _ hq)⟩
      · rintro i zs σ H2 x' y' r hx' hy' ⟨⟨v1, v2, rfl⟩, rfl, s2, hD2, hiz⟩ hr
        have hil : i < xs.length := (List.getElem?_eq_some_iff.mp hx').1
        have nDr : D ≠ r := ne_of_none hD2 hr
        have s3 : Same H (upd H2 r (.tup [x', y'])) := s2.trans (same_new hr _)
        refine ⟨r, _, rfl, SqT.of upd_same, rfl, _, _, rfl, _, _, rfl, rfl, ?_⟩
        refine ⟨_, rfl, _, rfl, x', y', rfl, (hi i x' y' hx' hy').mono s3, fun H' s' => ?_⟩
        have hD' : H' D = some (.lst (List.replicate i (.bl true))) := s' _ _ (by rw [upd_ne nDr]; exact hD2)
        refine ⟨hD', (by rw [List.length_replicate]; exact small1000 (by omega)), ⟨_, _, rfl⟩, ?_, ?_, upd_same, hil⟩
        · rw [List.replicate_succ']
        · intro b o e
          have e1 := s' b o (s3 b o e)
          rw [upd_ne (fun z => by subst z; exact nomatch (sD b o e).symm.trans hD)]
          exact e1
      · rintro zs σ H2 ⟨_, rfl, s2, hD2, _⟩
        refine ⟨D, List.replicate (min xs.length ys.length) true, rfl, SqL.of (by rw [List.map_replicate]; exact hD2), ?_⟩
        have e : (List.replicate (min xs.length ys.length) true).all id = true := by rw [List.all_eq_true]; intro b hb; exact (List.eq_of_mem_replicate hb)
        rw [e]
        exact q H2 s2
theorem Left.new {H : Hp} {p l : Addr} {c : Int} {o : HO} (h : Left H p c) (n : H l = none) : Left (upd H l o) p c := by
  obtain ⟨a, b, hp, c0⟩ := h
  exact ⟨a, b, by rw [upd_ne (ne_of_none hp n)]; exact hp, c0⟩
theorem Left.ge {H : Hp} {p : Addr} {c : Int} (h : Left H p c) : 0 ≤ c := by obtain ⟨a, b, hp, c0⟩ := h; exact c0
theorem Left.here {H : Hp} {p : Addr} {c : Int} (h : Left H p c) : ∃ o, H p = some o := by obtain ⟨a, b, hp, c0⟩ := h; exact ⟨_, hp⟩
theorem Left.at {H : Hp} {p l : Addr} {c : Int} {o : HO} (h : Left H p c) (n : p ≠ l) : Left (upd H l o) p c := by
  obtain ⟨a, b, hp, c0⟩ := h
  exact ⟨a, b, by rw [upd_ne n]; exact hp, c0⟩
theorem cutV_nat (xs : List V) (i j : Nat) (h : i ≤ xs.length) (h2 : j ≤ xs.length) : cutV xs (some i) (some j) = (xs.drop i).take (j - i) := by
  have e : ∀ (k d : Nat), k ≤ xs.length → HT.sIx xs.length d (some (k : Int)) = k := fun k d hk => by
    unfold HT.sIx
    simp only []
    rw [if_neg (by omega)]
    omega
  unfold cutV
  rw [e i _ h, e j _ h2]
theorem free_of {p : Addr} {H H1 : Hp} {l : Addr} (B : But p H H1) (n : p ≠ l) (h : H1 l = none) : H l = none := by
  cases w' : H l with
  | none => rfl
  | some u => rw [B l u w' n.symm] at h; cases h
theorem at_intM {ns : List Int} {k : Int} (h0 : 0 ≤ k) (h : k < (ns.length : Int)) : ∃ v ∈ ns, atI (ns.map V.int) k = some (.int v) := by
  have hk : k.toNat < ns.length := by omega
  have ek : k = ((k.toNat : Nat) : Int) := by omega
  have q : atI (ns.map V.int) ((k.toNat : Nat) : Int) = some (.int ns[k.toNat]) := atI_nat (by rw [List.getElem?_map, List.getElem?_eq_getElem hk] <;> rfl)
  rw [← ek] at q
  exact ⟨_, List.getElem_mem hk, q⟩
theorem comp_listF {K : PySem.W.Frag} {a : Addr} {xs : List V} {k : Nat} {D : Addr} {σ : L2.St} {H1 : Hp} {g : TG} {tc : TT} {te : TE} {Q : VK} (Pv : Nat → List V → L2.St → Hp → Prop) (h0 : Pv 0 [] (σ ++ List.replicate k none) (upd H1 D (.lst [])))
    (hl : ∀ i ys σ H, Pv i ys σ H → SqL K H a xs)
    (hs : ∀ i x ys σ H, xs[i]? = some x → Pv i ys σ H → g x σ H fun σ4 H4 => tc σ4 H4 fun b H5 => if b = true then te σ4 H5 fun y H6 => H6 D = some (.lst ys) ∧ ys.length < sizeLine ∧ Pv (i + 1) (ys ++ [y]) σ4 (upd H6 D (.lst (ys ++ [y]))) else Pv (i + 1) ys σ4 H5)
    (hd : ∀ ys σ H, Pv xs.length ys σ H → Q (.ref D) H) : CompGo (Itl K a) D k σ H1 g tc te Q := by
  refine ⟨fun i m ys σ H => m = xs.length - i ∧ i ≤ xs.length ∧ Pv i ys σ H, ⟨xs.length, by simp, Nat.zero_le _, h0⟩, ?_⟩
  rintro i m ys σ H ⟨rfl, hi, p⟩
  have q1 := hl i ys σ H p
  by_cases hlt : i < xs.length
  · refine .inr ⟨⟨xs, xs[i], q1, List.getElem?_eq_getElem hlt⟩, Pv (i + 1), fun ys' σ' H' p' => ⟨xs.length - (i + 1), by omega, rfl, hlt, p'⟩, fun x H' y => ?_⟩
    obtain ⟨rfl, e⟩ := y
    exact hs i x ys σ _ (e xs q1) p
  · have e : i = xs.length := by omega
    exact .inl ⟨⟨xs, q1, by omega⟩, hd ys σ H (e ▸ p)⟩
theorem comp_list {K : PySem.W.Frag} {a : Addr} {xs : List V} {k : Nat} {D : Addr} {σ : L2.St} {H1 : Hp} {g : TG} {te : TE} {Q : VK} (Pv : Nat → List V → L2.St → Hp → Prop) (h0 : Pv 0 [] (σ ++ List.replicate k none) (upd H1 D (.lst [])))
    (hl : ∀ i ys σ H, Pv i ys σ H → SqL K H a xs)
    (hs : ∀ i x ys σ H, xs[i]? = some x → Pv i ys σ H → g x σ H fun σ4 H4 => te σ4 H4 fun y H6 => H6 D = some (.lst ys) ∧ ys.length < sizeLine ∧ Pv (i + 1) (ys ++ [y]) σ4 (upd H6 D (.lst (ys ++ [y]))))
    (hd : ∀ ys σ H, Pv xs.length ys σ H → Q (.ref D) H) : CompGo (Itl K a) D k σ H1 g tYes te Q := by
  refine ⟨fun i m ys σ H => m = xs.length - i ∧ i ≤ xs.length ∧ Pv i ys σ H, ⟨xs.length, by simp, Nat.zero_le _, h0⟩, ?_⟩
  rintro i m ys σ H ⟨rfl, hi, p⟩
  have q1 := hl i ys σ H p
  by_cases hlt : i < xs.length
  · refine .inr ⟨⟨xs, xs[i], q1, List.getElem?_eq_getElem hlt⟩, Pv (i + 1), fun ys' σ' H' p' => ⟨xs.length - (i + 1), by omega, rfl, hlt, p'⟩, fun x H' y => ?_⟩
    obtain ⟨rfl, e⟩ := y
    simp only [tYes, ↓reduceIte]
    exact hs i x ys σ _ (e xs q1) p
  · have e : i = xs.length := by omega
    exact .inl ⟨⟨xs, q1, by omega⟩, hd ys σ H (e ▸ p)⟩
theorem lay_ints : ∀ ns : List Int, PyData.canLayAll0 (ns.map PyData.int) = true
  | [] => rfl
  | x :: r => by simp [PyData.canLayAll0, PyData.canLay0, lay_ints r]
theorem depth_ints : ∀ ns : List Int, PyData.depthAll (ns.map PyData.int) = 0
  | [] => rfl
  | _ :: r => by simp [PyData.depthAll, PyData.depth, depth_ints r]
theorem shaped_ints (ns : List Int) : SeqAt.shaped (.list (ns.map PyData.int)) = true := by simp [SeqAt.shaped, PyData.canLay0, PyData.depth, lay_ints ns, depth_ints]
theorem dv_ints {K : PySem.W.Frag} {H : Hp} : ∀ ns : List Int, DVs K H (ns.map V.int) (ns.map PyData.int)
  | [] => .nil
  | s :: r => .cons (.int s) (dv_ints r)
theorem eqv_ints : ∀ ns : List Int, PyData.eqvAll (ns.map PyData.int) (ns.map PyData.int) = true
  | [] => by simp [PyData.eqvAll]
  | x :: r => by simp [PyData.eqvAll, PyData.eqv, eqv_ints r]
theorem eqv_ints2 (ns : List Int) : PyData.eqv (.list (ns.map PyData.int)) (.list (ns.map PyData.int)) = true := by simp [PyData.eqv, eqv_ints ns]
theorem AtT.mono {H H' : Hp} {ts : TupL} (h : AtT H ts) (s : Same H H') : AtT H' ts := fun x hx => s _ _ (h x hx)
theorem tup_keep {H : Hp} {D : Addr} {ys : List V} (h : H D = some (.lst ys)) (o : HO) : ∀ a xs, H a = some (.tup xs) → (upd H D o) a = some (.tup xs) := fun a xs e => by
  have nb : a ≠ D := by intro z; rw [z, h] at e; cases e
  rw [upd_ne nb]; exact e
theorem iteNE {c A B : Prop} [Decidable c] (hc : c) (h : B) : if (!decide c) = true then A else B := by
  rw [if_neg (by rw [decide_eq_true hc]; simp)]
  exact h
inductive PT where
  | leaf (k : Int)
  | node (l : List PT)
mutual
inductive TV (H : Hp) : V → PT → Prop where
  | leaf (k : Int) : TV H (.int k) (.leaf k)
  | node {a : Addr} {xs : List V} {l : List PT} : H a = some (.tup xs) → TVs H xs l → TV H (.ref a) (.node l)
inductive TVs (H : Hp) : List V → List PT → Prop where
  | nil : TVs H [] []
  | cons {x : V} {t : PT} {xs : List V} {l : List PT} : TV H x t → TVs H xs l → TVs H (x :: xs) (t :: l)
end
mutual
theorem TV.mono {H H' : Hp} (s : ∀ a xs, H a = some (.tup xs) → H' a = some (.tup xs)) : ∀ {x : V} {t : PT}, TV H x t → TV H' x t
  | _, _, .leaf k => .leaf k
  | _, _, .node h hs => .node (s _ _ h) (hs.mono s)
theorem TVs.mono {H H' : Hp} (s : ∀ a xs, H a = some (.tup xs) → H' a = some (.tup xs)) : ∀ {xs : List V} {l : List PT}, TVs H xs l → TVs H' xs l
  | _, _, .nil => .nil
  | _, _, .cons h hs => .cons (h.mono s) (hs.mono s)
end
mutual
def toD : PT → PyData
  | .leaf k => .int k
  | .node l => .tuple (toDs l)
def toDs : List PT → List PyData
  | [] => []
  | t :: r => toD t :: toDs r
end
mutual
theorem TV.dv {K : PySem.W.Frag} {H : Hp} : ∀ {x : V} {t : PT}, TV H x t → DV K H x (toD t)
  | _, _, .leaf k => .int k
  | _, _, .node h hs => .tup (SqT.of h) hs.dv
theorem TVs.dv {K : PySem.W.Frag} {H : Hp} : ∀ {xs : List V} {l : List PT}, TVs H xs l → DVs K H xs (toDs l)
  | _, _, .nil => .nil
  | _, _, .cons h hs => .cons h.dv hs.dv
end
theorem TVs.len {H : Hp} : ∀ {xs : List V} {l : List PT}, TVs H xs l → xs.length = l.length
  | _, _, .nil => rfl
  | _, _, .cons _ hs => by rw [List.length_cons, List.length_cons, hs.len]
theorem TVs.app {H : Hp} : ∀ {xs ys : List V} {l m : List PT}, TVs H xs l → TVs H ys m → TVs H (xs ++ ys) (l ++ m)
  | _, _, _, _, .nil, h => h
  | _, _, _, _, .cons h hs, g => .cons h (hs.app g)
theorem TVs.rev {H : Hp} : ∀ {xs : List V} {l : List PT}, TVs H xs l → TVs H xs.reverse l.reverse
  | _, _, .nil => .nil
  | _, _, .cons h hs => by rw [List.reverse_cons, List.reverse_cons]; exact hs.rev.app (.cons h .nil)
theorem TVs.take {H : Hp} : ∀ {xs : List V} {l : List PT} (n : Nat), TVs H xs l → TVs H (xs.take n) (l.take n)
  | _, _, 0, _ => by rw [List.take_zero, List.take_zero]; exact .nil
  | _, _, _ + 1, .nil => .nil
  | _, _, n + 1, .cons h hs => .cons h (hs.take n)
theorem TVs.at {H : Hp} : ∀ {xs : List V} {l : List PT} {i : Nat} {x : V}, TVs H xs l → xs[i]? = some x → ∃ t, l[i]? = some t ∧ TV H x t
  | _, _, i, x, .nil, h => by simp at h
  | _, _, 0, x, .cons (t := t) h _, e => by simp at e; subst e; exact ⟨t, rfl, h⟩
  | _, _, i + 1, x, .cons _ hs, e => by simpa using hs.at (i := i) (by simpa using e)
theorem TVs.last {H : Hp} {xs : List V} {l : List PT} (h : TVs H xs l) (n : 0 < l.length) : ∃ x t, xs[xs.length - 1]? = some x ∧ TV H x t ∧ TVs H xs.dropLast l.dropLast ∧ l = l.dropLast ++ [t] := by
  have hl := h.len
  have h1 : xs[xs.length - 1]? = some xs[xs.length - 1] := List.getElem?_eq_getElem (by omega)
  obtain ⟨t, ht, hv⟩ := h.at h1
  refine ⟨_, t, h1, hv, ?_, ?_⟩
  · rw [List.dropLast_eq_take, List.dropLast_eq_take, hl]
    exact h.take _
  · rw [hl] at ht
    have e : l.getLast? = some t := by rw [List.getLast?_eq_getElem?]; exact ht
    obtain ⟨r, er⟩ := List.getLast?_eq_some_iff.mp e
    rw [er]; simp
mutual
def tSz (ns : List Int) : PT → Int
  | .leaf k => ns.getD k.toNat 0
  | .node l => tSzs ns l
def tSzs (ns : List Int) : List PT → Int
  | [] => 0
  | t :: r => tSz ns t + tSzs ns r
end
mutual
def tCo (ns : List Int) : PT → Int
  | .leaf _ => 0
  | .node l => tCos ns l + tSzs ns l
def tCos (ns : List Int) : List PT → Int
  | [] => 0
  | t :: r => tCo ns t + tCos ns r
end
mutual
def tLf : PT → Nat
  | .leaf _ => 1
  | .node l => tLfs l
def tLfs : List PT → Nat
  | [] => 0
  | t :: r => tLf t + tLfs r
end
mutual
def tDp : PT → Nat
  | .leaf _ => 0
  | .node l => tDps l + 1
def tDps : List PT → Nat
  | [] => 0
  | t :: r => max (tDp t) (tDps r)
end
mutual
def tNo : PT → Nat
  | .leaf _ => 1
  | .node l => tNos l + 1
def tNos : List PT → Nat
  | [] => 0
  | t :: r => tNo t + tNos r
end
mutual
def tOk (n : Nat) : PT → Prop
  | .leaf k => 0 ≤ k ∧ k < n
  | .node l => tOks n l
def tOks (n : Nat) : List PT → Prop
  | [] => True
  | t :: r => tOk n t ∧ tOks n r
end
theorem tSzs_app (ns : List Int) : ∀ a b : List PT, tSzs ns (a ++ b) = tSzs ns a + tSzs ns b
  | [], b => by show tSzs ns b = 0 + tSzs ns b; omega
  | t :: r, b => by show tSz ns t + tSzs ns (r ++ b) = tSz ns t + tSzs ns r + tSzs ns b; rw [tSzs_app ns r b]; omega
theorem tCos_app (ns : List Int) : ∀ a b : List PT, tCos ns (a ++ b) = tCos ns a + tCos ns b
  | [], b => by show tCos ns b = 0 + tCos ns b; omega
  | t :: r, b => by show tCo ns t + tCos ns (r ++ b) = tCo ns t + tCos ns r + tCos ns b; rw [tCos_app ns r b]; omega
theorem tNos_app : ∀ a b : List PT, tNos (a ++ b) = tNos a + tNos b
  | [], b => by show tNos b = 0 + tNos b; omega
  | t :: r, b => by show tNo t + tNos (r ++ b) = tNo t + tNos r + tNos b; rw [tNos_app r b]; omega
theorem tDps_app : ∀ a b : List PT, tDps (a ++ b) = max (tDps a) (tDps b)
  | [], b => by show tDps b = max 0 (tDps b); omega
  | t :: r, b => by show max (tDp t) (tDps (r ++ b)) = max (max (tDp t) (tDps r)) (tDps b); rw [tDps_app r b]; omega
theorem tOks_app (n : Nat) : ∀ a b : List PT, tOks n (a ++ b) ↔ tOks n a ∧ tOks n b
  | [], b => by show tOks n b ↔ True ∧ tOks n b; simp
  | t :: r, b => by show tOk n t ∧ tOks n (r ++ b) ↔ (tOk n t ∧ tOks n r) ∧ tOks n b; rw [tOks_app n r b, and_assoc]
theorem tSzs_rev (ns : List Int) : ∀ a : List PT, tSzs ns a.reverse = tSzs ns a
  | [] => rfl
  | t :: r => by rw [List.reverse_cons, tSzs_app, tSzs_rev ns r]; show tSzs ns r + (tSz ns t + 0) = tSz ns t + tSzs ns r; omega
theorem tNos_rev : ∀ a : List PT, tNos a.reverse = tNos a
  | [] => rfl
  | t :: r => by rw [List.reverse_cons, tNos_app, tNos_rev r]; show tNos r + (tNo t + 0) = tNo t + tNos r; omega
theorem tDps_rev : ∀ a : List PT, tDps a.reverse = tDps a
  | [] => rfl
  | t :: r => by rw [List.reverse_cons, tDps_app, tDps_rev r]; show max (tDps r) (max (tDp t) 0) = max (tDp t) (tDps r); omega
theorem tOks_rev (n : Nat) : ∀ a : List PT, tOks n a.reverse ↔ tOks n a
  | [] => Iff.rfl
  | t :: r => by rw [List.reverse_cons, tOks_app, tOks_rev n r]; show tOks n r ∧ (tOk n t ∧ True) ↔ tOk n t ∧ tOks n r; rw [and_true, and_comm]
theorem tOks_at (n : Nat) : ∀ (l : List PT) (i : Nat) (t : PT), tOks n l → l[i]? = some t → tOk n t
  | [], i, t, _, h => by simp at h
  | a :: r, 0, t, h, e => by simp at e; subst e; exact h.1
  | a :: r, i + 1, t, h, e => tOks_at n r i t h.2 (by simpa using e)
theorem tDps_at : ∀ (l : List PT) (i : Nat) (t : PT), l[i]? = some t → tDp t ≤ tDps l
  | [], i, t, h => by simp at h
  | a :: r, 0, t, e => by simp at e; subst e; show tDp a ≤ max (tDp a) (tDps r); omega
  | a :: r, i + 1, t, e => by have := tDps_at r i t (by simpa using e); show tDp t ≤ max (tDp a) (tDps r); omega
mutual
theorem tNo_pos : ∀ t : PT, 1 ≤ tNo t
  | .leaf _ => Nat.le_refl _
  | .node l => by show 1 ≤ tNos l + 1; omega
theorem tNos_len : ∀ l : List PT, l.length ≤ tNos l
  | [] => Nat.le_refl _
  | t :: r => by have := tNo_pos t; have := tNos_len r; show r.length + 1 ≤ tNo t + tNos r; omega
end
mutual
theorem tLf_no : ∀ t : PT, tLf t ≤ tNo t
  | .leaf _ => Nat.le_refl _
  | .node l => by have := tLfs_no l; show tLfs l ≤ tNos l + 1; omega
theorem tLfs_no : ∀ l : List PT, tLfs l ≤ tNos l
  | [] => Nat.le_refl _
  | t :: r => by have := tLf_no t; have := tLfs_no r; show tLf t + tLfs r ≤ tNo t + tNos r; omega
end
def tGd (t : PT) : Prop := tDp t + 1 ≤ tLf t ∧ tNo t + 1 ≤ 2 * tLf t
def tGds : List PT → Prop
  | [] => True
  | t :: r => tGd t ∧ tGds r
theorem tGds_sum : ∀ l : List PT, tGds l → tDps l + l.length ≤ tLfs l ∧ tNos l + l.length ≤ 2 * tLfs l ∨ l = []
  | [], _ => .inr rfl
  | [t], h => .inl (by have h1 := h.1.1; have h2 := h.1.2; show max (tDp t) 0 + 1 ≤ tLf t + 0 ∧ tNo t + 0 + 1 ≤ 2 * (tLf t + 0); omega)
  | t :: u :: r, h => by
    have ih := (tGds_sum (u :: r) h.2).resolve_right (by simp)
    have h1 := h.1.1
    have h2 := h.1.2
    left
    show max (tDp t) (tDps (u :: r)) + ((u :: r).length + 1) ≤ tLf t + tLfs (u :: r) ∧ tNo t + tNos (u :: r) + ((u :: r).length + 1) ≤ 2 * (tLf t + tLfs (u :: r))
    omega
theorem tGd_node {l : List PT} (h : tGds l) (n : 2 ≤ l.length) : tGd (.node l) := by
  have := (tGds_sum l h).resolve_right (by intro e; rw [e] at n; simp at n)
  show tDps l + 1 + 1 ≤ tLfs l ∧ tNos l + 1 + 1 ≤ 2 * tLfs l
  omega
theorem int_small {k : Int} (h0 : 0 ≤ k) (h1 : k ≤ 10000000000) : (PyData.int k).intsShort 13 = true ∧ (PyData.int k).showable = true ∧ (PyData.int k).weight ≤ 40 := by
  have hl : k.natAbs < 2 ^ 34 := by omega
  have hlog : k.natAbs.log2 < 34 := by
    by_cases e : k.natAbs = 0
    · rw [e]; decide
    · exact (Nat.log2_lt e).mpr hl
  refine ⟨?_, ?_, ?_⟩
  · simp only [PyData.intsShort]
    exact decide_eq_true (PyData.shown_int_le (by omega))
  · simp only [PyData.showable]
    exact decide_eq_true (by omega)
  · simp only [PyData.weight]
    split <;> omega
mutual
theorem tree_fit {n : Nat} (hn : n ≤ 1000) : ∀ t : PT, tOk n t → (toD t).canLay0 = true ∧ (toD t).depth = tDp t ∧ (toD t).weight + 1 ≤ 42 * tNo t ∧ (toD t).intsShort 13 = true ∧ (toD t).showable = true
  | .leaf k, h => by
    obtain ⟨h0, h1⟩ := h
    obtain ⟨a, b, c⟩ := int_small h0 (by omega)
    refine ⟨by simp [toD, PyData.canLay0], by simp [toD, PyData.depth, tDp], ?_, a, b⟩
    show (PyData.int k).weight + 1 ≤ 42 * 1
    omega
  | .node l, h => by
    obtain ⟨a, b, c, d, e⟩ := trees_fit hn l h
    refine ⟨by simpa [toD, PyData.canLay0] using a, by simp [toD, PyData.depth, tDp, b], ?_, by simpa [toD, PyData.intsShort] using d, by simpa [toD, PyData.showable] using e⟩
    show PyData.weightAll (toDs l) + 1 ≤ 42 * (tNos l + 1)
    omega
theorem trees_fit {n : Nat} (hn : n ≤ 1000) : ∀ l : List PT, tOks n l → PyData.canLayAll0 (toDs l) = true ∧ PyData.depthAll (toDs l) = tDps l ∧ PyData.weightAll (toDs l) ≤ 42 * tNos l ∧ PyData.intsShortAll 13 (toDs l) = true ∧ PyData.showableAll (toDs l) = true
  | [], _ => ⟨rfl, rfl, Nat.zero_le _, rfl, rfl⟩
  | t :: r, h => by
    obtain ⟨a, b, c, d, e⟩ := tree_fit hn t h.1
    obtain ⟨a', b', c', d', e'⟩ := trees_fit hn r h.2
    have hp := tNo_pos t
    refine ⟨by simp [toDs, PyData.canLayAll0, a, a'], by simp [toDs, PyData.depthAll, tDps, b, b'], ?_, by simp [toDs, PyData.intsShortAll, d, d'], by simp [toDs, PyData.showableAll, e, e']⟩
    show (toD t).weight + 1 + PyData.weightAll (toDs r) ≤ 42 * (tNo t + tNos r)
    omega
end
mutual
def tLv : PT → List Int
  | .leaf k => [k]
  | .node l => tLvs l
def tLvs : List PT → List Int
  | [] => []
  | t :: r => tLv t ++ tLvs r
end
mutual
def tPl (w : Nat) : PT → Prop
  | .leaf _ => True
  | .node l => 2 ≤ l.length ∧ l.length ≤ w ∧ tPls w l
def tPls (w : Nat) : List PT → Prop
  | [] => True
  | t :: r => tPl w t ∧ tPls w r
end
theorem tLvs_app : ∀ a b : List PT, tLvs (a ++ b) = tLvs a ++ tLvs b
  | [], b => rfl
  | t :: r, b => by show tLv t ++ tLvs (r ++ b) = (tLv t ++ tLvs r) ++ tLvs b; rw [tLvs_app r b, List.append_assoc]
theorem tPls_app (w : Nat) : ∀ a b : List PT, tPls w (a ++ b) ↔ tPls w a ∧ tPls w b
  | [], b => by show tPls w b ↔ True ∧ tPls w b; simp
  | t :: r, b => by show tPl w t ∧ tPls w (r ++ b) ↔ (tPl w t ∧ tPls w r) ∧ tPls w b; rw [tPls_app w r b, and_assoc]
mutual
theorem tLv_pos (w : Nat) : ∀ t : PT, tPl w t → 1 ≤ (tLv t).length
  | .leaf k, _ => Nat.le_refl 1
  | .node l, h => by
    have h1 : 2 ≤ l.length := h.1
    have := tLvs_len w l h.2.2
    show 1 ≤ (tLvs l).length
    omega
theorem tLvs_len (w : Nat) : ∀ l : List PT, tPls w l → l.length ≤ (tLvs l).length
  | [], _ => Nat.le_refl 0
  | t :: r, h => by
    have h1 := tLv_pos w t h.1
    have h2 := tLvs_len w r h.2
    show r.length + 1 ≤ (tLv t ++ tLvs r).length
    rw [List.length_append]
    omega
end
def seqI (b e : Nat) : List Int := (List.range (e - b)).map fun i => ((b + i : Nat) : Int)
theorem seqI_len (b e : Nat) : (seqI b e).length = e - b := by unfold seqI; simp
theorem seqI_at {b e i : Nat} (h : i < e - b) : (seqI b e)[i]? = some ((b + i : Nat) : Int) := by
  unfold seqI
  rw [List.getElem?_map, List.getElem?_range h]
  rfl
theorem seqI_take {b e k : Nat} (h : b + k ≤ e) : (seqI b e).take k = seqI b (b + k) := by
  refine List.ext_getElem? fun i => ?_
  rw [List.getElem?_take]
  by_cases hi : i < k
  · rw [if_pos hi, seqI_at (by omega), seqI_at (by omega)]
  · rw [if_neg hi, List.getElem?_eq_none (by rw [seqI_len]; omega)]
theorem seqI_drop {b e k : Nat} (h : b + k ≤ e) : (seqI b e).drop k = seqI (b + k) e := by
  refine List.ext_getElem? fun i => ?_
  rw [List.getElem?_drop]
  by_cases hi : k + i < e - b
  · rw [seqI_at hi, seqI_at (by omega), Nat.add_assoc]
  · rw [List.getElem?_eq_none (by rw [seqI_len]; omega), List.getElem?_eq_none (by rw [seqI_len]; omega)]
theorem seqI_app {b m e : Nat} (h1 : b ≤ m) (h2 : m ≤ e) : seqI b m ++ seqI m e = seqI b e := by
  have a := seqI_take (b := b) (e := e) (k := m - b) (by omega)
  have c := seqI_drop (b := b) (e := e) (k := m - b) (by omega)
  rw [show b + (m - b) = m by omega] at a c
  rw [← a, ← c, List.take_append_drop]
def Nf (w b e : Nat) (ts : List PT) : Prop := tLvs ts = seqI b e ∧ tPls w ts
theorem Nf.cut {w b e : Nat} {t : PT} {r : List PT} (h : Nf w b e (t :: r)) (hr : 1 ≤ r.length) : ∃ mid, b < mid ∧ mid < e ∧ Nf w b mid [t] ∧ Nf w mid e r := by
  obtain ⟨h1, h2, h3⟩ := h
  have p1 := tLv_pos w t h2
  have p2 := tLvs_len w r h3
  have hl : (tLv t).length + (tLvs r).length = e - b := by
    have := congrArg List.length h1
    rw [seqI_len] at this
    rw [← this]
    show _ = (tLv t ++ tLvs r).length
    rw [List.length_append]
  have e1 : tLv t ++ tLvs r = seqI b e := h1
  refine ⟨b + (tLv t).length, by omega, by omega, ⟨?_, h2, trivial⟩, ⟨?_, h3⟩⟩
  · rw [← seqI_take (b := b) (e := e) (by omega), ← e1, List.take_left]
    show tLv t ++ [] = _
    rw [List.append_nil]
  · rw [← seqI_drop (b := b) (e := e) (by omega), ← e1, List.drop_left]
theorem Nf.app {w b m e : Nat} {a c : List PT} (h1 : Nf w b m a) (h2 : Nf w m e c) (hb : b ≤ m) (he : m ≤ e) : Nf w b e (a ++ c) := by
  refine ⟨?_, (tPls_app w a c).mpr ⟨h1.2, h2.2⟩⟩
  rw [tLvs_app, h1.1, h2.1, seqI_app hb he]
theorem Nf.len {w b e : Nat} {ts : List PT} (h : Nf w b e ts) : ts.length ≤ e - b := by
  have := tLvs_len w ts h.2
  rw [h.1, seqI_len] at this
  exact this
mutual
theorem tSz_lv (ns : List Int) : ∀ t : PT, tSz ns t = ((tLv t).map fun k => ns.getD k.toNat 0).sum
  | .leaf k => by show _ = ([ns.getD k.toNat 0] : List Int).sum; simp [tSz]
  | .node l => tSzs_lv ns l
theorem tSzs_lv (ns : List Int) : ∀ l : List PT, tSzs ns l = ((tLvs l).map fun k => ns.getD k.toNat 0).sum
  | [] => rfl
  | t :: r => by show tSz ns t + tSzs ns r = ((tLv t ++ tLvs r).map _).sum; rw [List.map_append, List.sum_append, tSz_lv ns t, tSzs_lv ns r]
end
def seg (ns : List Int) (b e : Nat) : Int := ((ns.drop b).take (e - b)).sum
theorem seg_eq {ns : List Int} {b e : Nat} (h : e ≤ ns.length) : ((seqI b e).map fun k => ns.getD k.toNat 0).sum = seg ns b e := by
  unfold seg
  congr 1
  refine List.ext_getElem? fun i => ?_
  rw [List.getElem?_map, List.getElem?_take, List.getElem?_drop]
  by_cases hi : i < e - b
  · rw [if_pos hi, seqI_at hi, List.getElem?_eq_getElem (by omega), Option.map_some, Int.toNat_natCast, List.getD_eq_getElem?_getD, List.getElem?_eq_getElem (by omega)]
    rfl
  · rw [if_neg hi, List.getElem?_eq_none (by rw [seqI_len]; omega)]
    rfl
theorem Nf.size {ns : List Int} {w b e : Nat} {ts : List PT} (h : Nf w b e ts) (he : e ≤ ns.length) : tSzs ns ts = seg ns b e := by
  rw [tSzs_lv, h.1, seg_eq he]
mutual
theorem tSz_nn {ns : List Int} (hn : ∀ v ∈ ns, 0 ≤ v) : ∀ t : PT, 0 ≤ tSz ns t
  | .leaf k => by
    show 0 ≤ ns.getD k.toNat 0
    rw [List.getD_eq_getElem?_getD]
    cases h : ns[k.toNat]? with
    | none => exact Int.le_refl 0
    | some v => exact hn v (List.mem_of_getElem? h)
  | .node l => tSzs_nn hn l
theorem tSzs_nn {ns : List Int} (hn : ∀ v ∈ ns, 0 ≤ v) : ∀ l : List PT, 0 ≤ tSzs ns l
  | [] => Int.le_refl 0
  | t :: r => by
    have h1 := tSz_nn hn t
    have h2 := tSzs_nn hn r
    show 0 ≤ tSz ns t + tSzs ns r
    omega
end
mutual
theorem tCo_nn {ns : List Int} (hn : ∀ v ∈ ns, 0 ≤ v) : ∀ t : PT, 0 ≤ tCo ns t
  | .leaf k => Int.le_refl 0
  | .node l => by
    have h1 := tCos_nn hn l
    have h2 := tSzs_nn hn l
    show 0 ≤ tCos ns l + tSzs ns l
    omega
theorem tCos_nn {ns : List Int} (hn : ∀ v ∈ ns, 0 ≤ v) : ∀ l : List PT, 0 ≤ tCos ns l
  | [] => Int.le_refl 0
  | t :: r => by
    have h1 := tCo_nn hn t
    have h2 := tCos_nn hn r
    show 0 ≤ tCo ns t + tCos ns r
    omega
end
structure Gr (ns : List Int) (w b e m : Nat) (p : Int) (ts : List PT) : Prop where
  l1 : 1 ≤ ts.length
  lm : ts.length ≤ m
  nf : Nf w b e ts
  co : tCos ns ts = p
  le : ∀ us, 1 ≤ us.length → us.length ≤ m → Nf w b e us → p ≤ tCos ns us
structure Gc (ns : List Int) (w b e m : Nat) (p : Int) (ts : List PT) : Prop where
  l1 : 2 ≤ ts.length
  lm : ts.length ≤ m
  nf : Nf w b e ts
  co : tCos ns ts = p
  le : ∀ us, 2 ≤ us.length → us.length ≤ m → Nf w b e us → p ≤ tCos ns us
theorem gr_leaf {ns : List Int} (hn : ∀ v ∈ ns, 0 ≤ v) (w b m : Nat) (h : 1 ≤ m) : Gr ns w b (b + 1) m 0 [.leaf (b : Int)] := by
  refine ⟨Nat.le_refl 1, h, ⟨?_, trivial, trivial⟩, rfl, fun us _ _ _ => tCos_nn hn us⟩
  show [(b : Int)] = seqI b (b + 1)
  unfold seqI
  rw [show b + 1 - b = 1 by omega]
  rfl
theorem gr_cut {ns : List Int} {w b e m mid : Nat} {p1 p2 : Int} {t1 t2 : List PT} (hm : 2 ≤ m) (hb : b < mid) (he : mid < e) (g1 : Gr ns w b mid 1 p1 t1) (g2 : Gr ns w mid e (m - 1) p2 t2)
    (hle : ∀ k q1 q2 u1 u2, b < k → k < e → Gr ns w b k 1 q1 u1 → Gr ns w k e (m - 1) q2 u2 → p1 + p2 ≤ q1 + q2) (hex : ∀ k, b < k → k < e → ∃ q1 q2 u1 u2, Gr ns w b k 1 q1 u1 ∧ Gr ns w k e (m - 1) q2 u2) : Gc ns w b e m (p1 + p2) (t1 ++ t2) := by
  have a1 := g1.l1
  have a2 := g1.lm
  have a3 := g2.l1
  have a4 := g2.lm
  refine ⟨by rw [List.length_append]; omega, by rw [List.length_append]; omega, g1.nf.app g2.nf (by omega) (by omega), by rw [tCos_app, g1.co, g2.co], fun us h2 hl hu => ?_⟩
  cases us with
  | nil => simp at h2
  | cons t r =>
    simp only [List.length_cons] at h2 hl
    obtain ⟨k, k1, k2, n1, n2⟩ := hu.cut (by omega)
    obtain ⟨q1, q2, u1, u2, f1, f2⟩ := hex k k1 k2
    have c1 := f1.le [t] (by simp) (by simp) n1
    have c2 := f2.le r (by omega) (by omega) n2
    have c3 := hle k q1 q2 u1 u2 k1 k2 f1 f2
    have e1 : tCos ns [t] = tCo ns t := by show tCo ns t + 0 = _; omega
    show _ ≤ tCo ns t + tCos ns r
    omega
theorem gr_tree {ns : List Int} {w b e : Nat} {p : Int} {ts : List PT} (h : Gc ns w b e w p ts) (hbe : b + 1 < e) (he : e ≤ ns.length) : Gr ns w b e 1 (p + seg ns b e) [.node ts] := by
  have a1 := h.l1
  have a2 := h.lm
  refine ⟨Nat.le_refl 1, Nat.le_refl 1, ⟨?_, ⟨a1, a2, h.nf.2⟩, trivial⟩, ?_, fun us h1 h2 hu => ?_⟩
  · show tLvs ts ++ [] = _
    rw [List.append_nil, h.nf.1]
  · show tCos ns ts + tSzs ns ts + 0 = _
    rw [h.co, h.nf.size he]
    omega
  · cases us with
    | nil => simp at h1
    | cons t r =>
      have : r = [] := by simpa using h2
      subst this
      cases t with
      | leaf k =>
        have := congrArg List.length hu.1
        rw [seqI_len] at this
        have : 1 = e - b := this
        omega
      | node l =>
        have hp : 2 ≤ l.length ∧ l.length ≤ w ∧ tPls w l := hu.2.1
        have hv : tLvs l = seqI b e := by
          have h9 : tLvs l ++ [] = seqI b e := hu.1
          rw [List.append_nil] at h9
          exact h9
        have hl : Nf w b e l := ⟨hv, hp.2.2⟩
        have := h.le l hp.1 hp.2.1 hl
        show _ ≤ tCos ns l + tSzs ns l + 0
        rw [hl.size he]
        omega
theorem gr_both {ns : List Int} {w b e m : Nat} {p q : Int} {ts us : List PT} (hm : 1 ≤ m) (h : Gr ns w b e 1 p ts) (g : Gc ns w b e m q us) : (q < p → Gr ns w b e m q us) ∧ (¬ q < p → Gr ns w b e m p ts) := by
  have a1 := h.l1
  have a2 := h.lm
  have a3 := g.l1
  have both : ∀ vs, 1 ≤ vs.length → vs.length ≤ m → Nf w b e vs → (vs.length = 1 ∧ p ≤ tCos ns vs) ∨ q ≤ tCos ns vs := fun vs v1 v2 hv => by
    by_cases h1 : vs.length = 1
    · exact .inl ⟨h1, h.le vs (by omega) (by omega) hv⟩
    · exact .inr (g.le vs (by omega) v2 hv)
  refine ⟨fun hl => ⟨by omega, g.lm, g.nf, g.co, fun vs v1 v2 hv => ?_⟩, fun hl => ⟨h.l1, by omega, h.nf, h.co, fun vs v1 v2 hv => ?_⟩⟩
  · rcases both vs v1 v2 hv with ⟨_, z⟩ | z <;> omega
  · rcases both vs v1 v2 hv with ⟨_, z⟩ | z <;> omega
theorem gr_one {ns : List Int} {w b m : Nat} {p : Int} {ts : List PT} (h : Gr ns w b (b + 1) 1 p ts) (hm : 1 ≤ m) : Gr ns w b (b + 1) m p ts := by
  have a1 := h.l1
  have a2 := h.lm
  refine ⟨h.l1, by omega, h.nf, h.co, fun us u1 u2 hu => h.le us u1 ?_ hu⟩
  have := hu.len
  omega
theorem gr_alone {ns : List Int} {w b e : Nat} {p q : Int} {ts us : List PT} {m : Nat} (h : Gr ns w b e m p ts) (g : Gr ns w b e m q us) : p = q := by
  have a := h.le us g.l1 g.lm g.nf
  have c := g.le ts h.l1 h.lm h.nf
  rw [g.co] at a
  rw [h.co] at c
  omega
theorem dv_intsK {K : PySem.W.Frag} {H : Hp} : ∀ ns : List Int, DVs K H (ns.map V.int) (ns.map PyData.int)
  | [] => .nil
  | s :: r => .cons (.int s) (dv_intsK r)
def spNum : Sp := fun vs H Q _ => (∃ i : Int, vs = [.int i] ∧ Q (.bl true) H) ∨ (∃ (a : Addr) (xs : List V), vs = [.ref a] ∧ H a = some (.tup xs) ∧ Q (.bl false) H)
theorem k_tup_int (K : PySem.W.Frag) : PySem.W.kitOne K (.type "tuple") (.type "int") = some false := by unfold PySem.W.kitOne PySem.W.kitCls; rfl
theorem k_int_tup (K : PySem.W.Frag) : PySem.W.kitOne K (.type "int") (.type "tuple") = some false := by unfold PySem.W.kitOne PySem.W.kitCls; rfl
theorem ok_num (T : Tops K mg) : Df P w K mg base 1 "is_number" ["thing"] spNum := by
  refine T.t_is_number.df sc_is_number (fun vs H Q E h => ?_) (fun cdv f A outer s H vs Q E hr h => ?_)
  · rcases h with ⟨_, rfl, _⟩ | ⟨_, _, rfl, _⟩ <;> rfl
  refine ⟨_, (@pss_one _ _ _ (@ps_ret _ _ _ _ (@pe_and _ _ _ _ _ _ _ (@pe_callB _ _ _ _ _ _ _ _ _ (isiQ K) (by rfl) T.b.n_isinstance boot_isinstance (@pa_cons _ _ _ _ _ (@pv _ 0 _ _ (by rfl) (Or.inl rfl) (by decide) (by decide)) (@pa_cons _ _ _ _ _ (@pe_ty _ _ _ _ T.b.n_int boot_int (by rfl) (by decide) (by decide)) (@pa_nil _) (by rfl)) (by rfl)) (by decide) (by decide) (by rfl) (by rfl)) (@pe_one _ _ _ _ _ (@pe_not _ _ _ _ (@pe_callB _ _ _ _ _ _ _ _ _ (isiQ K) (by rfl) T.b.n_isinstance boot_isinstance (@pa_cons _ _ _ _ _ (@pv _ 0 _ _ (by rfl) (Or.inl rfl) (by decide) (by decide)) (@pa_cons _ _ _ _ _ (@pe_ty _ _ _ _ T.b.n_bool boot_bool (by rfl) (by decide) (by decide)) (@pa_nil _) (by rfl)) (by rfl)) (by decide) (by decide) (by rfl) (by rfl))))))), ?_⟩
  rcases h with ⟨i, rfl, q⟩ | ⟨a, xs, rfl, ha, q⟩
  · exact ⟨_, rfl, _, "int", _, _, rfl, .int i, k_int_int K, _, rfl, iteT ⟨_, rfl, _, "bool", _, _, rfl, .int i, k_int_bl K, _, rfl, q⟩⟩
  · exact ⟨_, rfl, _, "int", _, _, rfl, .tup ha, k_tup_int K, _, rfl, iteF q⟩
theorem tOk_at {ns : List Int} {k : Int} (h : 0 ≤ k ∧ k < (ns.length : Nat)) : atI (ns.map V.int) k = some (.int (ns.getD k.toNat 0)) := by
  have hk : k.toNat < ns.length := by omega
  have ek : k = ((k.toNat : Nat) : Int) := by omega
  have q : atI (ns.map V.int) ((k.toNat : Nat) : Int) = some (.int ns[k.toNat]) := atI_nat (by rw [List.getElem?_map, List.getElem?_eq_getElem hk] <;> rfl)
  rw [← ek] at q
  rw [q, List.getD_eq_getElem?_getD, List.getElem?_eq_getElem hk]; rfl
theorem sum_upTo {f : PT → Int} : ∀ (l : List PT) (i : Nat) (t : PT), l[i]? = some t → ((l.take (i + 1)).map f).sum = ((l.take i).map f).sum + f t := by
  intro l i t h
  rw [List.take_add_one, h]
  simp
theorem sum_tSz (ns : List Int) : ∀ l : List PT, (l.map (tSz ns)).sum = tSzs ns l
  | [] => rfl
  | t :: r => by show tSz ns t + (r.map (tSz ns)).sum = _; rw [sum_tSz ns r]; rfl
theorem sum_tCo (ns : List Int) : ∀ l : List PT, (l.map (tCo ns)).sum = tCos ns l
  | [] => rfl
  | t :: r => by show tCo ns t + (r.map (tCo ns)).sum = _; rw [sum_tCo ns r]; rfl
theorem same_tup {H H' : Hp} (s : Same H H') : ∀ a xs, H a = some (.tup xs) → H' a = some (.tup xs) := fun a xs h => s a _ h
def spSC (K : PySem.W.Frag) (n : Nat) : Sp := fun vs H Q _ => ∃ (a : Addr) (ns : List Int) (x : V) (t : PT), vs = [.ref a, x] ∧ SqL K H a (ns.map V.int) ∧ TV H x t ∧ tOk ns.length t ∧ tDp t < n ∧
  ∀ (r : Addr) (H' : Hp), H' r = some (.tup [.int (tSz ns t), .int (tCo ns t)]) → Same H H' → Q (.ref r) H'
theorem ok_sc (T : Tops K mg) (f_is_number : Df P w K mg base 1 "is_number" ["thing"] spNum) : ∀ n : Nat, Df P w K mg base (n + 1) "size_and_cost" ["sizes", "tree"] (spSC K n)
  | 0 => by
    refine T.t_size_and_cost.df sc_size_and_cost (fun vs H Q E h => ?_) (fun cdv f A outer s H vs Q E hr h => ?_)
    · obtain ⟨a, ns, x, t, rfl, _⟩ := h
      rfl
    obtain ⟨a, ns, x, t, rfl, hS, hT, hok, hdp, q⟩ := h
    exact absurd hdp (by omega)
  | n + 1 => by
    have f_size_and_cost := ok_sc T f_is_number n
    refine T.t_size_and_cost.df sc_size_and_cost (fun vs H Q E h => ?_) (fun cdv f A outer s H vs Q E hr h => ?_)
    · obtain ⟨a, ns, x, t, rfl, _⟩ := h
      rfl
    obtain ⟨a, ns, x, t, rfl, hS, hT, hok, hdp, q⟩ := h
    refine ⟨_, (@pss_cons _ _ _ _ _ (@ps_if _ _ _ _ _ _ _ _ (@pt_val _ _ _ (@pe_df _ _ _ _ _ _ _ _ _ _ _ f_is_number hr (@pa_cons _ _ _ _ _ (@pv _ 1 _ _ (by rfl) (Or.inl rfl) (by decide) (by decide)) (@pa_nil _) (by rfl)) (by first | decide | exact Nat.le_refl _ | omega) (by rfl) (by decide) (by rfl) (by rfl)) (by intro _; rfl)) (@pss_one _ _ _ (@ps_ret _ _ _ _ (@pe_tup _ _ _ _ _ (@pa_cons _ _ _ _ _ (@pe_ix _ _ _ _ _ _ _ (ixL K) (@pv _ 0 _ _ (by rfl) (Or.inl rfl) (by decide) (by decide)) (@pv _ 1 _ _ (by rfl) (Or.inl rfl) (by decide) (by decide)) (fun _ _ => rfl)) (@pa_cons _ _ _ _ _ (@pe_int _ _ _ _) (@pa_nil _) (by rfl)) (by rfl))))) (@pss_nil _)) (@pss_cons _ _ _ _ _ (@ps_set _ _ 2 _ _ _ _ sc_size_and_cost.nd rfl (Or.inl rfl) (@pe_int _ _ _ _) (by rfl) (by first | exact .inl rfl | exact .inr rfl)) (@pss_cons _ _ _ _ _ (@ps_set _ _ 3 _ _ _ _ sc_size_and_cost.nd rfl (Or.inl rfl) (@pe_int _ _ _ _) (by rfl) (by first | exact .inl rfl | exact .inr rfl)) (@pss_cons _ _ _ _ _ (@ps_for _ _ _ _ _ _ _ _ PassesOwn.never rfl (@iT _ K _ _ _ (@pv _ 1 _ _ (by rfl) (Or.inl rfl) (by decide) (by decide)) (by rfl)) (@pg_name _ _ 4 _ sc_size_and_cost.nd rfl (Or.inl rfl) (by first | exact .inl rfl | exact .inr rfl)) (@pss_cons _ _ _ _ _ (@ps_asg _ _ _ _ _ _ (@pe_df _ _ _ _ _ _ _ _ _ _ _ f_size_and_cost hr (@pa_cons _ _ _ _ _ (@pv _ 0 _ _ (by rfl) (Or.inl rfl) (by decide) (by decide)) (@pa_cons _ _ _ _ _ (@pv _ 4 _ _ (by rfl) (Or.inl rfl) (by decide) (by decide)) (@pa_nil _) (by rfl)) (by rfl)) (by first | decide | exact Nat.le_refl _ | omega) (by rfl) (by decide) (by rfl) (by rfl)) (@gT _ K _ _ _ 2 _ (@pgs_cons _ _ _ _ _ (@pg_name _ _ 5 _ sc_size_and_cost.nd rfl (Or.inl rfl) (by first | exact .inl rfl | exact .inr rfl)) (@pgs_cons _ _ _ _ _ (@pg_name _ _ 6 _ sc_size_and_cost.nd rfl (Or.inl rfl) (by first | exact .inl rfl | exact .inr rfl)) (@pgs_nil _) (by rfl)) (by rfl)) (by rfl) (by rfl) (by rfl) (by rfl)) (by rfl) (by rfl) (by rfl)) (@pss_cons _ _ _ _ _ (@ps_aug _ _ 2 _ _ _ _ _ _ sc_size_and_cost.nd rfl (Or.inl rfl) (@pv _ 5 _ _ (by rfl) (Or.inl rfl) (by decide) (by decide)) ip_add (by first | exact .inl rfl | exact .inr rfl)) (@pss_one _ _ _ (@ps_aug _ _ 3 _ _ _ _ _ _ sc_size_and_cost.nd rfl (Or.inl rfl) (@pv _ 6 _ _ (by rfl) (Or.inl rfl) (by decide) (by decide)) ip_add (by first | exact .inl rfl | exact .inr rfl))))) (by intro _; rfl)) (@pss_one _ _ _ (@ps_ret _ _ _ _ (@pe_tup _ _ _ _ _ (@pa_cons _ _ _ _ _ (@pv _ 2 _ _ (by rfl) (Or.inl rfl) (by decide) (by decide)) (@pa_cons _ _ _ _ _ (@pe_op _ _ _ _ _ _ _ _ op_add (@pv _ 3 _ _ (by rfl) (Or.inl rfl) (by decide) (by decide)) (@pv _ 2 _ _ (by rfl) (Or.inl rfl) (by decide) (by decide))) (@pa_nil _) (by rfl)) (by rfl))))))))), ?_⟩
    cases hT with
    | leaf k =>
      refine ⟨_, rfl, .inl ⟨k, rfl, _, rfl, iteT ⟨_, rfl, _, rfl, a, _, _, _, rfl, rfl, hS, tOk_at hok, (by show 2 ≤ sizeLine; decide), fun r hr0 => ?_⟩⟩⟩
      exact q r _ upd_same (same_new hr0 _)
    | node h hs =>
      rename_i b xs l
      refine ⟨_, rfl, .inr ⟨b, xs, rfl, h, _, rfl, iteF ?_⟩⟩
      refine ⟨_, rfl, b, rfl, ⟨_, SqT.of h⟩, ?_⟩
      refine for_tup (K := K) (a := b) (xs := xs) (fun i σ H2 => ∃ v4 v5 v6 : Option V, σ = [some (.ref a), some (.ref b), some (.int ((l.take i).map (tSz ns)).sum), some (.int ((l.take i).map (tCo ns)).sum), v4, v5, v6] ∧ Same H H2) ⟨_, _, _, rfl, Same.refl _⟩ (fun _ _ _ _ ⟨_, _, _, _, s2⟩ => SqT.of (s2 _ _ h)) ?_ ?_
      · rintro i x σ H2 hx ⟨v4, v5, v6, rfl, s2⟩
        obtain ⟨t, ht, hv⟩ := hs.at hx
        have hd' : tDps l + 1 < n + 1 := hdp
        have hd2 := tDps_at l i t ht
        refine ⟨_, rfl, _, rfl, a, ns, x, t, rfl, s2.seq hS, hv.mono (same_tup s2), tOks_at _ l i t hok ht, by omega, fun r H3 hr3 s3 => ?_⟩
        refine ⟨r, _, rfl, SqT.of hr3, rfl, _, _, rfl, _, _, rfl, rfl, ?_⟩
        refine ⟨_, rfl, _, rfl, _, _, rfl, rfl, _, rfl, _, rfl, _, _, rfl, rfl, some x, some (.int (tSz ns t)), some (.int (tCo ns t)), by rw [sum_upTo l i t ht, sum_upTo l i t ht]; rfl, s2.trans s3⟩
      · rintro σ H2 ⟨v4, v5, v6, rfl, s2⟩
        rw [hs.len, List.take_of_length_le (Nat.le_refl _), sum_tSz, sum_tCo]
        refine ⟨_, rfl, _, rfl, _, rfl, _, _, rfl, rfl, (by show 2 ≤ sizeLine; decide), fun r hr0 => ?_⟩
        exact q r _ upd_same (s2.trans (same_new hr0 _))
def spCostOf (K : PySem.W.Frag) (n : Nat) : Sp := fun vs H Q _ => ∃ (a : Addr) (ns : List Int) (x : V) (t : PT), vs = [.ref a, x] ∧ SqL K H a (ns.map V.int) ∧ TV H x t ∧ tOk ns.length t ∧ tDp t < n ∧ ∀ H', Same H H' → Q (.int (tCo ns t)) H'
theorem ok_costof (T : Tops K mg) (f_size_and_cost : Df P w K mg base 14 "size_and_cost" ["sizes", "tree"] (spSC K 13)) : Df P w K mg base 15 "cost_of" ["sizes", "tree"] (spCostOf K 13) := by
  refine T.t_cost_of.df sc_cost_of (fun vs H Q E h => ?_) (fun cdv f A outer s H vs Q E hr h => ?_)
  · obtain ⟨a, ns, x, t, rfl, _⟩ := h
    rfl
  obtain ⟨a, ns, x, t, rfl, hS, hT, hok, hdp, q⟩ := h
  refine ⟨_, (@pss_one _ _ _ (@ps_ret _ _ _ _ (@pe_ix _ _ _ _ _ _ _ (ixT K) (@pe_df _ _ _ _ _ _ _ _ _ _ _ f_size_and_cost hr (@pa_cons _ _ _ _ _ (@pv _ 0 _ _ (by rfl) (Or.inl rfl) (by decide) (by decide)) (@pa_cons _ _ _ _ _ (@pv _ 1 _ _ (by rfl) (Or.inl rfl) (by decide) (by decide)) (@pa_nil _) (by rfl)) (by rfl)) (by first | decide | exact Nat.le_refl _ | omega) (by rfl) (by decide) (by rfl) (by rfl)) (@pe_int _ _ _ _) (fun _ _ => rfl)))), ?_⟩
  refine ⟨_, rfl, _, rfl, a, ns, x, t, rfl, hS, hT, hok, hdp, fun r H' hr' s' => ⟨r, _, _, _, rfl, rfl, SqT.of hr', rfl, q _ s'⟩⟩
def spMany : Sp := fun vs H Q _ => ∃ (p : Addr) (c : Int), vs = [.ref p] ∧ Left H p c ∧ c < 2 ^ 50 ∧ ∀ (v c' : Int) (H' : Hp), 0 ≤ v → v ≤ 12 → Left H' p c' → c ≤ c' → c' ≤ c + 3 → But p H H' → Q (.int v) H'
theorem ok_many (T : Tops K mg) (f_l_pick : Df P w K mg base 2 "_law_pick" ["_law_left_here", "_law_many_here"] spPick) : Df P w K mg base 3 "_law_many" ["_law_left_here"] spMany := by
  refine T.t_l_many.df sc_l_many (fun vs H Q E h => ?_) (fun cdv f A outer s H vs Q E hr h => ?_)
  · obtain ⟨p, c, rfl, _⟩ := h
    rfl
  obtain ⟨p, c, rfl, hL, c1, q⟩ := h
  refine ⟨_, (@pss_cons _ _ _ _ _ (@ps_set _ _ 1 _ _ _ _ sc_l_many.nd rfl (Or.inl rfl) (@pe_df _ _ _ _ _ _ _ _ _ _ _ f_l_pick hr (@pa_cons _ _ _ _ _ (@pv _ 0 _ _ (by rfl) (Or.inl rfl) (by decide) (by decide)) (@pa_cons _ _ _ _ _ (@pe_int _ _ _ _) (@pa_nil _) (by rfl)) (by rfl)) (by first | decide | exact Nat.le_refl _ | omega) (by rfl) (by decide) (by rfl) (by rfl)) (by rfl) (by first | exact .inl rfl | exact .inr rfl)) (@pss_one _ _ _ (@ps_ret _ _ _ _ (@pe_ix _ _ _ _ _ _ _ (ixL K) (@pe_lst _ _ _ _ (@pa_cons _ _ _ _ _ (@pe_int _ _ _ _) (@pa_cons _ _ _ _ _ (@pe_int _ _ _ _) (@pa_cons _ _ _ _ _ (@pe_int _ _ _ _) (@pa_cons _ _ _ _ _ (@pe_int _ _ _ _) (@pa_cons _ _ _ _ _ (@pe_int _ _ _ _) (@pa_cons _ _ _ _ _ (@pe_int _ _ _ _) (@pa_cons _ _ _ _ _ (@pe_df _ _ _ _ _ _ _ _ _ _ _ f_l_pick hr (@pa_cons _ _ _ _ _ (@pv _ 0 _ _ (by rfl) (Or.inl rfl) (by decide) (by decide)) (@pa_cons _ _ _ _ _ (@pe_int _ _ _ _) (@pa_nil _) (by rfl)) (by rfl)) (by first | decide | exact Nat.le_refl _ | omega) (by rfl) (by decide) (by rfl) (by rfl)) (@pa_cons _ _ _ _ _ (@pe_op _ _ _ _ _ _ _ _ op_add (@pe_int _ _ _ _) (@pe_df _ _ _ _ _ _ _ _ _ _ _ f_l_pick hr (@pa_cons _ _ _ _ _ (@pv _ 0 _ _ (by rfl) (Or.inl rfl) (by decide) (by decide)) (@pa_cons _ _ _ _ _ (@pe_int _ _ _ _) (@pa_nil _) (by rfl)) (by rfl)) (by first | decide | exact Nat.le_refl _ | omega) (by rfl) (by decide) (by rfl) (by rfl))) (@pa_nil _) (by rfl)) (by rfl)) (by rfl)) (by rfl)) (by rfl)) (by rfl)) (by rfl)) (by rfl))) (@pv _ 1 _ _ (by rfl) (Or.inl rfl) (by decide) (by decide)) (fun _ _ => rfl))))), ?_⟩
  have c0 := hL.ge
  refine ⟨_, rfl, p, c, _, rfl, hL, by omega, by decide, by decide, fun wy H1 w0 w1 L1 B1 => ?_⟩
  refine ⟨_, rfl, p, c + 1, _, rfl, L1, by omega, by decide, by decide, fun d1 H2 d10 d11 L2 B2 => ?_⟩
  refine ⟨_, rfl, p, c + 1 + 1, _, rfl, L2, by omega, by decide, by decide, fun d2 H3 d20 d21 L3 B3 => ⟨_, _, rfl, rfl, (by show 8 ≤ sizeLine; decide), fun e he => ?_⟩⟩
  obtain ⟨v, hv, hat⟩ := at_intM (ns := [2, 3, 4, 5, 6, 3, d1, 7 + d2]) w0 w1
  have hv1 : 0 ≤ v ∧ v ≤ 12 := by
    simp only [List.mem_cons, List.not_mem_nil, or_false] at hv
    omega
  exact ⟨_, rfl, e, _, _, _, rfl, rfl, SqL.of upd_same, hat, q v _ _ hv1.1 hv1.2 (L3.new he) (by omega) (by omega) (((B1.trans B2).trans B3).trans (But.same (same_new he _)))⟩
def spWays : Sp := fun vs H Q _ => ∃ (p : Addr) (c : Int), vs = [.ref p] ∧ Left H p c ∧ c < 2 ^ 50 ∧ ∀ (v : Int) (H' : Hp), 2 ≤ v → v ≤ 6 → Left H' p (c + 1) → But p H H' → Q (.int v) H'
theorem ok_ways (T : Tops K mg) (f_l_pick : Df P w K mg base 2 "_law_pick" ["_law_left_here", "_law_many_here"] spPick) : Df P w K mg base 3 "_law_ways" ["_law_left_here"] spWays := by
  refine T.t_l_ways.df sc_l_ways (fun vs H Q E h => ?_) (fun cdv f A outer s H vs Q E hr h => ?_)
  · obtain ⟨p, c, rfl, _⟩ := h
    rfl
  obtain ⟨p, c, rfl, hL, c1, q⟩ := h
  refine ⟨_, (@pss_one _ _ _ (@ps_ret _ _ _ _ (@pe_ix _ _ _ _ _ _ _ (ixL K) (@pe_lst _ _ _ _ (@pa_cons _ _ _ _ _ (@pe_int _ _ _ _) (@pa_cons _ _ _ _ _ (@pe_int _ _ _ _) (@pa_cons _ _ _ _ _ (@pe_int _ _ _ _) (@pa_cons _ _ _ _ _ (@pe_int _ _ _ _) (@pa_cons _ _ _ _ _ (@pe_int _ _ _ _) (@pa_cons _ _ _ _ _ (@pe_int _ _ _ _) (@pa_nil _) (by rfl)) (by rfl)) (by rfl)) (by rfl)) (by rfl)) (by rfl))) (@pe_df _ _ _ _ _ _ _ _ _ _ _ f_l_pick hr (@pa_cons _ _ _ _ _ (@pv _ 0 _ _ (by rfl) (Or.inl rfl) (by decide) (by decide)) (@pa_cons _ _ _ _ _ (@pe_int _ _ _ _) (@pa_nil _) (by rfl)) (by rfl)) (by first | decide | exact Nat.le_refl _ | omega) (by rfl) (by decide) (by rfl) (by rfl)) (fun _ _ => rfl)))), ?_⟩
  refine ⟨(by show 6 ≤ sizeLine; decide), fun e he => ?_⟩
  have npe : p ≠ e := by obtain ⟨o, ho⟩ := hL.here; exact ne_of_none ho he
  refine ⟨_, rfl, p, c, _, rfl, hL.new he, by omega, by decide, by decide, fun wy H1 w0 w1 L1 B1 => ?_⟩
  obtain ⟨v, hv, hat⟩ := at_intM (ns := [2, 3, 2, 4, 5, 6]) w0 w1
  have hv1 : 2 ≤ v ∧ v ≤ 6 := by
    simp only [List.mem_cons, List.not_mem_nil, or_false] at hv
    omega
  have he1 : H1 e = some (.lst (([2, 3, 2, 4, 5, 6] : List Int).map V.int)) := B1 e _ upd_same npe.symm
  exact ⟨e, _, _, _, rfl, rfl, SqL.of he1, hat, q v _ hv1.1 hv1.2 L1 ((But.same (same_new he _)).trans B1)⟩
theorem trees_shaped {n : Nat} {l : List PT} (hn : n ≤ 1000) (h : tOks n l) (hd : tDps l ≤ 30) : SeqAt.shaped (.list (toDs l)) = true := by
  obtain ⟨a, b, c, d, e⟩ := trees_fit hn l h
  simp [SeqAt.shaped, PyData.canLay0, PyData.depth, a, b]
  omega
theorem ne_nil (l : List PT) : (if true = true then !PyData.eqv (.list (toDs l)) (.list []) else PyData.eqv (.list (toDs l)) (.list [])) = !l.isEmpty := by
  cases l with
  | nil => decide +kernel
  | cons t r => simp [toDs, PyData.eqv, PyData.eqvAll]
theorem tup_upd {H : Hp} {b : Addr} {ys : List V} (h : H b = some (.lst ys)) (o : HO) : ∀ a xs, H a = some (.tup xs) → (upd H b o) a = some (.tup xs) := fun a xs e => by
  have nb : a ≠ b := by intro z; rw [z, h] at e; cases e
  rw [upd_ne nb]; exact e
def spRows (n : Nat) : Sp := fun vs H Q _ => ∃ (x : V) (t : PT) (ns : List Int), vs = [x] ∧ TV H x t ∧ ns.length = n ∧ n ≤ 1000 ∧ tOk n t ∧ tDp t ≤ 30 ∧ tNo t ≤ 200 ∧
  ∀ (r : Addr) (ks : List Int) (H' : Hp), H r = none → H' r = some (.lst (ks.map V.int)) → (∀ k ∈ ks, 0 ≤ k ∧ k < (n : Nat)) → (ks.map fun k => ns.getD k.toNat 0).sum = tSz ns t → ks.length ≤ 200 → Same H H' → Q (.ref r) H'
theorem ok_rows (T : Tops K mg) (n : Nat) : Df P w K mg base 1 "_law_rows_in" ["_law_tree"] (spRows n) := by
  refine T.t_l_rows_in.df sc_l_rows_in (fun vs H Q E h => ?_) (fun cdv f A outer s H vs Q E hr h => ?_)
  · obtain ⟨x, t, ns, rfl, _⟩ := h
    rfl
  obtain ⟨x, t, ns, rfl, hT, hns, hn, hok, hdp, hno, q⟩ := h
  refine ⟨_, (@pss_cons _ _ _ _ _ (@ps_set _ _ 1 _ _ _ _ sc_l_rows_in.nd rfl (Or.inl rfl) (@pe_lst _ _ _ _ (@pa_nil _)) (by rfl) (by first | exact .inl rfl | exact .inr rfl)) (@pss_cons _ _ _ _ _ (@ps_set _ _ 2 _ _ _ _ sc_l_rows_in.nd rfl (Or.inl rfl) (@pe_lst _ _ _ _ (@pa_cons _ _ _ _ _ (@pv _ 0 _ _ (by rfl) (Or.inl rfl) (by decide) (by decide)) (@pa_nil _) (by rfl))) (by rfl) (by first | exact .inl rfl | exact .inr rfl)) (@pss_cons _ _ _ _ _ (@ps_while _ _ _ _ _ _ PassesOwn.never (@pt_cmpR _ _ _ _ _ _ _ _ (@neD _ K _ hr (by rfl)) (@pv _ 2 _ _ (by rfl) (Or.inl rfl) (by decide) (by decide)) (@pe_lst _ _ _ _ (@pa_nil _)) (nomark _)) (@pss_cons _ _ _ _ _ (@ps_set _ _ 3 _ _ _ _ sc_l_rows_in.nd rfl (Or.inl rfl) (@pe_bm0 _ _ _ _ _ _ _ _ _ PySem.F.plainAttrs_list PySem.F.slot_list_pop PySem.F.type_list_pop mt_pop (@pv _ 2 _ _ (by rfl) (Or.inl rfl) (by decide) (by decide)) (by rfl) (by rfl)) (by rfl) (by first | exact .inl rfl | exact .inr rfl)) (@pss_one _ _ _ (@ps_if _ _ _ _ _ _ _ _ (@pt_val _ _ _ (@pe_callB _ _ _ _ _ _ _ _ _ (isiQ K) (by rfl) T.b.n_isinstance boot_isinstance (@pa_cons _ _ _ _ _ (@pv _ 3 _ _ (by rfl) (Or.inl rfl) (by decide) (by decide)) (@pa_cons _ _ _ _ _ (@pe_ty _ _ _ _ T.b.n_tuple boot_tuple (by rfl) (by decide) (by decide)) (@pa_nil _) (by rfl)) (by rfl)) (by decide) (by decide) (by rfl) (by rfl)) (by intro _; rfl)) (@pss_one _ _ _ (@ps_expr _ _ _ _ (@pe_bm _ _ _ _ _ _ _ _ _ _ _ _ PySem.F.plainAttrs_list PySem.F.slot_list_extend PySem.F.type_list_extend (extT K) (@pv _ 2 _ _ (by rfl) (Or.inl rfl) (by decide) (by decide)) (@pa_cons _ _ _ _ _ (@pe_sliceS _ _ _ _ _ _ _ _ _ _ _ _ (slTS K) (@pv _ 3 _ _ (by rfl) (Or.inl rfl) (by decide) (by decide)) (@po_none _) (@po_none _) (@po_some _ _ _ (@pe_un _ _ _ _ _ _ un_neg (@pe_int _ _ _ _)))) (@pa_nil _) (by rfl)) (by rfl) (by rfl) (by rfl) (by rfl) (by rfl)) (by rfl))) (@pss_one _ _ _ (@ps_expr _ _ _ _ (@pe_bm _ _ _ _ _ _ _ _ _ _ _ _ PySem.F.plainAttrs_list PySem.F.slot_list_append PySem.F.type_list_append mt_append (@pv _ 1 _ _ (by rfl) (Or.inl rfl) (by decide) (by decide)) (@pa_cons _ _ _ _ _ (@pv _ 3 _ _ (by rfl) (Or.inl rfl) (by decide) (by decide)) (@pa_nil _) (by rfl)) (by rfl) (by rfl) (by rfl) (by rfl) (by rfl)) (by rfl))))))) (@pss_one _ _ _ (@ps_ret _ _ _ _ (@pv _ 1 _ _ (by rfl) (Or.inl rfl) (by decide) (by decide))))))), ?_⟩
  refine ⟨(by show 0 ≤ sizeLine; decide), fun f hf => ⟨_, rfl, (by show 1 ≤ sizeLine; decide), fun wa hwa => ?_⟩⟩
  have hwH : H wa = none := (same_new hf (.lst [])).free hwa
  have nfw : f ≠ wa := ne_of_none (H := upd H f (.lst [])) upd_same hwa
  have s0 : Same H (upd (upd H f (.lst [])) wa (.lst [x])) := (same_new hf _).trans (same_new hwa _)
  refine ⟨fun m σ H2 => ∃ (xs : List V) (l : List PT) (ks : List Int) (v3 : Option V), σ = [some x, some (.ref f), some (.ref wa), v3] ∧ H2 wa = some (.lst xs) ∧ TVs H2 xs l ∧ tOks n l ∧ tDps l ≤ 30 ∧ H2 f = some (.lst (ks.map V.int)) ∧ (∀ k ∈ ks, 0 ≤ k ∧ k < (n : Nat)) ∧ (ks.map fun k => ns.getD k.toNat 0).sum + tSzs ns l = tSz ns t ∧ ks.length + tNos l ≤ 200 ∧ Same H H2 ∧ m = tNos l,
    ⟨_, [x], [t], [], none, rfl, upd_same, .cons (hT.mono (same_tup s0)) .nil, ⟨hok, trivial⟩, ?_, ?_, (fun k h => by cases h), ?_, ?_, s0, rfl⟩, ?_⟩
  · show max (tDp t) 0 ≤ 30; omega
  · rw [upd_ne nfw]; exact upd_same
  · show (0 : Int) + (tSz ns t + 0) = tSz ns t; omega
  · show 0 + (tNo t + 0) ≤ 200; omega
  rintro m σ H2 ⟨xs, l, ks, v3, rfl, hw2, hT2, ok2, dp2, hf2, hks, hsum, hcnt, s2, rfl⟩
  refine ⟨_, rfl, (by show 0 ≤ sizeLine; decide), fun e he => ?_⟩
  have se := same_new he (.lst [])
  refine ⟨.list (toDs l), .list [], .lst (SqL.of (se _ _ hw2)) (hT2.mono (same_tup se)).dv, .lst (SqL.of upd_same) .nil, trees_shaped hn ok2 dp2, (by decide +kernel), _, rfl, ?_⟩
  rw [ne_nil]
  have hw3 := se _ _ hw2
  have hf3 := se _ _ hf2
  have s3 := s2.trans se
  have hT3 := hT2.mono (same_tup se)
  generalize upd H2 e (.lst []) = H3 at hw3 hf3 s3 hT3 ⊢
  cases hl : l.isEmpty with
  | true =>
    have e0 : l = [] := List.isEmpty_iff.mp hl
    subst e0
    refine iteF ⟨_, rfl, q f ks H3 hf hf3 hks ?_ ?_ s3⟩
    · have : (ks.map fun k => ns.getD k.toNat 0).sum + 0 = tSz ns t := hsum
      omega
    · omega
  | false =>
    have lpos : 0 < l.length := by
      cases l with
      | nil => cases hl
      | cons a r => simp
    obtain ⟨y, u, hy, hu, hTd, el⟩ := hT3.last lpos
    have okd : tOks n l.dropLast ∧ tOk n u := by
      have := ok2; rw [el, tOks_app] at this; exact ⟨this.1, this.2.1⟩
    have szd : tSzs ns l = tSzs ns l.dropLast + tSz ns u := by
      have : tSzs ns (l.dropLast ++ [u]) = _ := tSzs_app ns _ _
      rw [← el] at this; rw [this]; show _ + (tSz ns u + 0) = _; omega
    have nod : tNos l = tNos l.dropLast + tNo u := by
      have : tNos (l.dropLast ++ [u]) = _ := tNos_app _ _
      rw [← el] at this; rw [this]; show _ + (tNo u + 0) = _; omega
    have dpd : tDps l = max (tDps l.dropLast) (tDp u) := by
      have : tDps (l.dropLast ++ [u]) = _ := tDps_app _ _
      rw [← el] at this; rw [this]; show max _ (max (tDp u) 0) = _; omega
    have hup := tNo_pos u
    refine iteT ⟨_, fun σ' H' h => h, ?_⟩
    refine ⟨_, rfl, .inl ⟨rfl, _, SqL.of hw3⟩, wa, xs, y, rfl, rfl, hw3, hy, ?_⟩
    have hw4 : (upd H3 wa (.lst xs.dropLast)) wa = some (.lst xs.dropLast) := upd_same
    have hf4 : (upd H3 wa (.lst xs.dropLast)) f = some (.lst (ks.map V.int)) := by rw [upd_ne nfw]; exact hf3
    have s4 : Same H (upd H3 wa (.lst xs.dropLast)) := fun b o h => by rw [upd_ne (ne_of_none h hwH)]; exact s3 b o h
    have hTd4 := hTd.mono (tup_upd hw3 (.lst xs.dropLast))
    have hu4 := hu.mono (tup_upd hw3 (.lst xs.dropLast))
    generalize upd H3 wa (.lst xs.dropLast) = H4 at hw4 hf4 s4 hTd4 hu4 ⊢
    cases hu4 with
    | leaf k =>
      refine ⟨_, rfl, _, "tuple", _, _, rfl, .int k, k_int_tup K, _, rfl, iteF ?_⟩
      refine ⟨_, rfl, .inl ⟨rfl, _, SqL.of hf4⟩, _, rfl, f, _, _, rfl, rfl, hf4, (by rw [List.length_map]; exact small1000 (by omega)), _, ?_, xs.dropLast, l.dropLast, ks ++ [k], _, rfl, ?_, ?_, okd.1, by omega, ?_, ?_, ?_, ?_, ?_, rfl⟩
      · have : tNo (.leaf k) = 1 := rfl
        omega
      · rw [upd_ne nfw.symm]; exact hw4
      · exact hTd4.mono (tup_upd hf4 _)
      · rw [upd_same, List.map_append]; rfl
      · intro z hz
        rcases List.mem_append.mp hz with hz | hz
        · exact hks z hz
        · rw [List.mem_singleton.mp hz]; exact okd.2
      · rw [List.map_append, List.sum_append]
        have : tSz ns (.leaf k) = ns.getD k.toNat 0 := rfl
        simp only [List.map_cons, List.map_nil, List.sum_cons, List.sum_nil]
        omega
      · have : tNo (.leaf k) = 1 := rfl
        rw [List.length_append, List.length_singleton]; omega
      · intro b o h
        rw [upd_ne (ne_of_none h hf)]; exact s4 b o h
    | node ha hs =>
      rename_i a' ys l'
      have hno' : tNo (.node l') = tNos l' + 1 := rfl
      have hdp' : tDp (.node l') = tDps l' + 1 := rfl
      have hsz' : tSz ns (.node l') = tSzs ns l' := rfl
      refine ⟨_, rfl, _, "tuple", _, _, rfl, .tup ha, k_tup_tup K, _, rfl, iteT ?_⟩
      refine ⟨_, rfl, .inl ⟨rfl, _, SqL.of hw4⟩, _, rfl, _, rfl, _, rfl, _, rfl, a', ys, rfl, SqT.of ha, rfl, rfl, rfl, fun tp htp => ?_⟩
      have hw5 := same_new htp (.tup ys.reverse) _ _ hw4
      have st := same_new htp (.tup ys.reverse)
      have l1 := hTd4.len
      have l2 := hs.len
      have l3 := tNos_len l.dropLast
      have l4 := tNos_len l'
      refine ⟨wa, tp, _, _, rfl, rfl, hw5, upd_same, (small (by rw [List.length_reverse]; omega)), _, ?_, xs.dropLast ++ ys.reverse, l.dropLast ++ l'.reverse, ks, _, rfl, upd_same, ?_, ?_, ?_, ?_, hks, ?_, ?_, ?_, rfl⟩
      · rw [tNos_app, tNos_rev]; omega
      · exact ((hTd4.mono (same_tup st)).app (hs.rev.mono (same_tup st))).mono (tup_upd hw5 _)
      · rw [tOks_app, tOks_rev]; exact okd
      · rw [tDps_app, tDps_rev]; omega
      · rw [upd_ne nfw]; exact st _ _ hf4
      · rw [tSzs_app, tSzs_rev]; omega
      · rw [tNos_app, tNos_rev]; omega
      · intro b o h
        rw [upd_ne (ne_of_none h hwH)]; exact st _ _ (s4 b o h)
def spCost (K : PySem.W.Frag) : Sp := fun vs H Q _ => ∃ (a : Addr) (ns : List Int) (x : V) (t : PT), vs = [.ref a, x] ∧ SqL K H a (ns.map V.int) ∧ ns.length ≤ 100 ∧ (∀ v ∈ ns, 0 ≤ v ∧ v ≤ 10000000000) ∧ TV H x t ∧ tOk ns.length t ∧ tDp t ≤ 30 ∧ tNo t ≤ 200 ∧ ∀ H', Same H H' → Q (.int (tCo ns t)) H'
theorem ok_cost (T : Tops K mg) (f_l_rows_in' : ∀ n, Df P w K mg base 1 "_law_rows_in" ["_law_tree"] (spRows n)) : Df P w K mg base 2 "_law_cost" ["_law_sizes_here", "_law_tree"] (spCost K) := by
  refine T.t_l_cost.df sc_l_cost (fun vs H Q E h => ?_) (fun cdv f A outer s H vs Q E hr h => ?_)
  · obtain ⟨a, ns, x, t, rfl, _⟩ := h
    rfl
  obtain ⟨a, ns, x, t, rfl, hS, hn, hbd, hT, hok, hdp, hno, q⟩ := h
  have f_l_rows_in := f_l_rows_in' ns.length
  refine ⟨_, (@pss_cons _ _ _ _ _ (@ps_set _ _ 2 _ _ _ _ sc_l_cost.nd rfl (Or.inl rfl) (@pe_int _ _ _ _) (by rfl) (by first | exact .inl rfl | exact .inr rfl)) (@pss_cons _ _ _ _ _ (@ps_set _ _ 3 _ _ _ _ sc_l_cost.nd rfl (Or.inl rfl) (@pe_lst _ _ _ _ (@pa_cons _ _ _ _ _ (@pv _ 1 _ _ (by rfl) (Or.inl rfl) (by decide) (by decide)) (@pa_nil _) (by rfl))) (by rfl) (by first | exact .inl rfl | exact .inr rfl)) (@pss_cons _ _ _ _ _ (@ps_while _ _ _ _ _ _ PassesOwn.never (@pt_cmpR _ _ _ _ _ _ _ _ (@neD _ K _ hr (by rfl)) (@pv _ 3 _ _ (by rfl) (Or.inl rfl) (by decide) (by decide)) (@pe_lst _ _ _ _ (@pa_nil _)) (nomark _)) (@pss_cons _ _ _ _ _ (@ps_set _ _ 4 _ _ _ _ sc_l_cost.nd rfl (Or.inl rfl) (@pe_bm0 _ _ _ _ _ _ _ _ _ PySem.F.plainAttrs_list PySem.F.slot_list_pop PySem.F.type_list_pop mt_pop (@pv _ 3 _ _ (by rfl) (Or.inl rfl) (by decide) (by decide)) (by rfl) (by rfl)) (by rfl) (by first | exact .inl rfl | exact .inr rfl)) (@pss_one _ _ _ (@ps_if _ _ _ _ _ _ _ _ (@pt_val _ _ _ (@pe_callB _ _ _ _ _ _ _ _ _ (isiQ K) (by rfl) T.b.n_isinstance boot_isinstance (@pa_cons _ _ _ _ _ (@pv _ 4 _ _ (by rfl) (Or.inl rfl) (by decide) (by decide)) (@pa_cons _ _ _ _ _ (@pe_ty _ _ _ _ T.b.n_tuple boot_tuple (by rfl) (by decide) (by decide)) (@pa_nil _) (by rfl)) (by rfl)) (by decide) (by decide) (by rfl) (by rfl)) (by intro _; rfl)) (@pss_cons _ _ _ _ _ (@ps_set _ _ 2 _ _ _ _ sc_l_cost.nd rfl (Or.inl rfl) (@pe_op _ _ _ _ _ _ _ _ op_add (@pv _ 2 _ _ (by rfl) (Or.inl rfl) (by decide) (by decide)) (@pe_callB _ _ _ _ _ _ _ _ _ (sumC K) (by rfl) T.b.n_sum boot_sum (@pa_cons _ _ _ _ _ (@pe_comp _ _ _ _ _ _ _ _ _ _ _ _ _ _ cs_1 rfl rfl rfl (@iL _ K _ _ _ (@pe_df _ _ _ _ _ _ _ _ _ _ _ f_l_rows_in hr (@pa_cons _ _ _ _ _ (@pv _ 4 _ _ (by rfl) (Or.inl rfl) (by decide) (by decide)) (@pa_nil _) (by rfl)) (by first | decide | exact Nat.le_refl _ | omega) (by rfl) (by decide) (by rfl) (by rfl)) (by rfl)) (fun _ _ _ _ => (@cg _ _ _ _ _ _ _ _ _ _ _ 5 cs_1 rfl (by decide +kernel) (by rfl))) (fun _ _ _ _ => (@pts_nil _)) (fun _ _ _ _ => (@pe_ix _ _ _ _ _ _ _ (ixL K) (@cv _ _ _ _ _ _ _ _ _ _ _ 0 cs_1 rfl (by decide +kernel) (by rfl) (by decide) (by decide)) (@cw _ _ _ _ _ _ _ _ _ _ _ 5 cs_1 rfl (by decide +kernel) (by rfl) (by decide) (by decide)) (fun _ _ => rfl))) (by intro _; rfl)) (@pa_nil _) (by rfl)) (by decide) (by decide) (by rfl) (by rfl))) (by rfl) (by first | exact .inl rfl | exact .inr rfl)) (@pss_one _ _ _ (@ps_expr _ _ _ _ (@pe_bm _ _ _ _ _ _ _ _ _ _ _ _ PySem.F.plainAttrs_list PySem.F.slot_list_extend PySem.F.type_list_extend (extT K) (@pv _ 3 _ _ (by rfl) (Or.inl rfl) (by decide) (by decide)) (@pa_cons _ _ _ _ _ (@pv _ 4 _ _ (by rfl) (Or.inl rfl) (by decide) (by decide)) (@pa_nil _) (by rfl)) (by rfl) (by rfl) (by rfl) (by rfl) (by rfl)) (by rfl)))) (@pss_nil _))))) (@pss_one _ _ _ (@ps_ret _ _ _ _ (@pv _ 2 _ _ (by rfl) (Or.inl rfl) (by decide) (by decide))))))), ?_⟩
  refine ⟨_, rfl, (by show 1 ≤ sizeLine; decide), fun wa hwa => ?_⟩
  have s0 : Same H (upd H wa (.lst [x])) := same_new hwa _
  refine ⟨fun m σ H2 => ∃ (xs : List V) (l : List PT) (tot : Int) (v4 : Option V), σ = [some (.ref a), some x, some (.int tot), some (.ref wa), v4] ∧ H2 wa = some (.lst xs) ∧ TVs H2 xs l ∧ tOks ns.length l ∧ tDps l ≤ 30 ∧ tot + tCos ns l = tCo ns t ∧ tNos l ≤ 200 ∧ Same H H2 ∧ m = tNos l,
    ⟨_, [x], [t], 0, none, rfl, upd_same, .cons (hT.mono (same_tup s0)) .nil, ⟨hok, trivial⟩, ?_, ?_, ?_, s0, rfl⟩, ?_⟩
  · show max (tDp t) 0 ≤ 30; omega
  · show (0 : Int) + (tCo ns t + 0) = tCo ns t; omega
  · show tNo t + 0 ≤ 200; omega
  rintro m σ H2 ⟨xs, l, tot, v4, rfl, hw2, hT2, ok2, dp2, hsum, hcnt, s2, rfl⟩
  refine ⟨_, rfl, (by show 0 ≤ sizeLine; decide), fun e he => ?_⟩
  have se := same_new he (.lst [])
  refine ⟨.list (toDs l), .list [], .lst (SqL.of (se _ _ hw2)) (hT2.mono (same_tup se)).dv, .lst (SqL.of upd_same) .nil, trees_shaped (by omega) ok2 dp2, (by decide +kernel), _, rfl, ?_⟩
  rw [ne_nil]
  have hw3 := se _ _ hw2
  have s3 := s2.trans se
  have hT3 := hT2.mono (same_tup se)
  generalize upd H2 e (.lst []) = H3 at hw3 s3 hT3 ⊢
  cases hl : l.isEmpty with
  | true =>
    have e0 : l = [] := List.isEmpty_iff.mp hl
    subst e0
    have e1 : tot = tCo ns t := by have : tot + 0 = tCo ns t := hsum; omega
    subst e1
    exact iteF ⟨_, rfl, q H3 s3⟩
  | false =>
    have lpos : 0 < l.length := by
      cases l with
      | nil => cases hl
      | cons a r => simp
    obtain ⟨y, u, hy, hu, hTd, el⟩ := hT3.last lpos
    have okd : tOks ns.length l.dropLast ∧ tOk ns.length u := by
      have := ok2; rw [el, tOks_app] at this; exact ⟨this.1, this.2.1⟩
    have cod : tCos ns l = tCos ns l.dropLast + tCo ns u := by
      have : tCos ns (l.dropLast ++ [u]) = _ := tCos_app ns _ _
      rw [← el] at this; rw [this]; show _ + (tCo ns u + 0) = _; omega
    have nod : tNos l = tNos l.dropLast + tNo u := by
      have : tNos (l.dropLast ++ [u]) = _ := tNos_app _ _
      rw [← el] at this; rw [this]; show _ + (tNo u + 0) = _; omega
    have dpd : tDps l = max (tDps l.dropLast) (tDp u) := by
      have : tDps (l.dropLast ++ [u]) = _ := tDps_app _ _
      rw [← el] at this; rw [this]; show max _ (max (tDp u) 0) = _; omega
    have hup := tNo_pos u
    refine iteT ⟨_, fun σ' H' h => h, ?_⟩
    refine ⟨_, rfl, .inl ⟨rfl, _, SqL.of hw3⟩, wa, xs, y, rfl, rfl, hw3, hy, ?_⟩
    have hw4 : (upd H3 wa (.lst xs.dropLast)) wa = some (.lst xs.dropLast) := upd_same
    have s4 : Same H (upd H3 wa (.lst xs.dropLast)) := fun b o h => by rw [upd_ne (ne_of_none h hwa)]; exact s3 b o h
    have hTd4 := hTd.mono (tup_upd hw3 (.lst xs.dropLast))
    have hu4 := hu.mono (tup_upd hw3 (.lst xs.dropLast))
    generalize upd H3 wa (.lst xs.dropLast) = H4 at hw4 s4 hTd4 hu4 ⊢
    have hu4' := id hu4
    cases hu4 with
    | leaf k =>
      refine ⟨_, rfl, _, "tuple", _, _, rfl, .int k, k_int_tup K, _, rfl, iteF ?_⟩
      have e1 : tNo (.leaf k) = 1 := rfl
      have e2 : tCo ns (.leaf k) = 0 := rfl
      exact ⟨_, by show tNos l.dropLast < tNos l; omega, xs.dropLast, l.dropLast, tot, _, rfl, hw4, hTd4, okd.1, by omega, by omega, by omega, s4, rfl⟩
    | node ha hs =>
      rename_i a' ys l'
      have hno' : tNo (.node l') = tNos l' + 1 := rfl
      have hdp' : tDp (.node l') = tDps l' + 1 := rfl
      have hco' : tCo ns (.node l') = tCos ns l' + tSzs ns l' := rfl
      have hsz' : tSz ns (.node l') = tSzs ns l' := rfl
      refine ⟨_, rfl, _, "tuple", _, _, rfl, .tup ha, k_tup_tup K, _, rfl, iteT ?_⟩
      refine ⟨_, rfl, _, rfl, .ref a', .node l', ns, rfl, hu4', rfl, by omega, okd.2, by omega, by omega, fun r ks H5 hr0 hr5 hks hsumr hkl s5 => ⟨r, rfl, ⟨_, SqL.of hr5⟩, fun D hD => ?_⟩⟩
      have hS5 := (s4.trans s5).seq hS
      refine comp_list (K := K) (a := r) (xs := ks.map V.int) (fun i zs σ H6 => (∃ v : Option V, σ = [some (.ref a), some x, some (.int tot), some (.ref wa), some (.ref a'), v]) ∧ zs = ((ks.take i).map fun k => ns.getD k.toNat 0).map V.int ∧ i ≤ ks.length ∧ H6 D = some (.lst zs) ∧ Same H5 H6) ?_ (fun _ _ _ _ h => SqL.of (h.2.2.2.2 _ _ hr5)) ?_ ?_
      · exact ⟨⟨none, rfl⟩, rfl, Nat.zero_le _, upd_same, same_new hD _⟩
      · rintro i z zs σ H6 hz ⟨⟨v, rfl⟩, rfl, hi, hD6, s6⟩
        rw [List.getElem?_map] at hz
        cases hk : ks[i]? with
        | none => rw [hk] at hz; cases hz
        | some k =>
          rw [hk] at hz
          cases hz
          have hil : i < ks.length := (List.getElem?_eq_some_iff.mp hk).1
          refine ⟨_, rfl, _, rfl, a, _, _, _, rfl, rfl, s6.seq hS5, tOk_at (hks k (List.mem_of_getElem? hk)), hD6, (by rw [List.length_map, List.length_map, List.length_take]; exact small1000 (by omega)), ⟨_, rfl⟩, ?_, hil, upd_same, fun b o h => ?_⟩
          · rw [List.take_add_one, hk]; simp
          · rw [upd_ne (ne_of_none h hD)]; exact s6 b o h
      · rintro zs σ H6 ⟨⟨v, rfl⟩, rfl, hi, hD6, s6⟩
        rw [List.length_map, List.take_of_length_le (Nat.le_refl _)] at hD6
        refine ⟨D, ks.map fun k => ns.getD k.toNat 0, rfl, SqL.of hD6, by rw [List.length_map]; omega, fun v hv => ?_, _, _, rfl, rfl, ?_⟩
        · obtain ⟨k, hk, rfl⟩ := List.mem_map.mp hv
          have hk2 := hks k hk
          have hkn : k.toNat < ns.length := by omega
          rw [List.getD_eq_getElem?_getD, List.getElem?_eq_getElem hkn]
          have h9 := hbd _ (List.getElem_mem hkn); exact ⟨h9.1, Int.le_trans h9.2 (by decide)⟩
        rw [hsumr]
        have s46 := s5.trans s6
        have hw6 := s46 _ _ hw4
        have l1 := hTd4.len
        have l2 := hs.len
        have l3 := tNos_len l.dropLast
        have l4 := tNos_len l'
        refine ⟨_, rfl, .inl ⟨rfl, _, SqL.of hw6⟩, _, rfl, wa, a', _, _, rfl, rfl, hw6, s46 _ _ ha, (small (by omega)), _, ?_, xs.dropLast ++ ys, l.dropLast ++ l', tot + tSz ns (.node l'), _, rfl, upd_same, ?_, ?_, ?_, ?_, ?_, ?_, rfl⟩
        · show tNos (l.dropLast ++ l') < tNos l
          rw [tNos_app]; omega
        · exact ((hTd4.app hs).mono (same_tup s46)).mono (tup_upd hw6 _)
        · rw [tOks_app]; exact okd
        · rw [tDps_app]; omega
        · rw [tCos_app]; omega
        · rw [tNos_app]; omega
        · intro b o h
          rw [upd_ne (ne_of_none h hwa)]; exact s46 _ _ (s4 b o h)
def spSizes : Sp := fun vs H Q _ => ∃ (p : Addr) (c : Int), vs = [.ref p, .int 6] ∧ Left H p c ∧ c < 2 ^ 40 ∧
  ∀ (r : Addr) (ns : List Int) (c' : Int) (H' : Hp), H r = none → H' r = some (.lst (ns.map V.int)) → 1 ≤ ns.length → ns.length ≤ 6 → (∀ v ∈ ns, 0 ≤ v ∧ v ≤ 1000000000) → Left H' p c' → c ≤ c' → c' ≤ c + 100 → But p H H' → Q (.ref r) H'
theorem ok_sizes (T : Tops K mg) (f_l_pick : Df P w K mg base 2 "_law_pick" ["_law_left_here", "_law_many_here"] spPick) (f_l_many : Df P w K mg base 3 "_law_many" ["_law_left_here"] spMany) : Df P w K mg base 4 "_law_sizes" ["_law_left_here", "_law_most"] spSizes := by
  refine T.t_l_sizes.df sc_l_sizes (fun vs H Q E h => ?_) (fun cdv f A outer s H vs Q E hr h => ?_)
  · obtain ⟨p, c, rfl, _⟩ := h
    rfl
  obtain ⟨p, c, rfl, hL, c1, q⟩ := h
  refine ⟨_, (@pss_cons _ _ _ _ _ (@ps_set _ _ 2 _ _ _ _ sc_l_sizes.nd rfl (Or.inl rfl) (@pe_callB _ _ _ _ _ _ _ _ _ (call_max2 rfl) (by rfl) T.b.n_max boot_max (@pa_cons _ _ _ _ _ (@pe_int _ _ _ _) (@pa_cons _ _ _ _ _ (@pe_callB _ _ _ _ _ _ _ _ _ (call_min2 rfl) (by rfl) T.b.n_min boot_min (@pa_cons _ _ _ _ _ (@pv _ 1 _ _ (by rfl) (Or.inl rfl) (by decide) (by decide)) (@pa_cons _ _ _ _ _ (@pe_df _ _ _ _ _ _ _ _ _ _ _ f_l_many hr (@pa_cons _ _ _ _ _ (@pv _ 0 _ _ (by rfl) (Or.inl rfl) (by decide) (by decide)) (@pa_nil _) (by rfl)) (by first | decide | exact Nat.le_refl _ | omega) (by rfl) (by decide) (by rfl) (by rfl)) (@pa_nil _) (by rfl)) (by rfl)) (by decide) (by decide) (by rfl) (by rfl)) (@pa_nil _) (by rfl)) (by rfl)) (by decide) (by decide) (by rfl) (by rfl)) (by rfl) (by first | exact .inl rfl | exact .inr rfl)) (@pss_cons _ _ _ _ _ (@ps_set _ _ 3 _ _ _ _ sc_l_sizes.nd rfl (Or.inl rfl) (@pe_df _ _ _ _ _ _ _ _ _ _ _ f_l_pick hr (@pa_cons _ _ _ _ _ (@pv _ 0 _ _ (by rfl) (Or.inl rfl) (by decide) (by decide)) (@pa_cons _ _ _ _ _ (@pe_int _ _ _ _) (@pa_nil _) (by rfl)) (by rfl)) (by first | decide | exact Nat.le_refl _ | omega) (by rfl) (by decide) (by rfl) (by rfl)) (by rfl) (by first | exact .inl rfl | exact .inr rfl)) (@pss_cons _ _ _ _ _ (@ps_set _ _ 4 _ _ _ _ sc_l_sizes.nd rfl (Or.inl rfl) (@pe_lst _ _ _ _ (@pa_nil _)) (by rfl) (by first | exact .inl rfl | exact .inr rfl)) (@pss_cons _ _ _ _ _ (@ps_for _ _ _ _ _ _ _ _ PassesOwn.never rfl (@pi_range1 _ _ _ _ _ _ rfl T.b.n_range (@pa_cons _ _ _ _ _ (@pv _ 2 _ _ (by rfl) (Or.inl rfl) (by decide) (by decide)) (@pa_nil _) (by rfl)) (by rfl)) (@pg_name _ _ 5 _ sc_l_sizes.nd rfl (Or.inl rfl) (by first | exact .inl rfl | exact .inr rfl)) (@pss_cons _ _ _ _ _ (@ps_set _ _ 6 _ _ _ _ sc_l_sizes.nd rfl (Or.inl rfl) (@pe_lst _ _ _ _ (@pa_cons _ _ _ _ _ (@pe_df _ _ _ _ _ _ _ _ _ _ _ f_l_pick hr (@pa_cons _ _ _ _ _ (@pv _ 0 _ _ (by rfl) (Or.inl rfl) (by decide) (by decide)) (@pa_cons _ _ _ _ _ (@pe_int _ _ _ _) (@pa_nil _) (by rfl)) (by rfl)) (by first | decide | exact Nat.le_refl _ | omega) (by rfl) (by decide) (by rfl) (by rfl)) (@pa_cons _ _ _ _ _ (@pe_op _ _ _ _ _ _ _ _ op_mul (@pe_df _ _ _ _ _ _ _ _ _ _ _ f_l_pick hr (@pa_cons _ _ _ _ _ (@pv _ 0 _ _ (by rfl) (Or.inl rfl) (by decide) (by decide)) (@pa_cons _ _ _ _ _ (@pe_int _ _ _ _) (@pa_nil _) (by rfl)) (by rfl)) (by first | decide | exact Nat.le_refl _ | omega) (by rfl) (by decide) (by rfl) (by rfl)) (@pe_df _ _ _ _ _ _ _ _ _ _ _ f_l_pick hr (@pa_cons _ _ _ _ _ (@pv _ 0 _ _ (by rfl) (Or.inl rfl) (by decide) (by decide)) (@pa_cons _ _ _ _ _ (@pe_int _ _ _ _) (@pa_nil _) (by rfl)) (by rfl)) (by first | decide | exact Nat.le_refl _ | omega) (by rfl) (by decide) (by rfl) (by rfl))) (@pa_cons _ _ _ _ _ (@pe_int _ _ _ _) (@pa_cons _ _ _ _ _ (@pe_op _ _ _ _ _ _ _ _ op_add (@pe_int _ _ _ _) (@pe_op _ _ _ _ _ _ _ _ op_mul (@pv _ 5 _ _ (by rfl) (Or.inl rfl) (by decide) (by decide)) (@pv _ 5 _ _ (by rfl) (Or.inl rfl) (by decide) (by decide)))) (@pa_nil _) (by rfl)) (by rfl)) (by rfl)) (by rfl))) (by rfl) (by first | exact .inl rfl | exact .inr rfl)) (@pss_one _ _ _ (@ps_expr _ _ _ _ (@pe_bm _ _ _ _ _ _ _ _ _ _ _ _ PySem.F.plainAttrs_list PySem.F.slot_list_append PySem.F.type_list_append mt_append (@pv _ 4 _ _ (by rfl) (Or.inl rfl) (by decide) (by decide)) (@pa_cons _ _ _ _ _ (@pe_ix _ _ _ _ _ _ _ (ixL K) (@pe_op _ _ _ _ _ _ _ _ op_cat (@pv _ 6 _ _ (by rfl) (Or.inl rfl) (by decide) (by decide)) (@pe_lst _ _ _ _ (@pa_cons _ _ _ _ _ (@pe_op _ _ _ _ _ _ _ _ op_sub (@pe_op _ _ _ _ _ _ _ _ op_pow (@pe_int _ _ _ _) (@pe_int _ _ _ _)) (@pe_df _ _ _ _ _ _ _ _ _ _ _ f_l_pick hr (@pa_cons _ _ _ _ _ (@pv _ 0 _ _ (by rfl) (Or.inl rfl) (by decide) (by decide)) (@pa_cons _ _ _ _ _ (@pe_int _ _ _ _) (@pa_nil _) (by rfl)) (by rfl)) (by first | decide | exact Nat.le_refl _ | omega) (by rfl) (by decide) (by rfl) (by rfl))) (@pa_cons _ _ _ _ _ (@pe_df _ _ _ _ _ _ _ _ _ _ _ f_l_pick hr (@pa_cons _ _ _ _ _ (@pv _ 0 _ _ (by rfl) (Or.inl rfl) (by decide) (by decide)) (@pa_cons _ _ _ _ _ (@pe_op _ _ _ _ _ _ _ _ op_add (@pe_op _ _ _ _ _ _ _ _ op_pow (@pe_int _ _ _ _) (@pe_int _ _ _ _)) (@pe_int _ _ _ _)) (@pa_nil _) (by rfl)) (by rfl)) (by first | decide | exact Nat.le_refl _ | omega) (by rfl) (by decide) (by rfl) (by rfl)) (@pa_nil _) (by rfl)) (by rfl)))) (@pv _ 3 _ _ (by rfl) (Or.inl rfl) (by decide) (by decide)) (fun _ _ => rfl)) (@pa_nil _) (by rfl)) (by rfl) (by rfl) (by rfl) (by rfl) (by rfl)) (by rfl)))) (by intro _; rfl)) (@pss_one _ _ _ (@ps_ret _ _ _ _ (@pv _ 4 _ _ (by rfl) (Or.inl rfl) (by decide) (by decide)))))))), ?_⟩
  have c0 := hL.ge
  refine ⟨_, rfl, _, rfl, p, c, rfl, hL, by omega, fun mv c' H1 m0 m1 L1 a1 a2 B1 => ⟨_, _, rfl, _, _, rfl, ?_⟩⟩
  obtain ⟨many, hmany, hm0, hm1⟩ : ∃ many : Int, (if (if mv < 6 then mv else (6 : Int)) > 1 then (if mv < 6 then mv else (6 : Int)) else 1) = many ∧ 1 ≤ many ∧ many ≤ 6 := ⟨_, rfl, by split <;> split at * <;> omega, by split <;> split at * <;> omega⟩
  simp only [hmany]
  refine ⟨_, rfl, p, c', _, rfl, L1, by omega, by decide, by decide, fun wy H2 w0 w1 L2 B2 => ⟨(by show 0 ≤ sizeLine; decide), fun r hr0 => ?_⟩⟩
  have npr : p ≠ r := by obtain ⟨o, ho⟩ := L2.here; exact ne_of_none ho hr0
  have B02 := B1.trans B2
  have hrn : H r = none := free_of B02 npr hr0
  refine ⟨_, rfl, _, rfl, by omega, by omega, ?_⟩
  refine for_range (fun i σ H3 => ∃ (ns : List Int) (v5 v6 : Option V) (c3 : Int), σ = [some (.ref p), some (.int 6), some (.int many), some (.int wy), some (.ref r), v5, v6] ∧ H3 r = some (.lst (ns.map V.int)) ∧ ns.length = i ∧ (∀ v ∈ ns, 0 ≤ v ∧ v ≤ 1000000000) ∧ Left H3 p c3 ∧ c' + 1 ≤ c3 ∧ c3 ≤ c' + 1 + 5 * i ∧ (∀ b o, H b = some o → b ≠ p → H3 b = some o))
    ⟨[], none, none, c' + 1, rfl, upd_same, rfl, (fun v hv => by cases hv), L2.new hr0, by omega, by omega, fun b o h n => same_new hr0 _ _ _ (B02 b o h n)⟩ ?_ ?_
  · rintro i σ H3 hi ⟨ns, v5, v6, c3, rfl, hr3, hn, hb, L3, b1, b2, B3⟩
    have hi12 : (i : Int) < 12 := by omega
    have ei : (0 + (i : Int)) = (i : Int) := by omega
    have hii : (0 + (i : Int)) * (0 + (i : Int)) ≤ 144 := by rw [ei]; exact Int.le_trans (Int.mul_le_mul (show (i : Int) ≤ 12 by omega) (show (i : Int) ≤ 12 by omega) (by omega) (by omega)) (by decide)
    have hi0 : 0 ≤ (0 + (i : Int)) * (0 + (i : Int)) := by rw [ei]; exact Int.mul_nonneg (by omega) (by omega)
    refine ⟨_, rfl, p, c3, _, rfl, L3, by omega, by decide, by decide, fun d1 H4 d10 d11 L4 B4 => ?_⟩
    refine ⟨_, rfl, p, c3 + 1, _, rfl, L4, by omega, by decide, by decide, fun d2 H5 d20 d21 L5 B5 => ?_⟩
    refine ⟨_, rfl, p, c3 + 1 + 1, _, rfl, L5, by omega, by decide, by decide, fun d3 H6 d30 d31 L6 B6 => ⟨_, _, rfl, rfl, .inl ⟨by omega, by omega⟩, ?_⟩⟩
    have h23a : 0 ≤ d2 * d3 := Int.mul_nonneg d20 d30
    have h23b : d2 * d3 ≤ 2 * 100 := Int.mul_le_mul (by omega) (by omega) d30 (by omega)
    refine ⟨_, rfl, _, rfl, _, _, rfl, rfl, .inl ⟨by omega, by omega⟩, _, _, rfl, rfl, (by show 4 ≤ sizeLine; decide), fun e he => ?_⟩
    have B36 := (B4.trans B5).trans B6
    have hr6 := B36 r _ hr3 npr.symm
    have nre : r ≠ e := ne_of_none hr6 he
    have npe : p ≠ e := by obtain ⟨o, ho⟩ := L6.here; exact ne_of_none ho he
    have hr7 : (upd H6 e (.lst (([d1, d2 * d3, 5, 1 + (0 + (i : Int)) * (0 + (i : Int))] : List Int).map V.int))) r = some (.lst (ns.map V.int)) := by rw [upd_ne nre]; exact hr6
    have he7 : (upd H6 e (.lst (([d1, d2 * d3, 5, 1 + (0 + (i : Int)) * (0 + (i : Int))] : List Int).map V.int))) e = some (.lst (([d1, d2 * d3, 5, 1 + (0 + (i : Int)) * (0 + (i : Int))] : List Int).map V.int)) := upd_same
    have L7 : Left (upd H6 e (.lst (([d1, d2 * d3, 5, 1 + (0 + (i : Int)) * (0 + (i : Int))] : List Int).map V.int))) p (c3 + 1 + 1 + 1) := L6.new he
    have B37 : But p H3 (upd H6 e (.lst (([d1, d2 * d3, 5, 1 + (0 + (i : Int)) * (0 + (i : Int))] : List Int).map V.int))) := B36.trans (But.same (same_new he _))
    change ∃ _, _
    have pw : CPow 10 9 := ⟨by decide, by decide, by decide⟩
    refine ⟨_, rfl, .inl ⟨rfl, _, SqL.of hr7⟩, _, rfl, _, _, rfl, rfl, pw, _, rfl, p, c3 + 1 + 1 + 1, _, rfl, L7, by omega, by decide, by decide, fun d4 H8 d40 d41 L8 B8 => ⟨_, _, rfl, rfl, ?_⟩⟩
    refine ⟨_, rfl, _, _, rfl, rfl, pw, _, _, rfl, rfl, p, c3 + 1 + 1 + 1 + 1, _, rfl, L8, by omega, by decide, by decide, fun d5 H9 d50 d51 L9 B9 => ⟨(by show 2 ≤ sizeLine; decide), fun g hg => ?_⟩⟩
    have d51' : d5 < 1000000001 := d51
    have he9 := B9 e _ (B8 e _ he7 npe.symm) npe.symm
    have hr9 := B9 r _ (B8 r _ hr7 npr.symm) npr.symm
    have neg : e ≠ g := ne_of_none he9 hg
    refine ⟨e, g, _, _, rfl, rfl, (by rw [upd_ne neg]; exact he9), upd_same, (by show 6 ≤ sizeLine; decide), fun z hz => ?_⟩
    obtain ⟨v, hv, hat⟩ := at_intM (ns := [d1, d2 * d3, 5, 1 + (0 + (i : Int)) * (0 + (i : Int)), 10 ^ 9 - d4, d5]) w0 w1
    have hv1 : 0 ≤ v ∧ v ≤ 1000000000 := by
      simp only [List.mem_cons, List.not_mem_nil, or_false] at hv
      omega
    have sg : Same H9 (upd H9 g (.lst [.int (10 ^ 9 - d4), .int d5])) := same_new hg _
    have hrz : (upd (upd H9 g (.lst [.int (10 ^ 9 - d4), .int d5])) z (.lst (([d1, d2 * d3, 5, 1 + (0 + (i : Int)) * (0 + (i : Int)), 10 ^ 9 - d4, d5] : List Int).map V.int))) r = some (.lst (ns.map V.int)) := same_new hz _ _ _ (sg _ _ hr9)
    have Lz : Left (upd (upd H9 g (.lst [.int (10 ^ 9 - d4), .int d5])) z (.lst (([d1, d2 * d3, 5, 1 + (0 + (i : Int)) * (0 + (i : Int)), 10 ^ 9 - d4, d5] : List Int).map V.int))) p (c3 + 1 + 1 + 1 + 1 + 1) := (L9.new hg).new hz
    have Bz : But p H3 (upd (upd H9 g (.lst [.int (10 ^ 9 - d4), .int d5])) z (.lst (([d1, d2 * d3, 5, 1 + (0 + (i : Int)) * (0 + (i : Int)), 10 ^ 9 - d4, d5] : List Int).map V.int))) := ((B37.trans B8).trans B9).trans (But.same (sg.trans (same_new hz _)))
    have hzz : (upd (upd H9 g (.lst [.int (10 ^ 9 - d4), .int d5])) z (.lst (([d1, d2 * d3, 5, 1 + (0 + (i : Int)) * (0 + (i : Int)), 10 ^ 9 - d4, d5] : List Int).map V.int))) z = some (.lst (([d1, d2 * d3, 5, 1 + (0 + (i : Int)) * (0 + (i : Int)), 10 ^ 9 - d4, d5] : List Int).map V.int)) := upd_same
    refine ⟨_, rfl, z, _, _, _, rfl, rfl, SqL.of hzz, hat, r, _, _, rfl, rfl, hrz, (by rw [List.length_map, hn]; exact small1000 (by omega)), ns ++ [v], _, _, c3 + 1 + 1 + 1 + 1 + 1, rfl, ?_, by rw [List.length_append, hn]; rfl, fun u hu => ?_, Lz.at npr, by omega, by omega, fun b o h n => ?_⟩
    · rw [upd_same, List.map_append]; rfl
    · rcases List.mem_append.mp hu with hu | hu
      · exact hb u hu
      · rw [List.mem_singleton.mp hu]; exact hv1
    · rw [upd_ne (ne_of_none h hrn)]; exact Bz b o (B3 b o h n) n
  · rintro σ H3 ⟨ns, v5, v6, c3, rfl, hr3, hn, hb, L3, b1, b2, B3⟩
    exact ⟨_, rfl, q r ns c3 H3 hrn hr3 (by omega) (by omega) hb L3 (by omega) (by omega) B3⟩
theorem flat_int {H : Hp} (i : Int) (n : Nat) : IsD H (n + 1) (.int i) (.int i) := .inl ⟨rfl, .inr (.inr (.inl ⟨i, rfl⟩))⟩
def spLaw (K : PySem.W.Frag) : Sp := fun vs H Q _ => ∃ (a : Addr) (ns : List Int), vs = [.ref a] ∧ SqL K H a (ns.map V.int) ∧ ns.length ≤ 63 ∧ ∀ H', Q (.bl true) H'
def toI (c : List Nat) : List Int := c.map fun x : Nat => (x : Int)
theorem toI_len (c : List Nat) : (toI c).length = c.length := by unfold toI; rw [List.length_map]
def IsCut (b e w : Nat) (c : List Nat) : Prop := c.head? = some b ∧ c.Pairwise (· < ·) ∧ (∀ x ∈ c, x < e) ∧ c.length ≤ w
theorem cut_start {b w : Nat} {c : List Nat} (hw : 1 ≤ w) : IsCut b (b + 1) w c ↔ c = [b] := by
  constructor
  · rintro ⟨h1, h2, h3, h4⟩
    cases c with
    | nil => cases h1
    | cons x r =>
      cases h1
      cases r with
      | nil => rfl
      | cons y r =>
        have a := List.rel_of_pairwise_cons h2 (List.mem_cons_self (a := y) (l := r))
        have b := h3 y (by simp)
        omega
  · rintro rfl
    exact ⟨rfl, List.pairwise_singleton _ _, fun x hx => by rw [List.mem_singleton.mp hx]; omega, hw⟩
theorem cut_step {b e w : Nat} {c : List Nat} (hbe : b < e) : IsCut b (e + 1) w c ↔ IsCut b e w c ∨ ∃ c0, c = c0 ++ [e] ∧ IsCut b e w c0 ∧ c0.length < w := by
  constructor
  · rintro ⟨h1, h2, h3, h4⟩
    by_cases he : e ∈ c
    · right
      have hne : c ≠ [] := fun z => by rw [z] at he; cases he
      have hsp : c = c.dropLast ++ [c.getLast hne] := (List.dropLast_concat_getLast hne).symm
      rw [hsp] at h2
      obtain ⟨p1, _, p3⟩ := List.pairwise_append.mp h2
      have hl : c.getLast hne = e := by
        have a := h3 _ (List.getLast_mem hne)
        rw [hsp] at he
        rcases List.mem_append.mp he with h | h
        · have := p3 e h (c.getLast hne) (List.mem_singleton.mpr rfl); omega
        · exact (List.mem_singleton.mp h).symm
      rw [hl] at hsp p3
      refine ⟨c.dropLast, hsp, ⟨?_, p1, fun x hx => p3 x hx e (by simp), ?_⟩, ?_⟩
      · cases hd : c.dropLast with
        | nil => rw [hd] at hsp; rw [hsp] at h1; cases h1; omega
        | cons x r => rw [hd] at hsp; rw [hsp] at h1; exact h1
      · rw [List.length_dropLast]; omega
      · rw [List.length_dropLast]
        have := List.length_pos_iff.mpr hne
        omega
    · left
      refine ⟨h1, h2, fun x hx => ?_, h4⟩
      have a := h3 x hx
      have b : x ≠ e := fun z => he (z ▸ hx)
      omega
  · rintro (⟨h1, h2, h3, h4⟩ | ⟨c0, rfl, ⟨h1, h2, h3, h4⟩, h5⟩)
    · exact ⟨h1, h2, fun x hx => by have := h3 x hx; omega, h4⟩
    · refine ⟨?_, ?_, fun x hx => ?_, by rw [List.length_append, List.length_singleton]; omega⟩
      · cases c0 with
        | nil => cases h1
        | cons x r => exact h1
      · rw [List.pairwise_append]
        exact ⟨h2, List.pairwise_singleton _ _, fun x hx y hy => by rw [List.mem_singleton.mp hy]; exact h3 x hx⟩
      · rcases List.mem_append.mp hx with h | h
        · have := h3 x h; omega
        · rw [List.mem_singleton.mp h]; omega
def sumCut (pf : Nat → Nat → Int) : List Nat → Nat → Int
  | [], _ => 0
  | [x], e => pf x e
  | x :: y :: r, e => pf x y + sumCut pf (y :: r) e
theorem zip_pairs {e : Nat} : ∀ (r : List Nat) (x : Nat), (x :: r).Pairwise (· < ·) → (∀ y ∈ x :: r, y < e) → ∀ y z, (y, z) ∈ (x :: r).zip (r ++ [e]) → x ≤ y ∧ y < z ∧ z ≤ e ∧ (r ≠ [] → y = x → z < e)
  | [], x, _, h, y, z, hm => by
    have : (y, z) = (x, e) := by simpa using hm
    cases this
    exact ⟨Nat.le_refl _, h x (by simp), Nat.le_refl _, fun h => absurd rfl h⟩
  | u :: r, x, hp, h, y, z, hm => by
    have hxu := List.rel_of_pairwise_cons hp (List.mem_cons_self (a := u) (l := r))
    rw [List.cons_append, List.zip_cons_cons] at hm
    rcases List.mem_cons.mp hm with hm | hm
    · cases hm
      have := h u (by simp)
      exact ⟨Nat.le_refl _, hxu, by omega, fun _ _ => this⟩
    · obtain ⟨a, b, c, d⟩ := zip_pairs r u (List.Pairwise.of_cons hp) (fun w hw => h w (List.mem_cons_of_mem _ hw)) y z hm
      exact ⟨by omega, b, c, fun _ e' => by omega⟩
def Rd (H : Hp) : List Addr → List (List Int) → Prop
  | [], [] => True
  | l :: ls, d :: ds => H l = some (.lst (d.map V.int)) ∧ Rd H ls ds
  | _, _ => False
theorem Rd.len {H : Hp} : ∀ {ls : List Addr} {ds : List (List Int)}, Rd H ls ds → ls.length = ds.length
  | [], [], _ => rfl
  | [], _ :: _, h => h.elim
  | _ :: _, [], h => h.elim
  | _ :: ls, _ :: ds, h => by rw [List.length_cons, List.length_cons, Rd.len h.2]
theorem Rd.mono {H H' : Hp} : ∀ {ls : List Addr} {ds : List (List Int)}, (∀ l ∈ ls, ∀ o, H l = some o → H' l = some o) → Rd H ls ds → Rd H' ls ds
  | [], [], _, _ => trivial
  | [], _ :: _, _, h => h.elim
  | _ :: _, [], _, h => h.elim
  | l :: ls, _ :: ds, k, h => ⟨k l (by simp) _ h.1, Rd.mono (fun x hx => k x (List.mem_cons_of_mem _ hx)) h.2⟩
theorem Rd.app {H : Hp} : ∀ {ls : List Addr} {ds : List (List Int)} {ms : List Addr} {es : List (List Int)}, Rd H ls ds → Rd H ms es → Rd H (ls ++ ms) (ds ++ es)
  | [], [], _, _, _, h => h
  | [], _ :: _, _, _, h, _ => h.elim
  | _ :: _, [], _, _, h, _ => h.elim
  | _ :: ls, _ :: ds, _, _, h, g => ⟨h.1, Rd.app h.2 g⟩
theorem Rd.at {H : Hp} : ∀ {ls : List Addr} {ds : List (List Int)} {i : Nat} {l : Addr}, Rd H ls ds → ls[i]? = some l → ∃ d, ds[i]? = some d ∧ H l = some (.lst (d.map V.int))
  | [], _, i, l, _, h => by simp at h
  | _ :: _, [], _, _, h, _ => h.elim
  | l :: ls, d :: ds, 0, x, h, e => ⟨d, rfl, by simp at e; subst e; exact h.1⟩
  | l :: ls, d :: ds, i + 1, x, h, e => by simpa using Rd.at (i := i) h.2 (by simpa using e)
theorem cutV_tail (xs : List V) : cutV xs (some 1) none = xs.tail := by
  unfold cutV HT.sIx
  simp only []
  rw [if_neg (by omega)]
  cases xs with
  | nil => rfl
  | cons x r =>
    have e : min ((1 : Int).toNat) (x :: r).length = 1 := by rw [List.length_cons]; show min 1 (r.length + 1) = 1; omega
    rw [show (min (1 : Int).toNat (x :: r).length) = 1 from e]
    simp
theorem refs_len (ts : TupL) : (refs ts).length = ts.length := by unfold refs; rw [List.length_map]
theorem cutV_to (xs : List V) (d : Nat) : cutV xs none (some (d : Int)) = xs.take d := by
  unfold cutV
  rw [HT.sIx_nat, HT.sIx_none, List.drop_zero, Nat.sub_zero]
  by_cases h : d ≤ xs.length
  · rw [Nat.min_eq_left h]
  · rw [Nat.min_eq_right (by omega), List.take_of_length_le (Nat.le_refl _), List.take_of_length_le (by omega)]
theorem cutV_fr (xs : List V) (d : Nat) : cutV xs (some (d : Int)) none = xs.drop d := by
  unfold cutV
  rw [HT.sIx_nat, HT.sIx_none, List.take_of_length_le (by rw [List.length_drop]; omega)]
  by_cases h : d ≤ xs.length
  · rw [Nat.min_eq_left h]
  · rw [Nat.min_eq_right (by omega), List.drop_eq_nil_of_le (Nat.le_refl _), List.drop_eq_nil_of_le (by omega)]
theorem lex_int {x y : Int} {r s : List Key} (h : lexB (.inl x :: r) (.inl y :: s) = false) : y ≤ x := by
  rw [lexB_cons] at h
  by_cases e : (Sum.inl x : Key) = .inl y
  · injection e with e; omega
  · rw [if_neg e] at h
    have : ¬ x < y := of_decide_eq_false h
    omega
def Kb (b e m : Nat) : List Key := [.inl (b : Int), .inl (e : Int), .inl (m : Int)]
theorem Kb_inj {b e m b' e' m' : Nat} (h : Kb b e m = Kb b' e' m') : b = b' ∧ e = e' ∧ m = m' := by
  unfold Kb at h
  injection h with h1 h2
  injection h2 with h2 h3
  injection h3 with h3 _
  injection h1 with h1
  injection h2 with h2
  injection h3 with h3
  omega
def Cell (H : Hp) (v : V) (p : Int) (ts : List PT) : Prop := ∃ (a t : Addr) (xs : List V), v = .ref a ∧ H a = some (.tup [.int p, .ref t]) ∧ H t = some (.tup xs) ∧ TVs H xs ts
theorem Cell.mono {H H' : Hp} {v : V} {p : Int} {ts : List PT} (h : Cell H v p ts) (s : ∀ a xs, H a = some (.tup xs) → H' a = some (.tup xs)) : Cell H' v p ts := by
  obtain ⟨a, t, xs, e, h1, h2, h3⟩ := h
  exact ⟨a, t, xs, e, s _ _ h1, s _ _ h2, h3.mono s⟩
def Has (ns : List Int) (w : Nat) (H : Hp) (kvs : List (List Key × V)) (b e : Nat) : Prop := ∀ m, 1 ≤ m → m < w → ∃ v p ts, lookK kvs (Kb b e m) = some v ∧ Cell H v p ts ∧ Gr ns w b e m p ts
theorem Has.mono {ns : List Int} {w : Nat} {H H' : Hp} {kvs : List (List Key × V)} {b e : Nat} (h : Has ns w H kvs b e) (s : ∀ a xs, H a = some (.tup xs) → H' a = some (.tup xs)) : Has ns w H' kvs b e := fun m h1 h2 => by
  obtain ⟨v, p, ts, a, c, g⟩ := h m h1 h2
  exact ⟨v, p, ts, a, c.mono s, g⟩
def spCut (ns : List Int) (wy : Nat) : Sp := fun vs H Q _ => ∃ (d : Addr) (kvs : List (List Key × V)) (b e m : Nat), vs = [.ref d, .int b, .int e, .int m] ∧ H d = some (.dT kvs) ∧ b + 1 < e ∧ e ≤ 12 ∧ 2 ≤ m ∧ m ≤ wy ∧ (∀ k, b < k → k < e → Has ns wy H kvs b k ∧ Has ns wy H kvs k e) ∧
  ∀ (r : Addr) (p : Int) (ts : List PT) (H' : Hp), Cell H' (.ref r) p ts → Gc ns wy b e m p ts → Same H H' → Q (.ref r) H'
def PS (ns : List Int) (wy b e m k : Nat) (s : Int) : Prop := ∃ q1 q2 u1 u2, Gr ns wy b k 1 q1 u1 ∧ Gr ns wy k e (m - 1) q2 u2 ∧ s = q1 + q2
theorem ok_cut (T : Tops K mg) (ns : List Int) (wy : Nat) : Df P w K mg base 1 "least_cut" ["groves", "begin", "end", "most"] (spCut ns wy) := by
  refine T.t_least_cut.df sc_least_cut (fun vs H Q E h => ?_) (fun cdv f A outer s H vs Q E hr h => ?_)
  · obtain ⟨d, kvs, b, e, m, rfl, _⟩ := h
    rfl
  obtain ⟨d, kvs, b, e, m, rfl, hd, hbe, he12, hm2, hmw, hall, q⟩ := h
  refine ⟨_, (@pss_cons _ _ _ _ _ (@ps_asg _ _ _ _ _ _ (@pe_callB _ _ _ _ _ _ _ _ _ (minT K hr) (by rfl) T.b.n_min boot_min (@pa_cons _ _ _ _ _ (@pe_comp _ _ _ _ _ _ _ _ _ _ _ _ _ _ cs_2 rfl rfl rfl (@pi_range2 _ _ _ _ _ _ _ rfl T.b.n_range (@pa_cons _ _ _ _ _ (@pe_op _ _ _ _ _ _ _ _ op_add (@pv _ 1 _ _ (by rfl) (Or.inr (Or.inl rfl)) (by decide) (by decide)) (@pe_int _ _ _ _)) (@pa_cons _ _ _ _ _ (@pv _ 2 _ _ (by rfl) (Or.inr (Or.inl rfl)) (by decide) (by decide)) (@pa_nil _) (by rfl)) (by rfl)) (by rfl) (by rfl)) (fun _ _ _ _ => (@cg _ _ _ _ _ _ _ _ _ _ _ 6 cs_2 rfl (by decide +kernel) (by rfl))) (fun _ _ _ _ => (@pts_nil _)) (fun _ _ _ _ => (@pe_tup _ _ _ _ _ (@pa_cons _ _ _ _ _ (@pe_op _ _ _ _ _ _ _ _ op_add (@pe_ix _ _ _ _ _ _ _ (ixT K) (@pe_ix _ _ _ _ _ _ _ (ixD hr) (@cv _ _ _ _ _ _ _ _ _ _ _ 0 cs_2 rfl (by decide +kernel) (by rfl) (by decide) (by decide)) (@pe_tup _ _ _ _ _ (@pa_cons _ _ _ _ _ (@cv _ _ _ _ _ _ _ _ _ _ _ 1 cs_2 rfl (by decide +kernel) (by rfl) (by decide) (by decide)) (@pa_cons _ _ _ _ _ (@cw _ _ _ _ _ _ _ _ _ _ _ 6 cs_2 rfl (by decide +kernel) (by rfl) (by decide) (by decide)) (@pa_cons _ _ _ _ _ (@pe_int _ _ _ _) (@pa_nil _) (by rfl)) (by rfl)) (by rfl))) (fun _ _ => rfl)) (@pe_int _ _ _ _) (fun _ _ => rfl)) (@pe_ix _ _ _ _ _ _ _ (ixT K) (@pe_ix _ _ _ _ _ _ _ (ixD hr) (@cv _ _ _ _ _ _ _ _ _ _ _ 0 cs_2 rfl (by decide +kernel) (by rfl) (by decide) (by decide)) (@pe_tup _ _ _ _ _ (@pa_cons _ _ _ _ _ (@cw _ _ _ _ _ _ _ _ _ _ _ 6 cs_2 rfl (by decide +kernel) (by rfl) (by decide) (by decide)) (@pa_cons _ _ _ _ _ (@cv _ _ _ _ _ _ _ _ _ _ _ 2 cs_2 rfl (by decide +kernel) (by rfl) (by decide) (by decide)) (@pa_cons _ _ _ _ _ (@pe_op _ _ _ _ _ _ _ _ op_sub (@cv _ _ _ _ _ _ _ _ _ _ _ 3 cs_2 rfl (by decide +kernel) (by rfl) (by decide) (by decide)) (@pe_int _ _ _ _)) (@pa_nil _) (by rfl)) (by rfl)) (by rfl))) (fun _ _ => rfl)) (@pe_int _ _ _ _) (fun _ _ => rfl))) (@pa_cons _ _ _ _ _ (@cw _ _ _ _ _ _ _ _ _ _ _ 6 cs_2 rfl (by decide +kernel) (by rfl) (by decide) (by decide)) (@pa_nil _) (by rfl)) (by rfl)))) (by intro _; rfl)) (@pa_nil _) (by rfl)) (by decide) (by decide) (by rfl) (by rfl)) (@gT _ K _ _ _ 2 _ (@pgs_cons _ _ _ _ _ (@pg_name _ _ 4 _ sc_least_cut.nd rfl (Or.inl rfl) (by first | exact .inl rfl | exact .inr rfl)) (@pgs_cons _ _ _ _ _ (@pg_name _ _ 5 _ sc_least_cut.nd rfl (Or.inl rfl) (by first | exact .inl rfl | exact .inr rfl)) (@pgs_nil _) (by rfl)) (by rfl)) (by rfl) (by rfl) (by rfl) (by rfl)) (by rfl) (by rfl) (by rfl)) (@pss_one _ _ _ (@ps_ret _ _ _ _ (@pe_tup _ _ _ _ _ (@pa_cons _ _ _ _ _ (@pv _ 4 _ _ (by rfl) (Or.inl rfl) (by decide) (by decide)) (@pa_cons _ _ _ _ _ (@pe_op _ _ _ _ _ _ _ _ op_catT (@pe_ix _ _ _ _ _ _ _ (ixT K) (@pe_ix _ _ _ _ _ _ _ (ixD hr) (@pv _ 0 _ _ (by rfl) (Or.inr (Or.inl rfl)) (by decide) (by decide)) (@pe_tup _ _ _ _ _ (@pa_cons _ _ _ _ _ (@pv _ 1 _ _ (by rfl) (Or.inr (Or.inl rfl)) (by decide) (by decide)) (@pa_cons _ _ _ _ _ (@pv _ 5 _ _ (by rfl) (Or.inl rfl) (by decide) (by decide)) (@pa_cons _ _ _ _ _ (@pe_int _ _ _ _) (@pa_nil _) (by rfl)) (by rfl)) (by rfl))) (fun _ _ => rfl)) (@pe_int _ _ _ _) (fun _ _ => rfl)) (@pe_ix _ _ _ _ _ _ _ (ixT K) (@pe_ix _ _ _ _ _ _ _ (ixD hr) (@pv _ 0 _ _ (by rfl) (Or.inr (Or.inl rfl)) (by decide) (by decide)) (@pe_tup _ _ _ _ _ (@pa_cons _ _ _ _ _ (@pv _ 5 _ _ (by rfl) (Or.inl rfl) (by decide) (by decide)) (@pa_cons _ _ _ _ _ (@pv _ 2 _ _ (by rfl) (Or.inr (Or.inl rfl)) (by decide) (by decide)) (@pa_cons _ _ _ _ _ (@pe_op _ _ _ _ _ _ _ _ op_sub (@pv _ 3 _ _ (by rfl) (Or.inr (Or.inl rfl)) (by decide) (by decide)) (@pe_int _ _ _ _)) (@pa_nil _) (by rfl)) (by rfl)) (by rfl))) (fun _ _ => rfl)) (@pe_int _ _ _ _) (fun _ _ => rfl))) (@pa_nil _) (by rfl)) (by rfl)))))), ?_⟩
  refine ⟨_, rfl, _, _, rfl, rfl, _, rfl, _, _, rfl, ⟨by omega, by omega, by omega, by omega⟩, fun D hD => ?_⟩
  rw [show ((e : Int) - ((b : Int) + 1)).toNat = e - (b + 1) by omega]
  refine comp_range (fun i zs σ H2 => (∃ v : Option V, σ = [some (.ref d), some (.int b), some (.int e), some (.int m), none, none, v]) ∧ (∃ tl : TupL, zs = refs tl ∧ AtT H2 tl ∧ tl.length = i ∧ ∀ (j : Nat) (t : Addr × List Key), tl[j]? = some t → ∃ s, t.2 = [.inl s, .inl ((b + 1 + j : Nat) : Int)] ∧ PS ns wy b e m (b + 1 + j) s) ∧ i ≤ e - (b + 1) ∧ H2 D = some (.lst zs) ∧ Same H H2) ?_ ?_ ?_
  · exact ⟨⟨none, rfl⟩, ⟨[], rfl, (fun t h => by cases h), rfl, fun j t h => by cases h⟩, Nat.zero_le _, upd_same, same_new hD _⟩
  · rintro i zs σ H2 hi ⟨⟨v, rfl⟩, ⟨tl, rfl, hat, htl, hk⟩, hi', hD2, s2⟩
    rw [show ((b : Int) + 1 + (i : Int)) = ((b + 1 + i : Nat) : Int) by omega]
    obtain ⟨A1, A2⟩ := hall (b + 1 + i) (by omega) (by omega)
    obtain ⟨v1, p1, t1, l1, ⟨a1, y1, x1, rfl, ha1, hy1, tv1⟩, g1⟩ := A1 1 (by omega) (by omega)
    obtain ⟨v2, p2, t2, l2, ⟨a2, y2, x2, rfl, ha2, hy2, tv2⟩, g2⟩ := A2 (m - 1) (by omega) (by omega)
    refine ⟨_, rfl, _, rfl, _, rfl, (by show 3 ≤ sizeLine; decide), fun k1 hk1 => ?_⟩
    have s3 := s2.trans (same_new hk1 (.tup ((Kb b (b + 1 + i) 1).map kV)))
    have hD3 := same_new hk1 (.tup ((Kb b (b + 1 + i) 1).map kV)) _ _ hD2
    have hat3 := AtT.mono hat (same_new hk1 (.tup ((Kb b (b + 1 + i) 1).map kV)))
    have f3 : (upd H2 k1 (.tup ((Kb b (b + 1 + i) 1).map kV))) k1 = some (.tup ((Kb b (b + 1 + i) 1).map kV)) := upd_same
    change rIxD _ _ (upd H2 k1 (.tup ((Kb b (b + 1 + i) 1).map kV))) _
    generalize upd H2 k1 (.tup ((Kb b (b + 1 + i) 1).map kV)) = H3 at s3 hD3 hat3 f3 ⊢
    refine ⟨d, kvs, k1, Kb b (b + 1 + i) 1, _, rfl, rfl, s3 _ _ hd, f3, l1, a1, _, _, _, rfl, rfl, SqT.of (s3 _ _ ha1), rfl, ?_⟩
    refine ⟨_, rfl, _, rfl, _, rfl, _, rfl, _, _, rfl, rfl, (by show 3 ≤ sizeLine; decide), fun k2 hk2 => ?_⟩
    have s4 := s3.trans (same_new hk2 (.tup ((Kb (b + 1 + i) e (m - 1)).map kV)))
    have hD4 := same_new hk2 (.tup ((Kb (b + 1 + i) e (m - 1)).map kV)) _ _ hD3
    have hat4 := AtT.mono hat3 (same_new hk2 (.tup ((Kb (b + 1 + i) e (m - 1)).map kV)))
    have f4 : (upd H3 k2 (.tup ((Kb (b + 1 + i) e (m - 1)).map kV))) k2 = some (.tup ((Kb (b + 1 + i) e (m - 1)).map kV)) := upd_same
    change rIxD _ _ (upd H3 k2 (.tup [V.int ((b + 1 + i : Nat) : Int), V.int (e : Int), V.int ((m : Int) - 1)])) _
    rw [show ((m : Int) - 1) = ((m - 1 : Nat) : Int) by omega]
    change rIxD _ _ (upd H3 k2 (.tup ((Kb (b + 1 + i) e (m - 1)).map kV))) _
    generalize upd H3 k2 (.tup ((Kb (b + 1 + i) e (m - 1)).map kV)) = H4 at s4 hD4 hat4 f4 ⊢
    refine ⟨d, kvs, k2, Kb (b + 1 + i) e (m - 1), _, rfl, rfl, s4 _ _ hd, f4, l2, a2, _, _, _, rfl, rfl, SqT.of (s4 _ _ ha2), rfl, _, _, rfl, rfl, _, rfl, (by show 2 ≤ sizeLine; decide), fun n hn => ?_⟩
    have sn := same_new hn (.tup [.int (p1 + p2), .int ((b + 1 + i : Nat) : Int)])
    have hD5 := sn _ _ hD4
    have nDn : D ≠ n := ne_of_none hD4 hn
    refine ⟨hD5, (by rw [refs_len, htl]; exact small1000 (by omega)), ⟨_, rfl⟩, ⟨tl ++ [(n, [.inl (p1 + p2), .inl ((b + 1 + i : Nat) : Int)])], by unfold refs; rw [List.map_append]; rfl, fun t ht => ?_, by rw [List.length_append, List.length_singleton]; omega, fun j t hj => ?_⟩, by omega, upd_same, fun b' o hb => ?_⟩
    · rcases List.mem_append.mp ht with ht | ht
      · exact tup_keep hD5 _ _ _ (sn _ _ (hat4 t ht))
      · rw [List.mem_singleton.mp ht, upd_ne nDn.symm]; exact upd_same
    · by_cases hjl : j < tl.length
      · rw [List.getElem?_append_left hjl] at hj
        exact hk j t hj
      · have hj2 := (List.getElem?_eq_some_iff.mp hj).1
        rw [List.length_append, List.length_singleton] at hj2
        have ej : j = i := by omega
        subst ej
        rw [List.getElem?_append_right (by omega), htl, Nat.sub_self] at hj
        cases hj
        exact ⟨p1 + p2, rfl, p1, p2, t1, t2, g1, g2, rfl⟩
    · rw [upd_ne (ne_of_none hb hD)]; exact sn _ _ (s4 b' o hb)
  rintro zs σ H2 ⟨⟨v, rfl⟩, ⟨tl, rfl, hat, htl, hk⟩, _, hD2, s2⟩
  have hsh : ∀ t ∈ tl, shape t.2 = [true, true] := fun t ht => by
    obtain ⟨j, hj⟩ := List.mem_iff_getElem?.mp ht
    obtain ⟨s, e1, _⟩ := hk j t hj
    rw [e1]; rfl
  refine ⟨D, tl, [true, true], rfl, SqL.of hD2, hat, (fun z => by rw [z] at htl; simp at htl; omega), hsh, fun t ht hmin => ?_⟩
  obtain ⟨j, hj⟩ := List.mem_iff_getElem?.mp ht
  have hjl := (List.getElem?_eq_some_iff.mp hj).1
  obtain ⟨sm, et, q1, q2, u1, u2, g1, g2, es⟩ := hk j t hj
  have htt := hat t ht
  rw [et] at htt
  refine ⟨t.1, _, rfl, SqT.of htt, rfl, _, _, rfl, _, _, rfl, rfl, ?_⟩
  have hmid1 : b < b + 1 + j := by omega
  have hmid2 : b + 1 + j < e := by omega
  obtain ⟨A1, A2⟩ := hall (b + 1 + j) hmid1 hmid2
  obtain ⟨v1, p1, t1, l1, ⟨a1, y1, x1, rfl, ha1, hy1, tv1⟩, g1'⟩ := A1 1 (by omega) (by omega)
  obtain ⟨v2, p2, t2, l2, ⟨a2, y2, x2, rfl, ha2, hy2, tv2⟩, g2'⟩ := A2 (m - 1) (by omega) (by omega)
  have e1 := gr_alone g1 g1'
  have e2 := gr_alone g2 g2'
  have hcut : Gc ns wy b e m (p1 + p2) (t1 ++ t2) := by
    refine gr_cut hm2 hmid1 hmid2 g1' g2' (fun k r1 r2 w1 w2 k1 k2 f1 f2 => ?_) (fun k k1 k2 => ?_)
    · have hkl : k - (b + 1) < tl.length := by omega
      obtain ⟨s', e3, r1', r2', w1', w2', f1', f2', es'⟩ := hk (k - (b + 1)) _ (List.getElem?_eq_getElem hkl)
      have hm' := hmin _ (List.getElem_mem hkl)
      rw [e3, et] at hm'
      have := lex_int hm'
      rw [show b + 1 + (k - (b + 1)) = k by omega] at f1' f2'
      have e4 := gr_alone f1 f1'
      have e5 := gr_alone f2 f2'
      omega
    · obtain ⟨B1, B2⟩ := hall k k1 k2
      obtain ⟨_, r1, w1, _, _, f1⟩ := B1 1 (by omega) (by omega)
      obtain ⟨_, r2, w2, _, _, f2⟩ := B2 (m - 1) (by omega) (by omega)
      exact ⟨r1, r2, w1, w2, f1, f2⟩
  refine ⟨_, rfl, _, rfl, _, rfl, _, rfl, (by show 3 ≤ sizeLine; decide), fun k1 hk1 => ?_⟩
  have s3 := s2.trans (same_new hk1 (.tup ((Kb b (b + 1 + j) 1).map kV)))
  have f3 : (upd H2 k1 (.tup ((Kb b (b + 1 + j) 1).map kV))) k1 = some (.tup ((Kb b (b + 1 + j) 1).map kV)) := upd_same
  change rIxD _ _ (upd H2 k1 (.tup ((Kb b (b + 1 + j) 1).map kV))) _
  generalize upd H2 k1 (.tup ((Kb b (b + 1 + j) 1).map kV)) = H3 at s3 f3 ⊢
  refine ⟨d, kvs, k1, Kb b (b + 1 + j) 1, _, rfl, rfl, s3 _ _ hd, f3, l1, a1, _, _, _, rfl, rfl, SqT.of (s3 _ _ ha1), rfl, ?_⟩
  refine ⟨_, rfl, _, rfl, _, rfl, _, rfl, _, _, rfl, rfl, (by show 3 ≤ sizeLine; decide), fun k2 hk2 => ?_⟩
  have s4 := s3.trans (same_new hk2 (.tup ((Kb (b + 1 + j) e (m - 1)).map kV)))
  have f4 : (upd H3 k2 (.tup ((Kb (b + 1 + j) e (m - 1)).map kV))) k2 = some (.tup ((Kb (b + 1 + j) e (m - 1)).map kV)) := upd_same
  change rIxD _ _ (upd H3 k2 (.tup [V.int ((b + 1 + j : Nat) : Int), V.int (e : Int), V.int ((m : Int) - 1)])) _
  rw [show ((m : Int) - 1) = ((m - 1 : Nat) : Int) by omega]
  change rIxD _ _ (upd H3 k2 (.tup ((Kb (b + 1 + j) e (m - 1)).map kV))) _
  generalize upd H3 k2 (.tup ((Kb (b + 1 + j) e (m - 1)).map kV)) = H4 at s4 f4 ⊢
  have tv1' : TVs H4 x1 t1 := tv1.mono fun a xs e => s4 _ _ e
  have tv2' : TVs H4 x2 t2 := tv2.mono fun a xs e => s4 _ _ e
  have n1 := tv1.len
  have n2 := tv2.len
  have c1 := g1'.l1
  have c2 := g2'.l1
  have c3 := g1'.lm
  have c4 := g2'.nf.len
  refine ⟨d, kvs, k2, Kb (b + 1 + j) e (m - 1), _, rfl, rfl, s4 _ _ hd, f4, l2, a2, _, _, _, rfl, rfl, SqT.of (s4 _ _ ha2), rfl, y1, y2, x1, x2, rfl, rfl, SqT.of (s4 _ _ hy1), SqT.of (s4 _ _ hy2), (fun z => by rw [z] at n1; simp at n1; omega), Nat.le_of_lt (small1000 (by omega)), (fun z => by rw [z] at n2; simp at n2; omega), fun _ tt htt' => ?_⟩
  have s5 := s4.trans (same_new htt' (.tup (x1 ++ x2)))
  have f5 : (upd H4 tt (.tup (x1 ++ x2))) tt = some (.tup (x1 ++ x2)) := upd_same
  have tv5 : TVs (upd H4 tt (.tup (x1 ++ x2))) (x1 ++ x2) (t1 ++ t2) := (tv1'.app tv2').mono fun a xs e => same_new htt' _ _ _ e
  generalize upd H4 tt (.tup (x1 ++ x2)) = H5 at s5 f5 tv5 ⊢
  refine ⟨(by show 2 ≤ sizeLine; decide), fun r hr0 => ?_⟩
  have esum : sm = p1 + p2 := by omega
  rw [esum]
  have s6 := same_new hr0 (.tup [.int (p1 + p2), .ref tt])
  exact q r (p1 + p2) (t1 ++ t2) _ ⟨r, tt, x1 ++ x2, rfl, upd_same, s6 _ _ f5, tv5.mono fun a xs e => s6 _ _ e⟩ hcut (s5.trans s6)
def spTree (K : PySem.W.Frag) (ns : List Int) (wy : Nat) : Sp := fun vs H Q _ => ∃ (d a : Addr) (kvs : List (List Key × V)) (b e : Nat), vs = [.ref d, .ref a, .int wy, .int b, .int e] ∧ H d = some (.dT kvs) ∧ SqL K H a (ns.map V.int) ∧ b < e ∧ e ≤ ns.length ∧ ns.length ≤ 12 ∧ (∀ v ∈ ns, 0 ≤ v ∧ v ≤ 1000000000) ∧ 2 ≤ wy ∧ (∀ k, b < k → k < e → Has ns wy H kvs b k ∧ Has ns wy H kvs k e) ∧
  ∀ (r : Addr) (p : Int) (ts : List PT) (H' : Hp), Cell H' (.ref r) p ts → Gr ns wy b e 1 p ts → Same H H' → Q (.ref r) H'
theorem ok_tree (T : Tops K mg) (ns : List Int) (wy : Nat) (f_least_cut : Df P w K mg base 1 "least_cut" ["groves", "begin", "end", "most"] (spCut ns wy)) : Df P w K mg base 2 "least_tree" ["groves", "sizes", "ways", "begin", "end"] (spTree K ns wy) := by
  refine T.t_least_tree.df sc_least_tree (fun vs H Q E h => ?_) (fun cdv f A outer s H vs Q E hr h => ?_)
  · obtain ⟨d, a, kvs, b, e, rfl, _⟩ := h
    rfl
  obtain ⟨d, a, kvs, b, e, rfl, hd, hS, hbe, hen, hn12, hns, w2, hall, q⟩ := h
  refine ⟨_, (@pss_cons _ _ _ _ _ (@ps_if _ _ _ _ _ _ _ _ (@pt_cmpR _ _ _ _ _ _ _ _ op_eq (@pe_op _ _ _ _ _ _ _ _ op_sub (@pv _ 4 _ _ (by rfl) (Or.inl rfl) (by decide) (by decide)) (@pv _ 3 _ _ (by rfl) (Or.inl rfl) (by decide) (by decide))) (@pe_int _ _ _ _) (nomark _)) (@pss_one _ _ _ (@ps_ret _ _ _ _ (@pe_tup _ _ _ _ _ (@pa_cons _ _ _ _ _ (@pe_int _ _ _ _) (@pa_cons _ _ _ _ _ (@pe_tup _ _ _ _ _ (@pa_cons _ _ _ _ _ (@pv _ 3 _ _ (by rfl) (Or.inl rfl) (by decide) (by decide)) (@pa_nil _) (by rfl))) (@pa_nil _) (by rfl)) (by rfl))))) (@pss_nil _)) (@pss_cons _ _ _ _ _ (@ps_asg _ _ _ _ _ _ (@pe_df _ _ _ _ _ _ _ _ _ _ _ f_least_cut hr (@pa_cons _ _ _ _ _ (@pv _ 0 _ _ (by rfl) (Or.inl rfl) (by decide) (by decide)) (@pa_cons _ _ _ _ _ (@pv _ 3 _ _ (by rfl) (Or.inl rfl) (by decide) (by decide)) (@pa_cons _ _ _ _ _ (@pv _ 4 _ _ (by rfl) (Or.inl rfl) (by decide) (by decide)) (@pa_cons _ _ _ _ _ (@pv _ 2 _ _ (by rfl) (Or.inl rfl) (by decide) (by decide)) (@pa_nil _) (by rfl)) (by rfl)) (by rfl)) (by rfl)) (by first | decide | exact Nat.le_refl _ | omega) (by rfl) (by decide) (by rfl) (by rfl)) (@gT _ K _ _ _ 2 _ (@pgs_cons _ _ _ _ _ (@pg_name _ _ 5 _ sc_least_tree.nd rfl (Or.inl rfl) (by first | exact .inl rfl | exact .inr rfl)) (@pgs_cons _ _ _ _ _ (@pg_name _ _ 6 _ sc_least_tree.nd rfl (Or.inl rfl) (by first | exact .inl rfl | exact .inr rfl)) (@pgs_nil _) (by rfl)) (by rfl)) (by rfl) (by rfl) (by rfl) (by rfl)) (by rfl) (by rfl) (by rfl)) (@pss_one _ _ _ (@ps_ret _ _ _ _ (@pe_tup _ _ _ _ _ (@pa_cons _ _ _ _ _ (@pe_op _ _ _ _ _ _ _ _ op_add (@pv _ 5 _ _ (by rfl) (Or.inl rfl) (by decide) (by decide)) (@pe_callB _ _ _ _ _ _ _ _ _ (sumC K) (by rfl) T.b.n_sum boot_sum (@pa_cons _ _ _ _ _ (@pe_slice _ _ _ _ _ _ _ _ _ _ (slL K) (@pv _ 1 _ _ (by rfl) (Or.inl rfl) (by decide) (by decide)) (@po_some _ _ _ (@pv _ 3 _ _ (by rfl) (Or.inl rfl) (by decide) (by decide))) (@po_some _ _ _ (@pv _ 4 _ _ (by rfl) (Or.inl rfl) (by decide) (by decide)))) (@pa_nil _) (by rfl)) (by decide) (by decide) (by rfl) (by rfl))) (@pa_cons _ _ _ _ _ (@pe_tup _ _ _ _ _ (@pa_cons _ _ _ _ _ (@pv _ 6 _ _ (by rfl) (Or.inl rfl) (by decide) (by decide)) (@pa_nil _) (by rfl))) (@pa_nil _) (by rfl)) (by rfl))))))), ?_⟩
  have hnn : ∀ v ∈ ns, 0 ≤ v := fun v hv => (hns v hv).1
  refine ⟨_, rfl, _, rfl, _, _, rfl, rfl, rfl, _, rfl, ite2 (fun d0 => ?_) (fun d0 => ?_)⟩
  · have d' := V.int.inj (of_decide_eq_true d0)
    have ee : e = b + 1 := by omega
    subst ee
    refine ⟨_, rfl, (by show 1 ≤ sizeLine; decide), fun t1 ht1 => ⟨(by show 2 ≤ sizeLine; decide), fun r hr0 => ?_⟩⟩
    have s2 := same_new hr0 (.tup [.int 0, .ref t1])
    exact q r 0 [.leaf (b : Int)] _ ⟨r, t1, _, rfl, upd_same, s2 _ _ upd_same, .cons (.leaf _) .nil⟩ (gr_leaf hnn wy b 1 (Nat.le_refl 1)) ((same_new ht1 _).trans s2)
  · have hne : ¬ e = b + 1 := fun z => d0 (decide_eq_true (show V.int ((e : Int) - (b : Int)) = V.int 1 from by rw [show ((e : Int) - (b : Int)) = 1 by omega]))
    refine ⟨_, rfl, _, rfl, _, rfl, _, rfl, d, kvs, b, e, wy, rfl, hd, by omega, by omega, w2, Nat.le_refl _, hall, fun r p ts H1 hC hG s1 => ?_⟩
    obtain ⟨r', t, xs, er, h1, h2, h3⟩ := hC
    cases er
    refine ⟨r, _, rfl, SqT.of h1, rfl, _, _, rfl, _, _, rfl, rfl, ?_⟩
    refine ⟨_, rfl, _, rfl, _, rfl, _, rfl, _, rfl, _, rfl, a, _, rfl, s1.seq hS, fun sl hsl => ?_⟩
    rw [cutV_nat (ns.map V.int) b e (by rw [List.length_map]; omega) (by rw [List.length_map]; exact hen), ← List.map_drop, ← List.map_take]
    have s2 := same_new hsl (.lst (((ns.drop b).take (e - b)).map V.int))
    have f2 : (upd H1 sl (.lst (((ns.drop b).take (e - b)).map V.int))) sl = some (.lst (((ns.drop b).take (e - b)).map V.int)) := upd_same
    generalize upd H1 sl (.lst (((ns.drop b).take (e - b)).map V.int)) = H2 at s2 f2 ⊢
    refine ⟨sl, (ns.drop b).take (e - b), rfl, SqL.of f2, by rw [List.length_take, List.length_drop]; omega, fun v hv => ?_, _, _, rfl, rfl, _, rfl, (by show 1 ≤ sizeLine; decide), fun t2 ht2 => ⟨(by show 2 ≤ sizeLine; decide), fun r2 hr2 => ?_⟩⟩
    · have := hns v (List.mem_of_mem_drop (List.mem_of_mem_take hv))
      omega
    have s3 := same_new ht2 (.tup [.ref t])
    have s4 := same_new hr2 (.tup [.int (p + ((ns.drop b).take (e - b)).sum), .ref t2])
    have s14 := (s2.trans s3).trans s4
    exact q r2 (p + seg ns b e) [.node ts] _ ⟨r2, t2, _, rfl, upd_same, s4 _ _ upd_same, .cons (.node (s14 _ _ h2) (h3.mono fun a xs e => s14 _ _ e)) .nil⟩ (gr_tree hG (by omega) hen) (s1.trans s14)
def spGrove (ns : List Int) (wy : Nat) : Sp := fun vs H Q _ => ∃ (d al : Addr) (kvs : List (List Key × V)) (b e m : Nat) (p : Int) (ts : List PT), vs = [.ref d, .ref al, .int b, .int e, .int m] ∧ H d = some (.dT kvs) ∧ b < e ∧ e ≤ 12 ∧ 1 ≤ m ∧ m < wy ∧ Cell H (.ref al) p ts ∧ Gr ns wy b e 1 p ts ∧ (∀ k, b < k → k < e → Has ns wy H kvs b k ∧ Has ns wy H kvs k e) ∧
  ∀ (r : Addr) (p : Int) (ts : List PT) (H' : Hp), Cell H' (.ref r) p ts → Gr ns wy b e m p ts → Same H H' → Q (.ref r) H'
theorem ok_grove (T : Tops K mg) (ns : List Int) (wy : Nat) (f_least_cut : Df P w K mg base 1 "least_cut" ["groves", "begin", "end", "most"] (spCut ns wy)) : Df P w K mg base 2 "least_grove" ["groves", "alone", "begin", "end", "most"] (spGrove ns wy) := by
  refine T.t_least_grove.df sc_least_grove (fun vs H Q E h => ?_) (fun cdv f A outer s H vs Q E hr h => ?_)
  · obtain ⟨d, al, kvs, b, e, m, p, ts, rfl, _⟩ := h
    rfl
  obtain ⟨d, al, kvs, b, e, m, p, ts, rfl, hd, hbe, he12, m1, mw, hC, hG, hall, q⟩ := h
  refine ⟨_, (@pss_cons _ _ _ _ _ (@ps_if _ _ _ _ _ _ _ _ (@PW.pt _ _ _ (@pw_or _ _ _ _ _ _ _ (@pt_cmpR _ _ _ _ _ _ _ _ op_eq (@pe_op _ _ _ _ _ _ _ _ op_sub (@pv _ 3 _ _ (by rfl) (Or.inl rfl) (by decide) (by decide)) (@pv _ 2 _ _ (by rfl) (Or.inl rfl) (by decide) (by decide))) (@pe_int _ _ _ _) (nomark _)) (@pw_or1 _ _ _ _ (@pt_cmpR _ _ _ _ _ _ _ _ op_eq (@pv _ 4 _ _ (by rfl) (Or.inl rfl) (by decide) (by decide)) (@pe_int _ _ _ _) (nomark _))))) (@pss_one _ _ _ (@ps_ret _ _ _ _ (@pv _ 1 _ _ (by rfl) (Or.inl rfl) (by decide) (by decide)))) (@pss_nil _)) (@pss_cons _ _ _ _ _ (@ps_set _ _ 5 _ _ _ _ sc_least_grove.nd rfl (Or.inl rfl) (@pe_df _ _ _ _ _ _ _ _ _ _ _ f_least_cut hr (@pa_cons _ _ _ _ _ (@pv _ 0 _ _ (by rfl) (Or.inl rfl) (by decide) (by decide)) (@pa_cons _ _ _ _ _ (@pv _ 2 _ _ (by rfl) (Or.inl rfl) (by decide) (by decide)) (@pa_cons _ _ _ _ _ (@pv _ 3 _ _ (by rfl) (Or.inl rfl) (by decide) (by decide)) (@pa_cons _ _ _ _ _ (@pv _ 4 _ _ (by rfl) (Or.inl rfl) (by decide) (by decide)) (@pa_nil _) (by rfl)) (by rfl)) (by rfl)) (by rfl)) (by first | decide | exact Nat.le_refl _ | omega) (by rfl) (by decide) (by rfl) (by rfl)) (by rfl) (by first | exact .inl rfl | exact .inr rfl)) (@pss_one _ _ _ (@ps_ret _ _ _ _ (@pe_ifExp _ _ _ _ _ _ _ _ (@pt_cmpR _ _ _ _ _ _ _ _ op_lt (@pe_ix _ _ _ _ _ _ _ (ixT K) (@pv _ 5 _ _ (by rfl) (Or.inl rfl) (by decide) (by decide)) (@pe_int _ _ _ _) (fun _ _ => rfl)) (@pe_ix _ _ _ _ _ _ _ (ixT K) (@pv _ 1 _ _ (by rfl) (Or.inl rfl) (by decide) (by decide)) (@pe_int _ _ _ _) (fun _ _ => rfl)) (nomark _)) (@pv _ 5 _ _ (by rfl) (Or.inl rfl) (by decide) (by decide)) (@pv _ 1 _ _ (by rfl) (Or.inl rfl) (by decide) (by decide))))))), ?_⟩
  refine ⟨_, rfl, _, rfl, _, _, rfl, rfl, rfl, _, rfl, ite2 (fun d0 => iteT ⟨_, rfl, ?_⟩) (fun d0 => ⟨_, rfl, rfl, _, rfl, ite2 (fun d1 => ⟨_, rfl, ?_⟩) (fun d1 => ?_)⟩)⟩
  · have d' := V.int.inj (of_decide_eq_true d0)
    have ee : e = b + 1 := by omega
    subst ee
    exact q al p ts H hC (gr_one hG m1) (Same.refl H)
  · have d' := V.int.inj (of_decide_eq_true d1)
    have em : m = 1 := by omega
    subst em
    exact q al p ts H hC hG (Same.refl H)
  · have hne : ¬ e = b + 1 := fun z => d0 (decide_eq_true (show V.int ((e : Int) - (b : Int)) = V.int 1 from by rw [show ((e : Int) - (b : Int)) = 1 by omega]))
    have hm1 : ¬ m = 1 := fun z => d1 (decide_eq_true (by rw [z]; rfl))
    refine ⟨_, rfl, _, rfl, _, rfl, _, rfl, d, kvs, b, e, m, rfl, hd, by omega, he12, by omega, by omega, hall, fun r p2 ts2 H1 hC2 hG2 s1 => ?_⟩
    obtain ⟨g1, g2⟩ := gr_both m1 hG hG2
    obtain ⟨r', t, xs, er, h1, h2, h3⟩ := id hC2
    cases er
    obtain ⟨al', t', xs', ea, k1, k2, k3⟩ := id hC
    cases ea
    refine ⟨_, rfl, r, _, _, _, rfl, rfl, SqT.of h1, rfl, _, rfl, al, _, _, _, rfl, rfl, SqT.of (s1 _ _ k1), rfl, _, _, rfl, rfl, _, rfl, ite2 (fun d2 => ⟨_, rfl, ?_⟩) (fun d2 => ⟨_, rfl, ?_⟩)⟩
    · exact q r p2 ts2 H1 hC2 (g1 (of_decide_eq_true d2)) s1
    · exact q al p ts H1 (hC.mono fun a xs e => s1 _ _ e) (g2 fun z => d2 (decide_eq_true z)) s1
theorem dt_keep {H : Hp} {d : Addr} {kvs : List (List Key × V)} (h : H d = some (.dT kvs)) (o : HO) : ∀ a xs, H a = some (.tup xs) → (upd H d o) a = some (.tup xs) := fun a xs e => by
  rw [upd_ne (ne_of e h (fun z => nomatch z))]; exact e
structure St (ns : List Int) (wy : Nat) (H0 H : Hp) (d : Addr) (kvs : List (List Key × V)) (i j : Nat) : Prop where
  hd : H d = some (.dT kvs)
  has : ∀ b e, b < e → e ≤ ns.length → (e - b ≤ i ∨ (e - b = i + 1 ∧ b < j)) → Has ns wy H kvs b e
  only : ∀ b e m, lookK kvs (Kb b e m) ≠ none → e - b ≤ i ∨ (e - b = i + 1 ∧ b < j)
  len : kvs.length ≤ 72 * i + 6 * j
  sm : Same H0 H
  d0 : H0 d = none
def spGroves (K : PySem.W.Frag) (ns : List Int) (wy : Nat) : Sp := fun vs H Q _ => ∃ (a : Addr), vs = [.ref a, .int wy] ∧ SqL K H a (ns.map V.int) ∧ 1 ≤ ns.length ∧ ns.length ≤ 12 ∧ (∀ v ∈ ns, 0 ≤ v ∧ v ≤ 1000000000) ∧ 2 ≤ wy ∧ wy ≤ 6 ∧
  ∀ (d : Addr) (kvs : List (List Key × V)) (H' : Hp), H' d = some (.dT kvs) → (∀ b e, b < e → e ≤ ns.length → Has ns wy H' kvs b e) → Same H H' → Q (.ref d) H'
theorem ok_groves (T : Tops K mg) (ns : List Int) (wy : Nat) (f_least_tree : Df P w K mg base 2 "least_tree" ["groves", "sizes", "ways", "begin", "end"] (spTree K ns wy)) (f_least_grove : Df P w K mg base 2 "least_grove" ["groves", "alone", "begin", "end", "most"] (spGrove ns wy)) : Df P w K mg base 3 "least_groves" ["sizes", "ways"] (spGroves K ns wy) := by
  refine T.t_least_groves.df sc_least_groves (fun vs H Q E h => ?_) (fun cdv f A outer s H vs Q E hr h => ?_)
  · obtain ⟨a, rfl, _⟩ := h
    rfl
  obtain ⟨a, rfl, hS, n1, n12, hns, w2, w6, q⟩ := h
  refine ⟨_, (@pss_cons _ _ _ _ _ (@ps_set _ _ 2 _ _ _ _ sc_least_groves.nd rfl (Or.inl rfl) (@pe_newT _ _) (by rfl) (by first | exact .inl rfl | exact .inr rfl)) (@pss_cons _ _ _ _ _ (@ps_for _ _ _ _ _ _ _ _ PassesOwn.never rfl (@pi_range2 _ _ _ _ _ _ _ rfl T.b.n_range (@pa_cons _ _ _ _ _ (@pe_int _ _ _ _) (@pa_cons _ _ _ _ _ (@pe_op _ _ _ _ _ _ _ _ op_add (@pe_callB _ _ _ _ _ _ _ _ _ (lenQ K) (by rfl) T.b.n_len PySem.boot_len (@pa_cons _ _ _ _ _ (@pv _ 0 _ _ (by rfl) (Or.inl rfl) (by decide) (by decide)) (@pa_nil _) (by rfl)) (by decide) (by decide) (by rfl) (by rfl)) (@pe_int _ _ _ _)) (@pa_nil _) (by rfl)) (by rfl)) (by rfl) (by rfl)) (@pg_name _ _ 3 _ sc_least_groves.nd rfl (Or.inl rfl) (by first | exact .inl rfl | exact .inr rfl)) (@pss_one _ _ _ (@ps_for _ _ _ _ _ _ _ _ PassesOwn.never rfl (@pi_range1 _ _ _ _ _ _ rfl T.b.n_range (@pa_cons _ _ _ _ _ (@pe_op _ _ _ _ _ _ _ _ op_add (@pe_op _ _ _ _ _ _ _ _ op_sub (@pe_callB _ _ _ _ _ _ _ _ _ (lenQ K) (by rfl) T.b.n_len PySem.boot_len (@pa_cons _ _ _ _ _ (@pv _ 0 _ _ (by rfl) (Or.inl rfl) (by decide) (by decide)) (@pa_nil _) (by rfl)) (by decide) (by decide) (by rfl) (by rfl)) (@pv _ 3 _ _ (by rfl) (Or.inl rfl) (by decide) (by decide))) (@pe_int _ _ _ _)) (@pa_nil _) (by rfl)) (by rfl)) (@pg_name _ _ 4 _ sc_least_groves.nd rfl (Or.inl rfl) (by first | exact .inl rfl | exact .inr rfl)) (@pss_cons _ _ _ _ _ (@ps_set _ _ 5 _ _ _ _ sc_least_groves.nd rfl (Or.inl rfl) (@pe_op _ _ _ _ _ _ _ _ op_add (@pv _ 4 _ _ (by rfl) (Or.inl rfl) (by decide) (by decide)) (@pv _ 3 _ _ (by rfl) (Or.inl rfl) (by decide) (by decide))) (by rfl) (by first | exact .inl rfl | exact .inr rfl)) (@pss_cons _ _ _ _ _ (@ps_set _ _ 6 _ _ _ _ sc_least_groves.nd rfl (Or.inl rfl) (@pe_df _ _ _ _ _ _ _ _ _ _ _ f_least_tree hr (@pa_cons _ _ _ _ _ (@pv _ 2 _ _ (by rfl) (Or.inl rfl) (by decide) (by decide)) (@pa_cons _ _ _ _ _ (@pv _ 0 _ _ (by rfl) (Or.inl rfl) (by decide) (by decide)) (@pa_cons _ _ _ _ _ (@pv _ 1 _ _ (by rfl) (Or.inl rfl) (by decide) (by decide)) (@pa_cons _ _ _ _ _ (@pv _ 4 _ _ (by rfl) (Or.inl rfl) (by decide) (by decide)) (@pa_cons _ _ _ _ _ (@pv _ 5 _ _ (by rfl) (Or.inl rfl) (by decide) (by decide)) (@pa_nil _) (by rfl)) (by rfl)) (by rfl)) (by rfl)) (by rfl)) (by first | decide | exact Nat.le_refl _ | omega) (by rfl) (by decide) (by rfl) (by rfl)) (by rfl) (by first | exact .inl rfl | exact .inr rfl)) (@pss_one _ _ _ (@ps_for _ _ _ _ _ _ _ _ PassesOwn.never rfl (@pi_range2 _ _ _ _ _ _ _ rfl T.b.n_range (@pa_cons _ _ _ _ _ (@pe_int _ _ _ _) (@pa_cons _ _ _ _ _ (@pv _ 1 _ _ (by rfl) (Or.inl rfl) (by decide) (by decide)) (@pa_nil _) (by rfl)) (by rfl)) (by rfl) (by rfl)) (@pg_name _ _ 7 _ sc_least_groves.nd rfl (Or.inl rfl) (by first | exact .inl rfl | exact .inr rfl)) (@pss_one _ _ _ (@ps_asg _ _ _ _ _ _ (@pe_df _ _ _ _ _ _ _ _ _ _ _ f_least_grove hr (@pa_cons _ _ _ _ _ (@pv _ 2 _ _ (by rfl) (Or.inl rfl) (by decide) (by decide)) (@pa_cons _ _ _ _ _ (@pv _ 6 _ _ (by rfl) (Or.inl rfl) (by decide) (by decide)) (@pa_cons _ _ _ _ _ (@pv _ 4 _ _ (by rfl) (Or.inl rfl) (by decide) (by decide)) (@pa_cons _ _ _ _ _ (@pv _ 5 _ _ (by rfl) (Or.inl rfl) (by decide) (by decide)) (@pa_cons _ _ _ _ _ (@pv _ 7 _ _ (by rfl) (Or.inl rfl) (by decide) (by decide)) (@pa_nil _) (by rfl)) (by rfl)) (by rfl)) (by rfl)) (by rfl)) (by first | decide | exact Nat.le_refl _ | omega) (by rfl) (by decide) (by rfl) (by rfl)) (@pg_sub _ _ _ _ _ _ _ (@pv _ 2 _ _ (by rfl) (Or.inl rfl) (by decide) (by decide)) (@pe_tup _ _ _ _ _ (@pa_cons _ _ _ _ _ (@pv _ 4 _ _ (by rfl) (Or.inl rfl) (by decide) (by decide)) (@pa_cons _ _ _ _ _ (@pv _ 5 _ _ (by rfl) (Or.inl rfl) (by decide) (by decide)) (@pa_cons _ _ _ _ _ (@pv _ 7 _ _ (by rfl) (Or.inl rfl) (by decide) (by decide)) (@pa_nil _) (by rfl)) (by rfl)) (by rfl))) (setD hr) (by intro _; rfl)) (by rfl) (by rfl) (by rfl))) (by intro _; rfl))))) (by intro _; rfl))) (by intro _; rfl)) (@pss_one _ _ _ (@ps_ret _ _ _ _ (@pv _ 2 _ _ (by rfl) (Or.inl rfl) (by decide) (by decide)))))), ?_⟩
  have hl : (((ns.map V.int).length : Nat) : Int) = (ns.length : Int) := by rw [List.length_map]
  refine fun d hd0 => ?_
  have st0 : St ns wy H (upd H d (.dT [])) d [] 0 0 := ⟨upd_same, fun b e h1 h2 h3 => by omega, fun b e m h => absurd rfl h, Nat.zero_le _, same_new hd0 _, hd0⟩
  generalize upd H d (.dT []) = H1 at st0 ⊢
  refine ⟨_, rfl, a, _, rfl, .inl (st0.sm.seq hS), _, _, rfl, rfl, _, _, rfl, ⟨by omega, by omega, by omega, by omega⟩, ?_⟩
  rw [show ((((ns.map V.int).length : Nat) : Int) + 1 - 1).toNat = ns.length by omega]
  refine for_range (fun i σ H2 => ∃ (kvs : List (List Key × V)) (v3 v4 v5 v6 v7 : Option V), σ = [some (.ref a), some (.int wy), some (.ref d), v3, v4, v5, v6, v7] ∧ St ns wy H H2 d kvs i 0) ⟨[], _, _, _, _, _, rfl, st0⟩ ?_ ?_
  · rintro i σ H2 hi ⟨kvs, v3, v4, v5, v6, v7, rfl, st2⟩
    rw [show ((1 : Int) + (i : Int)) = ((1 + i : Nat) : Int) by omega]
    refine ⟨_, rfl, a, _, rfl, .inl (st2.sm.seq hS), _, rfl, _, _, rfl, rfl, _, _, rfl, rfl, _, rfl, by omega, by omega, ?_⟩
    rw [show ((((ns.map V.int).length : Nat) : Int) - ((1 + i : Nat) : Int) + 1).toNat = ns.length - i by omega]
    refine for_range (fun j σ H3 => ∃ (kvs : List (List Key × V)) (v4 v5 v6 v7 : Option V), σ = [some (.ref a), some (.int wy), some (.ref d), some (.int ((1 + i : Nat) : Int)), v4, v5, v6, v7] ∧ St ns wy H H3 d kvs i j) ⟨kvs, _, _, _, _, rfl, st2⟩ ?_ ?_
    · rintro j σ H3 hj ⟨kvs, v4, v5, v6, v7, rfl, st3⟩
      rw [show ((0 : Int) + (j : Int)) = (j : Int) by omega]
      refine ⟨_, rfl, _, rfl, _, _, rfl, rfl, ?_⟩
      simp only [show ((j : Int) + ((1 + i : Nat) : Int)) = ((j + 1 + i : Nat) : Int) by omega]
      have fam : ∀ k, j < k → k < j + 1 + i → Has ns wy H3 kvs j k ∧ Has ns wy H3 kvs k (j + 1 + i) := fun k h1 h2 => ⟨st3.has j k h1 (by omega) (.inl (by omega)), st3.has k (j + 1 + i) h2 (by omega) (.inl (by omega))⟩
      refine ⟨_, rfl, _, rfl, _, rfl, _, rfl, _, rfl, d, a, kvs, j, j + 1 + i, rfl, st3.hd, st3.sm.seq hS, by omega, by omega, n12, hns, w2, fam, fun al p ts H4 hC hG s4 => ?_⟩
      refine ⟨_, rfl, _, _, rfl, ⟨by omega, by omega, by omega, by omega⟩, ?_⟩
      rw [show ((wy : Int) - 1).toNat = wy - 1 by omega]
      refine for_range (fun l σ H5 => ∃ (kvs : List (List Key × V)) (v7 : Option V), σ = [some (.ref a), some (.int wy), some (.ref d), some (.int ((1 + i : Nat) : Int)), some (.int (j : Int)), some (.int ((j + 1 + i : Nat) : Int)), some (.ref al), v7] ∧ H5 d = some (.dT kvs) ∧ (∀ b e, b < e → e ≤ ns.length → (e - b ≤ i ∨ (e - b = i + 1 ∧ b < j)) → Has ns wy H5 kvs b e) ∧ (∀ m, 1 ≤ m → m ≤ l → ∃ v p ts, lookK kvs (Kb j (j + 1 + i) m) = some v ∧ Cell H5 v p ts ∧ Gr ns wy j (j + 1 + i) m p ts) ∧ (∀ b e m, lookK kvs (Kb b e m) ≠ none → (e - b ≤ i ∨ (e - b = i + 1 ∧ b < j)) ∨ (b = j ∧ e = j + 1 + i ∧ m ≤ l)) ∧ kvs.length ≤ 72 * i + 6 * j + l ∧ Same H H5 ∧ Cell H5 (.ref al) p ts)
        ⟨kvs, _, rfl, s4 _ _ st3.hd, fun b e h1 h2 h3 => (st3.has b e h1 h2 h3).mono fun a xs e => s4 _ _ e, fun m h1 h2 => by omega, fun b e m h => .inl (st3.only b e m h), by have := st3.len; omega, st3.sm.trans s4, hC⟩ ?_ ?_
      · rintro l σ H5 hll ⟨kvs5, v7', rfl, hd5, has5, cur5, only5, len5, s5, hC5⟩
        rw [show ((1 : Int) + (l : Int)) = ((1 + l : Nat) : Int) by omega]
        have fam5 : ∀ k, j < k → k < j + 1 + i → Has ns wy H5 kvs5 j k ∧ Has ns wy H5 kvs5 k (j + 1 + i) := fun k h1 h2 => ⟨has5 j k h1 (by omega) (.inl (by omega)), has5 k (j + 1 + i) h2 (by omega) (.inl (by omega))⟩
        refine ⟨_, rfl, _, rfl, _, rfl, _, rfl, _, rfl, d, al, kvs5, j, j + 1 + i, 1 + l, p, ts, rfl, hd5, by omega, by omega, by omega, by omega, hC5, hG, fam5, fun r p6 ts6 H6 hC6 hG6 s6 => ?_⟩
        have hd6 := s6 _ _ hd5
        refine ⟨_, rfl, _, rfl, _, rfl, _, rfl, (by show 3 ≤ sizeLine; decide), fun k1 hk1 => ?_⟩
        have s7 := same_new hk1 (.tup ((Kb j (j + 1 + i) (1 + l)).map kV))
        have f7 : (upd H6 k1 (.tup ((Kb j (j + 1 + i) (1 + l)).map kV))) k1 = some (.tup ((Kb j (j + 1 + i) (1 + l)).map kV)) := upd_same
        change rSetDT _ _ _ (upd H6 k1 (.tup ((Kb j (j + 1 + i) (1 + l)).map kV))) _
        generalize upd H6 k1 (.tup ((Kb j (j + 1 + i) (1 + l)).map kV)) = H7 at s7 f7 ⊢
        have hd7 := s7 _ _ hd6
        have hnone : lookK kvs5 (Kb j (j + 1 + i) (1 + l)) = none := by
          cases hx : lookK kvs5 (Kb j (j + 1 + i) (1 + l)) with
          | none => rfl
          | some v =>
            rcases only5 j (j + 1 + i) (1 + l) (by rw [hx]; simp) with h | h <;> omega
        have s57 := s6.trans s7
        have keepT : ∀ a xs, H5 a = some (.tup xs) → (upd H7 d (.dT (kvs5 ++ [(Kb j (j + 1 + i) (1 + l), .ref r)]))) a = some (.tup xs) := fun a xs e => dt_keep hd7 _ _ _ (s57 _ _ e)
        have keepT6 : ∀ a xs, H6 a = some (.tup xs) → (upd H7 d (.dT (kvs5 ++ [(Kb j (j + 1 + i) (1 + l), .ref r)]))) a = some (.tup xs) := fun a xs e => dt_keep hd7 _ _ _ (s7 _ _ e)
        have old : ∀ k v, lookK kvs5 k = some v → lookK (kvs5 ++ [(Kb j (j + 1 + i) (1 + l), V.ref r)]) k = some v := fun k v h => by rw [lookK_app, h]; rfl
        refine ⟨d, kvs5, k1, Kb j (j + 1 + i) (1 + l), rfl, rfl, hd7, f7, hnone, small1000 (by omega), ?_⟩
        refine ⟨_, _, rfl, upd_same, fun b e h1 h2 h3 m m1 m2 => ?_, fun m m1 m2 => ?_, fun b e m h => ?_, by rw [List.length_append, List.length_singleton]; omega, fun b o hb => ?_, hC5.mono keepT⟩
        · obtain ⟨v, p', ts', x1, x2, x3⟩ := has5 b e h1 h2 h3 m m1 m2
          exact ⟨v, p', ts', old _ _ x1, x2.mono keepT, x3⟩
        · by_cases hm : m ≤ l
          · obtain ⟨v, p', ts', x1, x2, x3⟩ := cur5 m m1 hm
            exact ⟨v, p', ts', old _ _ x1, x2.mono keepT, x3⟩
          · have em : m = 1 + l := by omega
            subst em
            exact ⟨.ref r, p6, ts6, by rw [lookK_app, hnone, if_pos rfl]; rfl, hC6.mono keepT6, hG6⟩
        · rw [lookK_app] at h
          by_cases hk : Kb j (j + 1 + i) (1 + l) = Kb b e m
          · obtain ⟨x1, x2, x3⟩ := Kb_inj hk
            exact .inr ⟨x1.symm, x2.symm, by omega⟩
          · rw [if_neg hk] at h
            rcases only5 b e m (fun z => h (by rw [z]; rfl)) with h | h
            · exact .inl h
            · exact .inr ⟨h.1, h.2.1, by omega⟩
        · rw [upd_ne (ne_of_none hb st2.d0)]; exact s57 _ _ (s5 b o hb)
      · rintro σ H5 ⟨kvs5, v7', rfl, hd5, has5, cur5, only5, len5, s5, hC5⟩
        refine ⟨kvs5, _, _, _, _, rfl, hd5, fun b e h1 h2 h3 => ?_, fun b e m h => ?_, by omega, s5, st2.d0⟩
        · by_cases hb : e - b ≤ i ∨ (e - b = i + 1 ∧ b < j)
          · exact has5 b e h1 h2 hb
          · have eb : b = j := by omega
            have ee : e = j + 1 + i := by omega
            subst eb ee
            exact fun m m1 m2 => cur5 m m1 (by omega)
        · rcases only5 b e m h with h | h
          · rcases h with h | h
            · exact .inl h
            · exact .inr ⟨h.1, by omega⟩
          · exact .inr ⟨by omega, by omega⟩
    · rintro σ H3 ⟨kvs, v4, v5, v6, v7, rfl, st3⟩
      refine ⟨kvs, _, _, _, _, _, rfl, st3.hd, fun b e h1 h2 h3 => st3.has b e h1 h2 (by omega), fun b e m h => ?_, by have := st3.len; omega, st3.sm, st3.d0⟩
      have := st3.only b e m h
      omega
  · rintro σ H2 ⟨kvs, v3, v4, v5, v6, v7, rfl, st2⟩
    exact ⟨_, rfl, q d kvs H2 st2.hd (fun b e h1 h2 => st2.has b e h1 h2 (.inl (by omega))) st2.sm⟩
def spNear (K : PySem.W.Frag) : Sp := fun vs H Q _ => ∃ (a : Addr) (ns : List Int) (wy : Nat), vs = [.ref a, .int wy] ∧ SqL K H a (ns.map V.int) ∧ 1 ≤ ns.length ∧ ns.length ≤ 12 ∧ (∀ v ∈ ns, 0 ≤ v ∧ v ≤ 1000000000) ∧ 2 ≤ wy ∧ wy ≤ 6 ∧
  ∀ (r : Addr) (x : V) (p : Int) (t : PT) (H' : Hp), H r = none → H' r = some (.tup [.int p, x]) → TV H' x t → Gr ns wy 0 ns.length 1 p [t] → Same H H' → Q (.ref r) H'
theorem ok_near (T : Tops K mg) (f_least_groves' : ∀ ns wy, Df P w K mg base 3 "least_groves" ["sizes", "ways"] (spGroves K ns wy)) : Df P w K mg base 4 "near_plan" ["sizes", "ways"] (spNear K) := by
  refine T.t_near_plan.df sc_near_plan (fun vs H Q E h => ?_) (fun cdv f A outer s H vs Q E hr h => ?_)
  · obtain ⟨a, ns, wy, rfl, _⟩ := h
    rfl
  obtain ⟨a, ns, wy, rfl, hS, n1, n12, hns, w2, w6, q⟩ := h
  have f_least_groves := f_least_groves' ns wy
  refine ⟨_, (@pss_cons _ _ _ _ _ (@ps_asg _ _ _ _ _ _ (@pe_ix _ _ _ _ _ _ _ (ixD hr) (@pe_df _ _ _ _ _ _ _ _ _ _ _ f_least_groves hr (@pa_cons _ _ _ _ _ (@pv _ 0 _ _ (by rfl) (Or.inl rfl) (by decide) (by decide)) (@pa_cons _ _ _ _ _ (@pv _ 1 _ _ (by rfl) (Or.inl rfl) (by decide) (by decide)) (@pa_nil _) (by rfl)) (by rfl)) (by first | decide | exact Nat.le_refl _ | omega) (by rfl) (by decide) (by rfl) (by rfl)) (@pe_tup _ _ _ _ _ (@pa_cons _ _ _ _ _ (@pe_int _ _ _ _) (@pa_cons _ _ _ _ _ (@pe_callB _ _ _ _ _ _ _ _ _ (lenQ K) (by rfl) T.b.n_len PySem.boot_len (@pa_cons _ _ _ _ _ (@pv _ 0 _ _ (by rfl) (Or.inl rfl) (by decide) (by decide)) (@pa_nil _) (by rfl)) (by decide) (by decide) (by rfl) (by rfl)) (@pa_cons _ _ _ _ _ (@pe_int _ _ _ _) (@pa_nil _) (by rfl)) (by rfl)) (by rfl))) (fun _ _ => rfl)) (@gT _ K _ _ _ 2 _ (@pgs_cons _ _ _ _ _ (@pg_name _ _ 2 _ sc_near_plan.nd rfl (Or.inl rfl) (by first | exact .inl rfl | exact .inr rfl)) (@pgs_cons _ _ _ _ _ (@pg_name _ _ 3 _ sc_near_plan.nd rfl (Or.inl rfl) (by first | exact .inl rfl | exact .inr rfl)) (@pgs_nil _) (by rfl)) (by rfl)) (by rfl) (by rfl) (by rfl) (by rfl)) (by rfl) (by rfl) (by rfl)) (@pss_one _ _ _ (@ps_ret _ _ _ _ (@pe_tup _ _ _ _ _ (@pa_cons _ _ _ _ _ (@pv _ 2 _ _ (by rfl) (Or.inl rfl) (by decide) (by decide)) (@pa_cons _ _ _ _ _ (@pe_ix _ _ _ _ _ _ _ (ixT K) (@pv _ 3 _ _ (by rfl) (Or.inl rfl) (by decide) (by decide)) (@pe_int _ _ _ _) (fun _ _ => rfl)) (@pa_nil _) (by rfl)) (by rfl)))))), ?_⟩
  have hl : (((ns.map V.int).length : Nat) : Int) = (ns.length : Int) := by rw [List.length_map]
  refine ⟨_, rfl, _, rfl, a, rfl, hS, n1, n12, hns, w2, w6, fun d kvs H1 hd hall s1 => ?_⟩
  refine ⟨_, rfl, a, _, rfl, .inl (s1.seq hS), (by show 3 ≤ sizeLine; decide), fun k1 hk1 => ?_⟩
  obtain ⟨v, p, ts, hlk, ⟨c, t, xs, rfl, hc, ht, tv⟩, hG⟩ := hall 0 ns.length (by omega) (Nat.le_refl _) 1 (by omega) (by omega)
  have s2 := same_new hk1 (.tup ((Kb 0 ns.length 1).map kV))
  have f2 : (upd H1 k1 (.tup ((Kb 0 ns.length 1).map kV))) k1 = some (.tup ((Kb 0 ns.length 1).map kV)) := upd_same
  rw [hl]
  change rIxD _ _ (upd H1 k1 (.tup ((Kb 0 ns.length 1).map kV))) _
  generalize upd H1 k1 (.tup ((Kb 0 ns.length 1).map kV)) = H2 at s2 f2 ⊢
  refine ⟨d, kvs, k1, Kb 0 ns.length 1, _, rfl, rfl, s2 _ _ hd, f2, hlk, c, _, rfl, SqT.of (s2 _ _ hc), rfl, _, _, rfl, _, _, rfl, rfl, ?_⟩
  have g1 := hG.l1
  have g2 := hG.lm
  have s12 := s1.trans s2
  cases tv with
  | nil => simp at g1
  | @cons x u xs us hx hxs =>
    have : us = [] := List.eq_nil_of_length_eq_zero (by simp at g2; rw [g2]; rfl)
    subst this
    refine ⟨_, rfl, _, rfl, t, _, _, _, rfl, rfl, SqT.of (s2 _ _ ht), (atI_nat (j := 0) rfl), (by show 2 ≤ sizeLine; decide), fun r hr0 => ?_⟩
    have s3 := same_new hr0 (.tup [.int p, x])
    exact q r x p u _ (s12.free hr0) upd_same (hx.mono fun a xs e => s3 _ _ (s2 _ _ e)) hG (s12.trans s3)
def spCuts : Sp := fun vs H Q _ => ∃ (b e wy : Nat), vs = [.int b, .int e, .int wy] ∧ b < e ∧ e ≤ 12 ∧ 2 ≤ wy ∧ wy ≤ 6 ∧
  ∀ (r : Addr) (ls : List Addr) (Cn : List (List Nat)) (H' : Hp), H' r = some (.lst (ls.map V.ref)) → Rd H' ls (Cn.map toI) → (∀ c, c ∈ Cn ↔ IsCut b e wy c ∧ 2 ≤ c.length) → Cn.length ≤ 2 ^ (e - (b + 1)) → Same H H' → Q (.ref r) H'
theorem small4 {n : Nat} (h : n ≤ 100000) : n < sizeLine := by rw [sizeLine_eq]; omega
theorem ok_cuts (T : Tops K mg) : Df P w K mg base 1 "_law_cuts" ["_law_begin", "_law_end", "_law_ways_here"] spCuts := by
  refine T.t_l_cuts.df sc_l_cuts (fun vs H Q E h => ?_) (fun cdv f A outer s H vs Q E hr h => ?_)
  · obtain ⟨b, e, wy, rfl, _⟩ := h
    rfl
  obtain ⟨b, e, wy, rfl, hbe, he12, w2, w6, q⟩ := h
  refine ⟨_, (@pss_cons _ _ _ _ _ (@ps_set _ _ 3 _ _ _ _ sc_l_cuts.nd rfl (Or.inl rfl) (@pe_lst _ _ _ _ (@pa_cons _ _ _ _ _ (@pe_lst _ _ _ _ (@pa_cons _ _ _ _ _ (@pv _ 0 _ _ (by rfl) (Or.inl rfl) (by decide) (by decide)) (@pa_nil _) (by rfl))) (@pa_nil _) (by rfl))) (by rfl) (by first | exact .inl rfl | exact .inr rfl)) (@pss_cons _ _ _ _ _ (@ps_for _ _ _ _ _ _ _ _ PassesOwn.never rfl (@pi_range2 _ _ _ _ _ _ _ rfl T.b.n_range (@pa_cons _ _ _ _ _ (@pe_op _ _ _ _ _ _ _ _ op_add (@pv _ 0 _ _ (by rfl) (Or.inl rfl) (by decide) (by decide)) (@pe_int _ _ _ _)) (@pa_cons _ _ _ _ _ (@pv _ 1 _ _ (by rfl) (Or.inl rfl) (by decide) (by decide)) (@pa_nil _) (by rfl)) (by rfl)) (by rfl) (by rfl)) (@pg_name _ _ 4 _ sc_l_cuts.nd rfl (Or.inr rfl) (by first | exact .inl rfl | exact .inr rfl)) (@pss_one _ _ _ (@ps_set _ _ 3 _ _ _ _ sc_l_cuts.nd rfl (Or.inl rfl) (@pe_op _ _ _ _ _ _ _ _ op_cat (@pv _ 3 _ _ (by rfl) (Or.inl rfl) (by decide) (by decide)) (@pe_comp _ _ _ _ _ _ _ _ _ _ _ _ _ _ cs_3 rfl rfl rfl (@iL _ K _ _ _ (@pv _ 3 _ _ (by rfl) (Or.inl rfl) (by decide) (by decide)) (by rfl)) (fun _ _ _ _ => (@cg _ _ _ _ _ _ _ _ _ _ _ 5 cs_3 rfl (by decide +kernel) (by rfl))) (fun _ _ _ _ => (@pts_one _ _ _ (@pt_cmpR _ _ _ _ _ _ _ _ op_lt (@pe_callB _ _ _ _ _ _ _ _ _ (lenQ K) (comp_glob cs_3 rfl (by decide +kernel)) T.b.n_len PySem.boot_len (@pa_cons _ _ _ _ _ (@cw _ _ _ _ _ _ _ _ _ _ _ 5 cs_3 rfl (by decide +kernel) (by rfl) (by decide) (by decide)) (@pa_nil _) (by rfl)) (by decide) (by decide) (by rfl) (by rfl)) (@cv _ _ _ _ _ _ _ _ _ _ _ 2 cs_3 rfl (by decide +kernel) (by rfl) (by decide) (by decide)) (nomark _)))) (fun _ _ _ _ => (@pe_op _ _ _ _ _ _ _ _ op_cat (@cw _ _ _ _ _ _ _ _ _ _ _ 5 cs_3 rfl (by decide +kernel) (by rfl) (by decide) (by decide)) (@pe_lst _ _ _ _ (@pa_cons _ _ _ _ _ (@cv _ _ _ _ _ _ _ _ _ _ _ 4 cs_3 rfl (by decide +kernel) (by rfl) (by decide) (by decide)) (@pa_nil _) (by rfl))))) (by intro _; rfl))) (by rfl) (by first | exact .inl rfl | exact .inr rfl))) (by intro _; rfl)) (@pss_one _ _ _ (@ps_ret _ _ _ _ (@pe_comp _ _ _ _ _ _ _ _ _ _ _ _ _ _ cs_4 rfl rfl rfl (@iL _ K _ _ _ (@pv _ 3 _ _ (by rfl) (Or.inl rfl) (by decide) (by decide)) (by rfl)) (fun _ _ _ _ => (@cg _ _ _ _ _ _ _ _ _ _ _ 5 cs_4 rfl (by decide +kernel) (by rfl))) (fun _ _ _ _ => (@pts_one _ _ _ (@pt_cmpR _ _ _ _ _ _ _ _ op_gt (@pe_callB _ _ _ _ _ _ _ _ _ (lenQ K) (comp_glob cs_4 rfl (by decide +kernel)) T.b.n_len PySem.boot_len (@pa_cons _ _ _ _ _ (@cw _ _ _ _ _ _ _ _ _ _ _ 5 cs_4 rfl (by decide +kernel) (by rfl) (by decide) (by decide)) (@pa_nil _) (by rfl)) (by decide) (by decide) (by rfl) (by rfl)) (@pe_int _ _ _ _) (nomark _)))) (fun _ _ _ _ => (@cw _ _ _ _ _ _ _ _ _ _ _ 5 cs_4 rfl (by decide +kernel) (by rfl) (by decide) (by decide))) (by intro _; rfl)))))), ?_⟩
  refine ⟨_, rfl, (by show 1 ≤ sizeLine; decide), fun l0 hl0 => ⟨(by show 1 ≤ sizeLine; decide), fun r0 hr0 => ?_⟩⟩
  have s1 : Same H (upd (upd H l0 (.lst [.int (b : Int)])) r0 (.lst [.ref l0])) := (same_new hl0 _).trans (same_new hr0 _)
  have f1 : (upd (upd H l0 (.lst [.int (b : Int)])) r0 (.lst [.ref l0])) r0 = some (.lst ([l0].map V.ref)) := upd_same
  have g1 : Rd (upd (upd H l0 (.lst [.int (b : Int)])) r0 (.lst [.ref l0])) [l0] ([[b]].map toI) := ⟨same_new hr0 _ _ _ upd_same, trivial⟩
  generalize upd (upd H l0 (.lst [.int (b : Int)])) r0 (.lst [.ref l0]) = H1 at s1 f1 g1 ⊢
  refine ⟨_, rfl, _, _, rfl, rfl, _, rfl, _, _, rfl, ⟨by omega, by omega, by omega, by omega⟩, ?_⟩
  rw [show ((e : Int) - ((b : Int) + 1)).toNat = e - (b + 1) by omega]
  refine for_range (fun i σ H2 => ∃ (r : Addr) (ls : List Addr) (Cn : List (List Nat)) (v4 : Option V), σ = [some (.int b), some (.int e), some (.int wy), some (.ref r), v4] ∧ H2 r = some (.lst (ls.map V.ref)) ∧ Rd H2 ls (Cn.map toI) ∧ (∀ c, c ∈ Cn ↔ IsCut b (b + 1 + i) wy c) ∧ Cn.length ≤ 2 ^ i ∧ Same H H2) ⟨r0, [l0], [[b]], _, rfl, f1, g1, fun c => by rw [Nat.add_zero, cut_start (by omega), List.mem_singleton], Nat.le_refl 1, s1⟩ ?_ ?_
  · rintro i σ H2 hi ⟨r, ls, Cn, v4, rfl, hr2, rd2, hC, hlen, s2⟩
    rw [show ((b : Int) + 1 + (i : Int)) = ((b + 1 + i : Nat) : Int) by omega]
    have hp2 : 2 ^ i ≤ 2 ^ 10 := Nat.pow_le_pow_right (by omega) (by omega)
    have hCl : Cn.length ≤ 1024 := Nat.le_trans hlen hp2
    have hls : ls.length = Cn.length := by rw [rd2.len, List.length_map]
    refine ⟨_, rfl, _, rfl, r, rfl, ⟨_, SqL.of hr2⟩, fun D hD => ?_⟩
    refine comp_listF (K := K) (a := r) (xs := ls.map V.ref) (fun j ys σ H3 => (∃ v : Option V, σ = [some (.int b), some (.int e), some (.int wy), some (.ref r), some (.int ((b + 1 + i : Nat) : Int)), v]) ∧ (∃ ms : List Addr, ys = ms.map V.ref ∧ Rd H3 ms ((((Cn.take j).filter fun c => decide (c.length < wy)).map (· ++ [b + 1 + i])).map toI) ∧ D ∉ ms ∧ ms.length ≤ j) ∧ j ≤ ls.length ∧ H3 D = some (.lst ys) ∧ Same H2 H3) ?_ (fun _ _ _ _ h => SqL.of (h.2.2.2.2 _ _ hr2)) ?_ ?_
    · exact ⟨⟨none, rfl⟩, ⟨[], rfl, trivial, (fun h => by cases h), Nat.le_refl _⟩, Nat.zero_le _, upd_same, same_new hD _⟩
    · rintro j x ys σ H3 hx ⟨⟨v, rfl⟩, ⟨ms, rfl, rd3, hDm, hml⟩, hj, hD3, s3⟩
      rw [List.getElem?_map] at hx
      cases hz : ls[j]? with
      | none => rw [hz] at hx; cases hx
      | some l =>
        rw [hz] at hx
        cases hx
        have hjl : j < ls.length := (List.getElem?_eq_some_iff.mp hz).1
        obtain ⟨d, hd1, hd⟩ := rd2.at hz
        rw [List.getElem?_map] at hd1
        cases hc : Cn[j]? with
        | none => rw [hc] at hd1; cases hd1
        | some c =>
          rw [hc] at hd1
          cases hd1
          have hd3 := s3 _ _ hd
          have hlc : ((((toI c).map V.int).length : Nat) : Int) = (c.length : Int) := by rw [List.length_map, toI_len]
          have hcw : c.length ≤ wy := ((hC c).mp (List.mem_of_getElem? hc)).2.2.2
          have nDl : D ≠ l := (ne_of_none hd hD).symm
          refine ⟨_, rfl, l, _, rfl, .inl (SqL.of hd3), _, rfl, _, _, rfl, rfl, _, rfl, ?_⟩
          by_cases hk : c.length < wy
          · refine iteD (by rw [hlc]; omega) ?_
            refine ⟨_, rfl, _, rfl, (by show 1 ≤ sizeLine; decide), fun l1 hl1 => ?_⟩
            have s4 := same_new hl1 (.lst [.int ((b + 1 + i : Nat) : Int)])
            have f4 : (upd H3 l1 (.lst [.int ((b + 1 + i : Nat) : Int)])) l1 = some (.lst [.int ((b + 1 + i : Nat) : Int)]) := upd_same
            generalize upd H3 l1 (.lst [.int ((b + 1 + i : Nat) : Int)]) = H4 at s4 f4 ⊢
            refine ⟨l, l1, _, _, rfl, rfl, s4 _ _ hd3, f4, (by rw [List.length_map, toI_len]; exact Nat.le_of_lt (small1000 (by show c.length + 1 ≤ 1000; omega))), fun p hp => ?_⟩
            have ecat : (toI c).map V.int ++ [V.int ((b + 1 + i : Nat) : Int)] = (toI (c ++ [b + 1 + i])).map V.int := by unfold toI; rw [List.map_append, List.map_append]; rfl
            rw [ecat]
            have s5 := same_new hp (.lst ((toI (c ++ [b + 1 + i])).map V.int))
            have hD4 := s4 _ _ hD3
            have hD5 := s5 _ _ hD4
            have nDp : D ≠ p := ne_of_none hD4 hp
            refine ⟨hD5, (by rw [List.length_map]; exact small4 (by omega)), ⟨_, rfl⟩, ⟨ms ++ [p], by rw [List.map_append]; rfl, ?_, fun h => ?_, by rw [List.length_append, List.length_singleton]; omega⟩, hjl, upd_same, fun b' o hb => ?_⟩
            · rw [List.take_add_one, hc, List.filter_append, List.map_append, List.map_append]
              have ef : ([c].filter fun c => decide (c.length < wy)) = [c] := by simp [hk]
              show Rd _ _ (_ ++ (([c].filter fun c => decide (c.length < wy)).map (· ++ [b + 1 + i])).map toI)
              rw [ef]
              refine Rd.app (Rd.mono (fun l' hl' u hu => ?_) rd3) ⟨?_, trivial⟩
              · rw [upd_ne (fun z : l' = D => hDm (z ▸ hl'))]; exact s5 _ _ (s4 _ _ hu)
              · rw [upd_ne nDp.symm]; exact upd_same
            · rcases List.mem_append.mp h with h | h
              · exact hDm h
              · exact nDp (List.mem_singleton.mp h)
            · rw [upd_ne (ne_of_none hb hD)]; exact s5 _ _ (s4 _ _ (s3 b' o hb))
          · refine iteDN (by rw [hlc]; omega) ⟨⟨_, rfl⟩, ⟨ms, rfl, ?_, hDm, by omega⟩, hjl, hD3, s3⟩
            rw [List.take_add_one, hc, List.filter_append]
            have ef : ([c].filter fun c => decide (c.length < wy)) = [] := by simp [hk]
            show Rd _ _ ((((_ ++ [c].filter fun c => decide (c.length < wy))).map (· ++ [b + 1 + i])).map toI)
            rw [ef, List.append_nil]
            exact rd3
    rintro ys σ H3 ⟨⟨v, rfl⟩, ⟨ms, rfl, rd3, hDm, hml⟩, _, hD3, s3⟩
    rw [List.length_map] at hml rd3
    rw [List.take_of_length_le (by omega)] at rd3
    refine ⟨r, D, _, _, rfl, rfl, s3 _ _ hr2, hD3, (by rw [List.length_map, List.length_map]; exact Nat.le_of_lt (small4 (by omega))), fun r2 hr2' => ?_⟩
    rw [← List.map_append]
    have s4 := same_new hr2' (.lst ((ls ++ ms).map V.ref))
    refine ⟨r2, ls ++ ms, Cn ++ (Cn.filter fun c => decide (c.length < wy)).map (· ++ [b + 1 + i]), _, rfl, upd_same, ?_, fun c => ?_, ?_, (s2.trans s3).trans s4⟩
    · have em : (Cn ++ (Cn.filter fun c => decide (c.length < wy)).map (· ++ [b + 1 + i])).map toI = Cn.map toI ++ ((Cn.filter fun c => decide (c.length < wy)).map (· ++ [b + 1 + i])).map toI := List.map_append
      rw [em]
      exact Rd.app (Rd.mono (fun l _ u hu => s4 _ _ (s3 _ _ hu)) rd2) (Rd.mono (fun l _ u hu => s4 _ _ hu) rd3)
    · rw [show b + 1 + (i + 1) = b + 1 + i + 1 by omega, cut_step (by omega), List.mem_append, hC c]
      refine or_congr Iff.rfl ⟨fun h => ?_, fun ⟨c0, e1, e2, e3⟩ => ?_⟩
      · obtain ⟨c0, h0, rfl⟩ := List.mem_map.mp h
        obtain ⟨h1, h2⟩ := List.mem_filter.mp h0
        exact ⟨c0, rfl, (hC c0).mp h1, of_decide_eq_true h2⟩
      · rw [e1]
        exact List.mem_map.mpr ⟨c0, List.mem_filter.mpr ⟨(hC c0).mpr e2, decide_eq_true e3⟩, rfl⟩
    · rw [List.length_append, List.length_map, Nat.pow_succ]
      have := List.length_filter_le (fun c => decide (c.length < wy)) Cn
      omega
  · rintro σ H2 ⟨r, ls, Cn, v4, rfl, hr2, rd2, hC, hlen, s2⟩
    rw [show b + 1 + (e - (b + 1)) = e by omega] at hC
    have hp2 : 2 ^ (e - (b + 1)) ≤ 2 ^ 11 := Nat.pow_le_pow_right (by omega) (by omega)
    have hCl : Cn.length ≤ 2048 := Nat.le_trans hlen hp2
    have hls : ls.length = Cn.length := by rw [rd2.len, List.length_map]
    refine ⟨_, rfl, r, rfl, ⟨_, SqL.of hr2⟩, fun D hD => ?_⟩
    refine comp_listF (K := K) (a := r) (xs := ls.map V.ref) (fun j ys σ H3 => (∃ v : Option V, σ = [some (.int b), some (.int e), some (.int wy), some (.ref r), v4, v]) ∧ (∃ ms : List Addr, ys = ms.map V.ref ∧ Rd H3 ms (((Cn.take j).filter fun c => decide (1 < c.length)).map toI) ∧ D ∉ ms ∧ ms.length ≤ j) ∧ j ≤ ls.length ∧ H3 D = some (.lst ys) ∧ Same H2 H3) ?_ (fun _ _ _ _ h => SqL.of (h.2.2.2.2 _ _ hr2)) ?_ ?_
    · exact ⟨⟨none, rfl⟩, ⟨[], rfl, trivial, (fun h => by cases h), Nat.le_refl _⟩, Nat.zero_le _, upd_same, same_new hD _⟩
    · rintro j x ys σ H3 hx ⟨⟨v, rfl⟩, ⟨ms, rfl, rd3, hDm, hml⟩, hj, hD3, s3⟩
      rw [List.getElem?_map] at hx
      cases hz : ls[j]? with
      | none => rw [hz] at hx; cases hx
      | some l =>
        rw [hz] at hx
        cases hx
        have hjl : j < ls.length := (List.getElem?_eq_some_iff.mp hz).1
        obtain ⟨d, hd1, hd⟩ := rd2.at hz
        rw [List.getElem?_map] at hd1
        cases hc : Cn[j]? with
        | none => rw [hc] at hd1; cases hd1
        | some c =>
          rw [hc] at hd1
          cases hd1
          have hd3 := s3 _ _ hd
          have hlc : ((((toI c).map V.int).length : Nat) : Int) = (c.length : Int) := by rw [List.length_map, toI_len]
          have nDl : D ≠ l := (ne_of_none hd hD).symm
          refine ⟨_, rfl, l, _, rfl, .inl (SqL.of hd3), _, _, rfl, rfl, _, rfl, ?_⟩
          by_cases hk : 1 < c.length
          · refine iteD (by rw [hlc]; omega) ⟨_, rfl, hD3, (by rw [List.length_map]; exact small4 (by omega)), ⟨_, rfl⟩, ⟨ms ++ [l], by rw [List.map_append]; rfl, ?_, fun h => ?_, by rw [List.length_append, List.length_singleton]; omega⟩, hjl, upd_same, fun b' o hb => ?_⟩
            · rw [List.take_add_one, hc, List.filter_append, List.map_append]
              have ef : ([c].filter fun c => decide (1 < c.length)) = [c] := by simp [hk]
              show Rd _ _ (_ ++ ([c].filter fun c => decide (1 < c.length)).map toI)
              rw [ef]
              refine Rd.app (Rd.mono (fun l' hl' u hu => ?_) rd3) ⟨?_, trivial⟩
              · rw [upd_ne (fun z : l' = D => hDm (z ▸ hl'))]; exact hu
              · rw [upd_ne nDl.symm]; exact hd3
            · rcases List.mem_append.mp h with h | h
              · exact hDm h
              · exact nDl (List.mem_singleton.mp h)
            · rw [upd_ne (ne_of_none hb hD)]; exact s3 b' o hb
          · refine iteDN (by rw [hlc]; omega) ⟨⟨_, rfl⟩, ⟨ms, rfl, ?_, hDm, by omega⟩, hjl, hD3, s3⟩
            rw [List.take_add_one, hc, List.filter_append]
            have ef : ([c].filter fun c => decide (1 < c.length)) = [] := by simp [hk]
            show Rd _ _ ((_ ++ [c].filter fun c => decide (1 < c.length)).map toI)
            rw [ef, List.append_nil]
            exact rd3
    rintro ys σ H3 ⟨⟨v, rfl⟩, ⟨ms, rfl, rd3, hDm, hml⟩, _, hD3, s3⟩
    rw [List.length_map, List.take_of_length_le (by omega)] at rd3
    refine q D ms _ H3 hD3 rd3 (fun c => ?_) (Nat.le_trans (List.length_filter_le _ _) hlen) (s2.trans s3)
    rw [List.mem_filter, hC c]
    exact and_congr Iff.rfl ⟨fun h => of_decide_eq_true h, fun h => decide_eq_true h⟩
def Kp (x y : Nat) : List Key := [.inl (x : Int), .inl (y : Int)]
theorem Kp_inj {b e b' e' : Nat} (h : Kp b e = Kp b' e') : b = b' ∧ e = e' := by
  unfold Kp at h
  injection h with h1 h2
  injection h2 with h2 _
  injection h1 with h1
  injection h2 with h2
  omega
theorem ups_seq (n : Nat) : seqI 0 n = upsI 0 n := by
  unfold seqI upsI
  rw [Nat.sub_zero]
  refine List.map_congr_left fun i _ => ?_
  omega
mutual
theorem lv_ok {n : Nat} : ∀ t : PT, (∀ k ∈ tLv t, 0 ≤ k ∧ k < (n : Int)) → tOk n t
  | .leaf k, h => h k (by simp [tLv])
  | .node l, h => lvs_ok l h
theorem lvs_ok {n : Nat} : ∀ l : List PT, (∀ k ∈ tLvs l, 0 ≤ k ∧ k < (n : Int)) → tOks n l
  | [], _ => trivial
  | t :: r, h => ⟨lv_ok t fun k hk => h k (by show k ∈ tLv t ++ tLvs r; exact List.mem_append_left _ hk), lvs_ok r fun k hk => h k (by show k ∈ tLv t ++ tLvs r; exact List.mem_append_right _ hk)⟩
end
mutual
theorem pl_gd {w : Nat} : ∀ t : PT, tPl w t → tGd t ∧ tLf t = (tLv t).length
  | .leaf k, _ => ⟨⟨Nat.le_refl 1, Nat.le_refl 2⟩, rfl⟩
  | .node l, h => by
    obtain ⟨h1, h2, h3⟩ : 2 ≤ l.length ∧ l.length ≤ w ∧ tPls w l := h
    obtain ⟨g1, g2⟩ := pls_gd l h3
    exact ⟨tGd_node g1 h1, g2⟩
theorem pls_gd {w : Nat} : ∀ l : List PT, tPls w l → tGds l ∧ tLfs l = (tLvs l).length
  | [], _ => ⟨trivial, rfl⟩
  | t :: r, h => by
    obtain ⟨a1, a2⟩ := pl_gd t h.1
    obtain ⟨b1, b2⟩ := pls_gd r h.2
    refine ⟨⟨a1, b1⟩, ?_⟩
    show tLf t + tLfs r = (tLv t ++ tLvs r).length
    rw [List.length_append, a2, b2]
end
theorem gr_fit {ns : List Int} {w : Nat} {p : Int} {t : PT} (hn : ns.length ≤ 12) (g : Gr ns w 0 ns.length 1 p [t]) : tLv t = seqI 0 ns.length ∧ tPl w t ∧ tCo ns t = p ∧ tOk ns.length t ∧ tDp t < 13 ∧ tNo t ≤ 30 := by
  have e1 : tLv t = seqI 0 ns.length := by
    have h9 : tLv t ++ [] = seqI 0 ns.length := g.nf.1
    rw [List.append_nil] at h9
    exact h9
  have e2 : tPl w t := g.nf.2.1
  have e3 : tCo ns t = p := by
    have h9 : tCo ns t + 0 = p := g.co
    omega
  obtain ⟨⟨c1, c2⟩, c3⟩ := pl_gd t e2
  rw [e1, seqI_len] at c3
  refine ⟨e1, e2, e3, lv_ok t fun k hk => ?_, by omega, by omega⟩
  rw [e1] at hk
  unfold seqI at hk
  obtain ⟨i, hi, rfl⟩ := List.mem_map.mp hk
  have := List.mem_range.mp hi
  omega
def strsTo (n b : Nat) : List (Nat × Nat) := (List.range b).flatMap fun x => (List.range (n - x)).map fun i => (x, x + 1 + i)
theorem strsTo_succ (n b : Nat) : strsTo n (b + 1) = strsTo n b ++ (List.range (n - b)).map fun i => (b, b + 1 + i) := by
  unfold strsTo
  rw [List.range_succ, List.flatMap_append]
  simp
theorem strsTo_len (n : Nat) : ∀ b, (strsTo n b).length ≤ n * b
  | 0 => Nat.le_refl 0
  | b + 1 => by
    have := strsTo_len n b
    rw [strsTo_succ, List.length_append, List.length_map, List.length_range, Nat.mul_succ]
    omega
theorem mem_strs {n x y : Nat} : (x, y) ∈ strsTo n n ↔ x < y ∧ y ≤ n := by
  unfold strsTo
  rw [List.mem_flatMap]
  constructor
  · rintro ⟨a, h1, h2⟩
    obtain ⟨i, h3, h4⟩ := List.mem_map.mp h2
    have a1 := List.mem_range.mp h1
    have a2 := List.mem_range.mp h3
    injection h4 with h5 h6
    omega
  · rintro ⟨h1, h2⟩
    exact ⟨x, List.mem_range.mpr (by omega), List.mem_map.mpr ⟨y - x - 1, List.mem_range.mpr (by omega), by rw [show x + 1 + (y - x - 1) = y by omega]⟩⟩
def ltP (p q : Nat × Nat) : Prop := p.1 < q.1 ∨ (p.1 = q.1 ∧ p.2 < q.2)
theorem strs_pw (n b : Nat) : (strsTo n b).Pairwise ltP := by
  unfold strsTo
  rw [List.pairwise_flatMap]
  refine ⟨fun a _ => ?_, ?_⟩
  · refine List.Pairwise.map _ (fun i j h => .inr ⟨rfl, ?_⟩) List.pairwise_lt_range
    show a + 1 + i < a + 1 + j
    omega
  · refine List.pairwise_lt_range.imp fun {a c} h x hx y hy => ?_
    obtain ⟨i, _, rfl⟩ := List.mem_map.mp hx
    obtain ⟨j, _, rfl⟩ := List.mem_map.mp hy
    exact .inl h
def tri (pf : Nat → Nat → Int) (p : Nat × Nat) : Int × Int × Int := ((p.1 : Int), (p.2 : Int), pf p.1 p.2)
def q3 (e : Int × Int × Int) : List Key := [.inl e.1, .inl e.2.1, .inl e.2.2]
def q2 (p : Nat × Nat) : List Key := Kp p.1 p.2
def spPF (K : PySem.W.Frag) : Sp := fun vs H Q _ => ∃ (a : Addr) (ns : List Int) (wy : Nat), vs = [.ref a, .int wy] ∧ SqL K H a (ns.map V.int) ∧ 1 ≤ ns.length ∧ ns.length ≤ 12 ∧ (∀ v ∈ ns, 0 ≤ v ∧ v ≤ 1000000000) ∧ 2 ≤ wy ∧ wy ≤ 6 ∧
  ∀ (r : Addr) (ts : TupL) (pf : Nat → Nat → Int) (H' : Hp), H r = none → H' r = some (.lst (refs ts)) → AtT H' ts → ts.map (·.2) = ((strsTo ns.length ns.length).map (tri pf)).map q3 → (∀ b e, b < e → e ≤ ns.length → ∃ t, Gr ns wy b e 1 (pf b e) [t]) → Same H H' → Q (.ref r) H'
theorem ok_pf (T : Tops K mg) (f_least_groves' : ∀ ns wy, Df P w K mg base 3 "least_groves" ["sizes", "ways"] (spGroves K ns wy)) : Df P w K mg base 4 "prices_for" ["sizes", "ways"] (spPF K) := by
  refine T.t_prices_for.df sc_prices_for (fun vs H Q E h => ?_) (fun cdv f A outer s H vs Q E hr h => ?_)
  · obtain ⟨a, ns, wy, rfl, _⟩ := h
    rfl
  obtain ⟨a, ns, wy, rfl, hS, n1, n12, hns, w2, w6, q⟩ := h
  have f_least_groves := f_least_groves' ns wy
  refine ⟨_, (@pss_cons _ _ _ _ _ (@ps_set _ _ 2 _ _ _ _ sc_prices_for.nd rfl (Or.inr rfl) (@pe_df _ _ _ _ _ _ _ _ _ _ _ f_least_groves hr (@pa_cons _ _ _ _ _ (@pv _ 0 _ _ (by rfl) (Or.inl rfl) (by decide) (by decide)) (@pa_cons _ _ _ _ _ (@pv _ 1 _ _ (by rfl) (Or.inl rfl) (by decide) (by decide)) (@pa_nil _) (by rfl)) (by rfl)) (by first | decide | exact Nat.le_refl _ | omega) (by rfl) (by decide) (by rfl) (by rfl)) (by rfl) (by first | exact .inl rfl | exact .inr rfl)) (@pss_cons _ _ _ _ _ (@ps_set _ _ 3 _ _ _ _ sc_prices_for.nd rfl (Or.inr rfl) (@pe_callB _ _ _ _ _ _ _ _ _ (lenQ K) (by rfl) T.b.n_len PySem.boot_len (@pa_cons _ _ _ _ _ (@pv _ 0 _ _ (by rfl) (Or.inl rfl) (by decide) (by decide)) (@pa_nil _) (by rfl)) (by decide) (by decide) (by rfl) (by rfl)) (by rfl) (by first | exact .inl rfl | exact .inr rfl)) (@pss_one _ _ _ (@ps_ret _ _ _ _ (@pe_comp2 _ _ _ _ _ _ _ _ _ _ _ _ _ _ _ _ cs_5 rfl rfl rfl (@pi_range1 _ _ _ _ _ _ rfl T.b.n_range (@pa_cons _ _ _ _ _ (@pv _ 3 _ _ (by rfl) (Or.inr (Or.inl rfl)) (by decide) (by decide)) (@pa_nil _) (by rfl)) (by rfl)) (fun _ _ _ _ => (@cg _ _ _ _ _ _ _ _ _ _ _ 4 cs_5 rfl (by decide +kernel) (by rfl))) (fun _ _ _ _ => (@pi_range2 _ _ _ _ _ _ _ (comp_glob cs_5 rfl (by decide +kernel)) T.b.n_range (@pa_cons _ _ _ _ _ (@pe_op _ _ _ _ _ _ _ _ op_add (@cw _ _ _ _ _ _ _ _ _ _ _ 4 cs_5 rfl (by decide +kernel) (by rfl) (by decide) (by decide)) (@pe_int _ _ _ _)) (@pa_cons _ _ _ _ _ (@pe_op _ _ _ _ _ _ _ _ op_add (@cv _ _ _ _ _ _ _ _ _ _ _ 3 cs_5 rfl (by decide +kernel) (by rfl) (by decide) (by decide)) (@pe_int _ _ _ _)) (@pa_nil _) (by rfl)) (by rfl)) (by rfl) (by rfl))) (fun _ _ _ _ => (@cg _ _ _ _ _ _ _ _ _ _ _ 5 cs_5 rfl (by decide +kernel) (by rfl))) (fun _ _ _ _ => (@pe_tup _ _ _ _ _ (@pa_cons _ _ _ _ _ (@cw _ _ _ _ _ _ _ _ _ _ _ 4 cs_5 rfl (by decide +kernel) (by rfl) (by decide) (by decide)) (@pa_cons _ _ _ _ _ (@cw _ _ _ _ _ _ _ _ _ _ _ 5 cs_5 rfl (by decide +kernel) (by rfl) (by decide) (by decide)) (@pa_cons _ _ _ _ _ (@pe_ix _ _ _ _ _ _ _ (ixT K) (@pe_ix _ _ _ _ _ _ _ (ixD hr) (@cv _ _ _ _ _ _ _ _ _ _ _ 2 cs_5 rfl (by decide +kernel) (by rfl) (by decide) (by decide)) (@pe_tup _ _ _ _ _ (@pa_cons _ _ _ _ _ (@cw _ _ _ _ _ _ _ _ _ _ _ 4 cs_5 rfl (by decide +kernel) (by rfl) (by decide) (by decide)) (@pa_cons _ _ _ _ _ (@cw _ _ _ _ _ _ _ _ _ _ _ 5 cs_5 rfl (by decide +kernel) (by rfl) (by decide) (by decide)) (@pa_cons _ _ _ _ _ (@pe_int _ _ _ _) (@pa_nil _) (by rfl)) (by rfl)) (by rfl))) (fun _ _ => rfl)) (@pe_int _ _ _ _) (fun _ _ => rfl)) (@pa_nil _) (by rfl)) (by rfl)) (by rfl)))) (by intro _; rfl) (by intro _ _ _ _ _; rfl)))))), ?_⟩
  have hl : (((ns.map V.int).length : Nat) : Int) = (ns.length : Int) := by rw [List.length_map]
  refine ⟨_, rfl, _, rfl, a, rfl, hS, n1, n12, hns, w2, w6, fun d kvs H1 hd hall s1 => ?_⟩
  refine ⟨_, rfl, a, _, rfl, .inl (s1.seq hS), ?_⟩
  simp only [hl]
  obtain ⟨pf, hpf⟩ : ∃ pf : Nat → Nat → Int, ∀ b e, b < e → e ≤ ns.length → ∃ (c y : Addr) (t : PT), lookK kvs (Kb b e 1) = some (.ref c) ∧ H1 c = some (.tup [.int (pf b e), .ref y]) ∧ Gr ns wy b e 1 (pf b e) [t] := by
    have hx : ∀ b e, b < e → e ≤ ns.length → ∃ p : Int, ∃ (c y : Addr) (t : PT), lookK kvs (Kb b e 1) = some (.ref c) ∧ H1 c = some (.tup [.int p, .ref y]) ∧ Gr ns wy b e 1 p [t] := fun b e h1 h2 => by
      obtain ⟨v, p, ts, x1, ⟨c, y, xs, rfl, x2, _, _⟩, x3⟩ := hall b e h1 h2 1 (Nat.le_refl 1) (by omega)
      have l1 := x3.l1
      have l2 := x3.lm
      cases ts with
      | nil => simp at l1
      | cons t r =>
        have : r = [] := by simpa using l2
        subst this
        exact ⟨p, c, y, t, x1, x2, x3⟩
    refine ⟨fun b e => if h : b < e ∧ e ≤ ns.length then Classical.choose (hx b e h.1 h.2) else 0, fun b e h1 h2 => ?_⟩
    have e9 : (if h : b < e ∧ e ≤ ns.length then Classical.choose (hx b e h.1 h.2) else 0) = Classical.choose (hx b e h1 h2) := dif_pos ⟨h1, h2⟩
    simp only [e9]
    exact Classical.choose_spec (hx b e h1 h2)
  refine ⟨_, rfl, _, rfl, by omega, by omega, fun D hD => ?_⟩
  rw [Int.toNat_natCast]
  refine comp2_range (fun b ys σ H2 => (∃ v1 v2 : Option V, σ = [some (.ref a), some (.int wy), some (.ref d), some (.int (ns.length : Int)), v1, v2]) ∧ (∃ ts : TupL, ys = refs ts ∧ AtT H2 ts ∧ ts.map (·.2) = ((strsTo ns.length b).map (tri pf)).map q3) ∧ b ≤ ns.length ∧ H2 D = some (.lst ys) ∧ Same H1 H2) ?_ ?_ ?_
  · exact ⟨⟨none, none, rfl⟩, ⟨[], rfl, (fun t h => by cases h), rfl⟩, Nat.zero_le _, upd_same, same_new hD _⟩
  · rintro b ys σ H2 hb ⟨⟨v1, v2, rfl⟩, ⟨ts, rfl, hat, hE⟩, hb', hD2, s2⟩
    rw [show ((0 : Int) + (b : Int)) = (b : Int) by omega]
    refine ⟨_, rfl, _, _, rfl, rfl, _, rfl, _, _, rfl, rfl, _, _, rfl, ⟨by omega, by omega, by omega, by omega⟩, ?_⟩
    rw [show ((ns.length : Int) + 1 - ((b : Int) + 1)).toNat = ns.length - b by omega]
    refine inner_range (fun i ys σ H3 => (∃ v2 : Option V, σ = [some (.ref a), some (.int wy), some (.ref d), some (.int (ns.length : Int)), some (.int (b : Int)), v2]) ∧ (∃ ts : TupL, ys = refs ts ∧ AtT H3 ts ∧ ts.map (·.2) = ((strsTo ns.length b ++ (List.range i).map fun i => (b, b + 1 + i)).map (tri pf)).map q3) ∧ i ≤ ns.length - b ∧ H3 D = some (.lst ys) ∧ Same H1 H3) ⟨⟨_, rfl⟩, ⟨ts, rfl, hat, by rw [hE]; simp⟩, Nat.zero_le _, hD2, s2⟩ ?_ ?_
    · rintro i ys σ H3 hi ⟨⟨v2', rfl⟩, ⟨ts3, rfl, hat3, hE3⟩, hi', hD3, s3⟩
      rw [show ((b : Int) + 1 + (i : Int)) = ((b + 1 + i : Nat) : Int) by omega]
      obtain ⟨c, y, t, x1, x2, x3⟩ := hpf b (b + 1 + i) (by omega) (by omega)
      have htl : ts3.length ≤ 156 := by
        have h9 := congrArg List.length hE3
        rw [List.length_map, List.length_map, List.length_map, List.length_append, List.length_map, List.length_range] at h9
        have h8 := strsTo_len ns.length b
        have h7 : ns.length * b ≤ 12 * 12 := Nat.mul_le_mul n12 (by omega)
        omega
      refine ⟨_, rfl, _, rfl, _, rfl, _, rfl, _, rfl, (by show 3 ≤ sizeLine; decide), fun k1 hk1 => ?_⟩
      have s4 := same_new hk1 (.tup ((Kb b (b + 1 + i) 1).map kV))
      have f4 : (upd H3 k1 (.tup ((Kb b (b + 1 + i) 1).map kV))) k1 = some (.tup ((Kb b (b + 1 + i) 1).map kV)) := upd_same
      change rIxD _ _ (upd H3 k1 (.tup ((Kb b (b + 1 + i) 1).map kV))) _
      generalize upd H3 k1 (.tup ((Kb b (b + 1 + i) 1).map kV)) = H4 at s4 f4 ⊢
      have s14 := s3.trans s4
      refine ⟨d, kvs, k1, Kb b (b + 1 + i) 1, _, rfl, rfl, s14 _ _ hd, f4, x1, c, _, _, _, rfl, rfl, SqT.of (s14 _ _ x2), rfl, (by show 3 ≤ sizeLine; decide), fun n hn => ?_⟩
      have sn := same_new hn (.tup [.int (b : Int), .int ((b + 1 + i : Nat) : Int), .int (pf b (b + 1 + i))])
      have hD4 := s4 _ _ hD3
      have hD5 := sn _ _ hD4
      have nDn : D ≠ n := ne_of_none hD4 hn
      refine ⟨hD5, (by rw [refs_len]; exact small1000 (by omega)), ⟨_, rfl⟩, ⟨ts3 ++ [(n, q3 (tri pf (b, b + 1 + i)))], by unfold refs; rw [List.map_append]; rfl, fun t ht => ?_, ?_⟩, by omega, upd_same, fun b' o hb => ?_⟩
      · rcases List.mem_append.mp ht with ht | ht
        · exact tup_keep hD5 _ _ _ (sn _ _ (s4 _ _ (hat3 t ht)))
        · rw [List.mem_singleton.mp ht, upd_ne nDn.symm]; exact upd_same
      · rw [List.map_append, hE3, List.range_succ]
        simp [List.map_append]
      · rw [upd_ne (ne_of_none hb hD)]; exact sn _ _ (s14 b' o hb)
    · rintro ys σ H3 ⟨⟨v2', rfl⟩, ⟨ts3, rfl, hat3, hE3⟩, _, hD3, s3⟩
      exact ⟨⟨_, _, rfl⟩, ⟨ts3, rfl, hat3, by rw [strsTo_succ]; exact hE3⟩, hb, hD3, s3⟩
  · rintro ys σ H2 ⟨⟨v1, v2, rfl⟩, ⟨ts, rfl, hat, hE⟩, _, hD2, s2⟩
    exact q D ts pf H2 (s1.free hD) hD2 hat hE (fun b e h1 h2 => by obtain ⟨_, _, t, _, _, g⟩ := hpf b e h1 h2; exact ⟨t, g⟩) (s1.trans s2)
def t3D (e : Int × Int × Int) : PyData := .tuple [.int e.1, .int e.2.1, .int e.2.2]
theorem strs_le {n : Nat} (h : n ≤ 12) : (strsTo n n).length ≤ 144 := by
  have h8 := strsTo_len n n
  have h7 : n * n ≤ 12 * 12 := Nat.mul_le_mul h h
  omega
theorem tPls_iff (w : Nat) : ∀ l : List PT, tPls w l ↔ ∀ t ∈ l, tPl w t
  | [] => ⟨(fun _ t h => by cases h), fun _ => trivial⟩
  | t :: r => by show tPl w t ∧ tPls w r ↔ _; rw [tPls_iff w r]; simp
theorem in_no {fs : List Int} {k : Int} (h : k ∉ fs) : ((fs.map PyData.int).any fun e => PyData.eqv e (.int k)) = false := by
  rw [List.any_eq_false]
  intro e he
  obtain ⟨x, hx, rfl⟩ := List.mem_map.mp he
  have : x ≠ k := fun z => h (z ▸ hx)
  simp [PyData.eqv, this]
def spFinds (K : PySem.W.Frag) (n : Nat) : Sp := fun vs H Q _ => ∃ (a fo : Addr) (ns fs : List Int) (wy : Nat) (x : V) (t : PT), vs = [.ref a, .int wy, x, .ref fo] ∧ H a = some (.lst (ns.map V.int)) ∧ H fo = some (.lst (fs.map V.int)) ∧ a ≠ fo ∧ ns.length ≤ 12 ∧ TV H x t ∧ tPl wy t ∧ tOk ns.length t ∧ tDp t < n ∧ wy ≤ 6 ∧ (fs ++ tLv t).Nodup ∧ (fs ++ tLv t).length ≤ 12 ∧
  ∀ H', H' fo = some (.lst ((fs ++ tLv t).map V.int)) → (∀ b o, H b = some o → b ≠ fo → H' b = some o) → Q (.bl true) H'
theorem ok_finds (T : Tops K mg) (f_is_number : Df P w K mg base 1 "is_number" ["thing"] spNum) : ∀ n : Nat, Df P w K mg base (n + 1) "finds_rows" ["sizes", "ways", "thing", "found"] (spFinds K n)
  | 0 => by
    refine T.t_finds_rows.df sc_finds_rows (fun vs H Q E h => ?_) (fun cdv f A outer s H vs Q E hr h => ?_)
    · obtain ⟨a, fo, ns, fs, wy, x, t, rfl, _⟩ := h
      rfl
    obtain ⟨a, fo, ns, fs, wy, x, t, rfl, hS, hF, naf, n12, hT, hpl, hok, hdp, q⟩ := h
    exact absurd hdp (by omega)
  | n + 1 => by
    have f_finds_rows := ok_finds T f_is_number n
    refine T.t_finds_rows.df sc_finds_rows (fun vs H Q E h => ?_) (fun cdv f A outer s H vs Q E hr h => ?_)
    · obtain ⟨a, fo, ns, fs, wy, x, t, rfl, _⟩ := h
      rfl
    obtain ⟨a, fo, ns, fs, wy, x, t, rfl, hS, hF, naf, n12, hT, hpl, hok, hdp, w6, nd, l12, q⟩ := h
    refine ⟨_, (@pss_cons _ _ _ _ _ (@ps_if _ _ _ _ _ _ _ _ (@pt_val _ _ _ (@pe_df _ _ _ _ _ _ _ _ _ _ _ f_is_number hr (@pa_cons _ _ _ _ _ (@pv _ 2 _ _ (by rfl) (Or.inl rfl) (by decide) (by decide)) (@pa_nil _) (by rfl)) (by first | decide | exact Nat.le_refl _ | omega) (by rfl) (by decide) (by rfl) (by rfl)) (by intro _; rfl)) (@pss_cons _ _ _ _ _ (@ps_if _ _ _ _ _ _ _ _ (@PW.pt _ _ _ (@pw_or _ _ _ _ _ _ _ (@pt_cmpR _ _ _ _ _ _ _ _ op_lt (@pv _ 2 _ _ (by rfl) (Or.inl rfl) (by decide) (by decide)) (@pe_int _ _ _ _) (nomark _)) (@pw_or _ _ _ _ _ _ _ (@pt_cmpR _ _ _ _ _ _ _ _ op_ge (@pv _ 2 _ _ (by rfl) (Or.inl rfl) (by decide) (by decide)) (@pe_callB _ _ _ _ _ _ _ _ _ (lenQ K) (by rfl) T.b.n_len PySem.boot_len (@pa_cons _ _ _ _ _ (@pv _ 0 _ _ (by rfl) (Or.inl rfl) (by decide) (by decide)) (@pa_nil _) (by rfl)) (by decide) (by decide) (by rfl) (by rfl)) (nomark _)) (@pw_or1 _ _ _ _ (@pt_cmpR _ _ _ _ _ _ _ _ (inD K hr) (@pv _ 2 _ _ (by rfl) (Or.inl rfl) (by decide) (by decide)) (@pv _ 3 _ _ (by rfl) (Or.inl rfl) (by decide) (by decide)) (by with_unfolding_all rfl)))))) (@pss_one _ _ _ (@ps_ret _ _ _ _ (@pe_bl _ _ _ _))) (@pss_nil _)) (@pss_cons _ _ _ _ _ (@ps_expr _ _ _ _ (@pe_bm _ _ _ _ _ _ _ _ _ _ _ _ PySem.F.plainAttrs_list PySem.F.slot_list_append PySem.F.type_list_append mt_append (@pv _ 3 _ _ (by rfl) (Or.inl rfl) (by decide) (by decide)) (@pa_cons _ _ _ _ _ (@pv _ 2 _ _ (by rfl) (Or.inl rfl) (by decide) (by decide)) (@pa_nil _) (by rfl)) (by rfl) (by rfl) (by rfl) (by rfl) (by rfl)) (by rfl)) (@pss_one _ _ _ (@ps_ret _ _ _ _ (@pe_bl _ _ _ _))))) (@pss_nil _)) (@pss_cons _ _ _ _ _ (@ps_if _ _ _ _ _ _ _ _ (@PW.pt _ _ _ (@pw_or _ _ _ _ _ _ _ (@pt_not _ _ _ _ (@pt_val _ _ _ (@pe_callB _ _ _ _ _ _ _ _ _ (isiQ K) (by rfl) T.b.n_isinstance boot_isinstance (@pa_cons _ _ _ _ _ (@pv _ 2 _ _ (by rfl) (Or.inl rfl) (by decide) (by decide)) (@pa_cons _ _ _ _ _ (@pe_ty _ _ _ _ T.b.n_tuple boot_tuple (by rfl) (by decide) (by decide)) (@pa_nil _) (by rfl)) (by rfl)) (by decide) (by decide) (by rfl) (by rfl)) (by intro _; rfl))) (@pw_or _ _ _ _ _ _ _ (@pt_cmpR _ _ _ _ _ _ _ _ op_lt (@pe_callB _ _ _ _ _ _ _ _ _ (lenQ K) (by rfl) T.b.n_len PySem.boot_len (@pa_cons _ _ _ _ _ (@pv _ 2 _ _ (by rfl) (Or.inl rfl) (by decide) (by decide)) (@pa_nil _) (by rfl)) (by decide) (by decide) (by rfl) (by rfl)) (@pe_int _ _ _ _) (nomark _)) (@pw_or1 _ _ _ _ (@pt_cmpR _ _ _ _ _ _ _ _ op_gt (@pe_callB _ _ _ _ _ _ _ _ _ (lenQ K) (by rfl) T.b.n_len PySem.boot_len (@pa_cons _ _ _ _ _ (@pv _ 2 _ _ (by rfl) (Or.inl rfl) (by decide) (by decide)) (@pa_nil _) (by rfl)) (by decide) (by decide) (by rfl) (by rfl)) (@pv _ 1 _ _ (by rfl) (Or.inl rfl) (by decide) (by decide)) (nomark _)))))) (@pss_one _ _ _ (@ps_ret _ _ _ _ (@pe_bl _ _ _ _))) (@pss_nil _)) (@pss_cons _ _ _ _ _ (@ps_for _ _ _ _ _ _ _ _ PassesOwn.never rfl (@iT _ K _ _ _ (@pv _ 2 _ _ (by rfl) (Or.inl rfl) (by decide) (by decide)) (by rfl)) (@pg_name _ _ 4 _ sc_finds_rows.nd rfl (Or.inl rfl) (by first | exact .inl rfl | exact .inr rfl)) (@pss_one _ _ _ (@ps_if _ _ _ _ _ _ _ _ (@pt_not _ _ _ _ (@pt_val _ _ _ (@pe_df _ _ _ _ _ _ _ _ _ _ _ f_finds_rows hr (@pa_cons _ _ _ _ _ (@pv _ 0 _ _ (by rfl) (Or.inl rfl) (by decide) (by decide)) (@pa_cons _ _ _ _ _ (@pv _ 1 _ _ (by rfl) (Or.inl rfl) (by decide) (by decide)) (@pa_cons _ _ _ _ _ (@pv _ 4 _ _ (by rfl) (Or.inl rfl) (by decide) (by decide)) (@pa_cons _ _ _ _ _ (@pv _ 3 _ _ (by rfl) (Or.inl rfl) (by decide) (by decide)) (@pa_nil _) (by rfl)) (by rfl)) (by rfl)) (by rfl)) (by first | decide | exact Nat.le_refl _ | omega) (by rfl) (by decide) (by rfl) (by rfl)) (by intro _; rfl))) (@pss_one _ _ _ (@ps_ret _ _ _ _ (@pe_bl _ _ _ _))) (@pss_nil _))) (by intro _; rfl)) (@pss_one _ _ _ (@ps_ret _ _ _ _ (@pe_bl _ _ _ _)))))), ?_⟩
    cases hT with
    | leaf k =>
      have nk : k ∉ fs := fun h => by
        have := (List.nodup_append.mp nd).2.2 k h k (by show k ∈ [k]; simp)
        exact this rfl
      have l1 : (fs ++ [k]).length ≤ 12 := l12
      have l1 : fs.length + 1 ≤ 12 := by simpa using l1
      have hok : 0 ≤ k ∧ k < (ns.length : Nat) := hok
      have hls : (((ns.map V.int).length : Nat) : Int) = (ns.length : Int) := by rw [List.length_map]
      refine ⟨_, rfl, .inl ⟨k, rfl, _, rfl, iteT ?_⟩⟩
      refine ⟨_, rfl, _, _, rfl, rfl, _, rfl, iteDN (by omega) ⟨_, rfl, _, rfl, a, _, rfl, .inl (SqL.of hS), _, _, rfl, rfl, _, rfl, iteDN (by rw [hls]; omega) ?_⟩⟩
      refine ⟨_, rfl, _, rfl, fo, _, fs.map PyData.int, .int k, rfl, SqL.of hF, dv_ints fs, .int k, lay_ints fs, (by simp [SeqAt.shaped, PyData.canLay0, PyData.depth]), (by simp [PyData.depth]), _, rfl, ?_⟩
      rw [in_no nk]
      refine iteF ⟨_, rfl, .inl ⟨rfl, _, SqL.of hF⟩, _, rfl, fo, _, _, rfl, rfl, hF, (by rw [List.length_map]; exact small1000 (by omega)), ?_⟩
      refine q _ ?_ fun b o hb nb => ?_
      · rw [upd_same, List.map_append]; rfl
      · rw [upd_ne nb]; exact hb
    | node h hs =>
      rename_i b xs l
      have hpl : 2 ≤ l.length ∧ l.length ≤ wy ∧ tPls wy l := hpl
      have hxl := hs.len
      refine ⟨_, rfl, .inr ⟨b, xs, rfl, h, _, rfl, iteF ?_⟩⟩
      refine ⟨_, rfl, _, "tuple", _, _, rfl, .tup h, k_tup_tup K, _, rfl, ?_⟩
      refine iteF ⟨_, rfl, b, _, rfl, .inr (SqT.of h), _, _, rfl, rfl, _, rfl, iteDN (by omega) ⟨_, rfl, b, _, rfl, .inr (SqT.of h), _, rfl, _, _, rfl, rfl, _, rfl, iteDN (by omega) ?_⟩⟩
      refine ⟨_, rfl, b, rfl, ⟨_, SqT.of h⟩, ?_⟩
      have hlv : tLv (.node l) = tLvs l := rfl
      rw [hlv] at nd l12 q
      refine for_tup (K := K) (a := b) (xs := xs) (fun i σ H2 => ∃ v : Option V, σ = [some (.ref a), some (.int wy), some (.ref b), some (.ref fo), v] ∧ i ≤ xs.length ∧ H2 fo = some (.lst ((fs ++ tLvs (l.take i)).map V.int)) ∧ (∀ c o, H c = some o → c ≠ fo → H2 c = some o)) ⟨_, rfl, Nat.zero_le _, ?_, fun c o hc _ => hc⟩ (fun _ _ _ _ ⟨_, _, _, _, k2⟩ => SqT.of (k2 _ _ h (ne_of h hF fun z => nomatch z))) ?_ ?_
      · rw [List.take_zero]; show H fo = some (.lst ((fs ++ []).map V.int)); rw [List.append_nil]; exact hF
      · rintro i x σ H2 hx ⟨v, rfl, hi, hF2, k2⟩
        obtain ⟨t, ht, hv⟩ := hs.at hx
        have hil := (List.getElem?_eq_some_iff.mp hx).1
        have hd' : tDps l + 1 < n + 1 := hdp
        have hd2 := tDps_at l i t ht
        have elv : tLvs (l.take (i + 1)) = tLvs (l.take i) ++ tLv t := by rw [List.take_add_one, ht, tLvs_app]; show _ ++ (tLv t ++ []) = _; rw [List.append_nil]
        have esp : tLvs l = tLvs (l.take (i + 1)) ++ tLvs (l.drop (i + 1)) := by rw [← tLvs_app, List.take_append_drop]
        rw [esp, elv, ← List.append_assoc, ← List.append_assoc] at nd l12
        have nd2 := (List.nodup_append.mp nd).1
        have l2 : (fs ++ tLvs (l.take i) ++ tLv t).length ≤ 12 := by rw [List.length_append] at l12; omega
        have tup2 : ∀ c ys, H c = some (.tup ys) → H2 c = some (.tup ys) := fun c ys hc => k2 c _ hc (ne_of hc hF fun z => nomatch z)
        refine ⟨_, rfl, _, rfl, _, rfl, _, rfl, a, fo, ns, fs ++ tLvs (l.take i), wy, x, t, rfl, k2 _ _ hS naf, hF2, naf, n12, hv.mono tup2, (tPls_iff _ _).mp hpl.2.2 t (List.mem_of_getElem? ht), tOks_at _ l i t hok ht, by omega, w6, nd2, l2, fun H3 hF3 k3 => ⟨_, rfl, ?_⟩⟩
        refine iteF ⟨_, rfl, hil, ?_, fun c o hc nc => k3 c o (k2 c o hc nc) nc⟩
        rw [elv, ← List.append_assoc]; exact hF3
      · rintro σ H2 ⟨v, rfl, hi, hF2, k2⟩
        rw [hxl, List.take_of_length_le (Nat.le_refl _)] at hF2
        exact q H2 hF2 k2
def keyD : Key → PyData
  | .inl i => .int i
  | .inr s => .str s
def tD (k : List Key) : PyData := .tuple (k.map keyD)
theorem dv_keys {K : PySem.W.Frag} {H : Hp} : ∀ ks : List Key, DVs K H (ks.map kV) (ks.map keyD)
  | [] => .nil
  | .inl i :: r => .cons (.int i) (dv_keys r)
  | .inr s :: r => .cons (.str s) (dv_keys r)
theorem dv_tups {K : PySem.W.Frag} {H : Hp} : ∀ ts : TupL, AtT H ts → DVs K H (refs ts) (ts.map fun t => tD t.2)
  | [], _ => .nil
  | t :: r, h => .cons (.tup (SqT.of (h t (by simp))) (dv_keys t.2)) (dv_tups r fun x hx => h x (List.mem_cons_of_mem _ hx))
def lmin : List Int → Int
  | [] => 0
  | [x] => x
  | x :: y :: r => min x (lmin (y :: r))
theorem lmin_spec : ∀ l : List Int, l ≠ [] → lmin l ∈ l ∧ ∀ a ∈ l, lmin l ≤ a
  | [], h => absurd rfl h
  | [x], _ => ⟨List.mem_singleton.mpr rfl, fun a h => by rw [List.mem_singleton.mp h]; exact Int.le_refl _⟩
  | x :: y :: r, _ => by
    obtain ⟨a, b⟩ := lmin_spec (y :: r) (by simp)
    show min x (lmin (y :: r)) ∈ _ ∧ ∀ a ∈ _, min x (lmin (y :: r)) ≤ a
    refine ⟨?_, fun c hc => ?_⟩
    · by_cases h : x ≤ lmin (y :: r)
      · rw [Int.min_eq_left h]; exact List.mem_cons_self ..
      · rw [Int.min_eq_right (by omega)]; exact List.mem_cons_of_mem _ a
    · rcases List.mem_cons.mp hc with rfl | hc
      · omega
      · have := b c hc; omega
theorem lmin_one {l : List Int} {M : Int} (h : M ∈ l) (g : ∀ a ∈ l, M ≤ a) : M = lmin l := by
  have hne : l ≠ [] := fun z => by rw [z] at h; cases h
  obtain ⟨a, b⟩ := lmin_spec l hne
  exact Int.le_antisymm (g _ a) (b _ h)
def mids (b e : Nat) : List Nat := (List.range (e - b - 1)).map fun i => b + 1 + i
theorem mids_mem {b e m : Nat} : m ∈ mids b e ↔ b < m ∧ m < e := by
  unfold mids
  rw [List.mem_map]
  constructor
  · rintro ⟨i, hi, rfl⟩
    have := List.mem_range.mp hi
    omega
  · rintro ⟨h1, h2⟩
    exact ⟨m - b - 1, List.mem_range.mpr (by omega), by omega⟩
def psF (g c : Nat → Nat → Int) (b e : Nat) : List Int := (mids b e).map fun m => g b m + c m e
def cutS (g : Nat → Nat → Int) : Nat → Nat → Nat → Int
  | 0, b, e => g b e
  | k + 1, b, e => lmin (g b e :: psF g (cutS g k) b e)
def mostF (ns : List Int) (g : Nat → Nat → Int) (wy b e : Nat) : Int := if e - b = 1 then 0 else seg ns b e + lmin (psF g (cutS g (wy - 2)) b e)
theorem psF_congr {g g' c c' : Nat → Nat → Int} {b e : Nat} (h : ∀ m, b < m → m < e → g b m = g' b m ∧ c m e = c' m e) : psF g c b e = psF g' c' b e := by
  unfold psF
  exact List.map_congr_left fun m hm => by obtain ⟨h1, h2⟩ := mids_mem.mp hm; rw [(h m h1 h2).1, (h m h1 h2).2]
theorem cutS_congr {g g' : Nat → Nat → Int} : ∀ (k b e : Nat), (∀ x y, b ≤ x → x < y → y ≤ e → g x y = g' x y) → b < e → cutS g k b e = cutS g' k b e
  | 0, b, e, h, hb => h b e (Nat.le_refl _) hb (Nat.le_refl _)
  | k + 1, b, e, h, hb => by
    show lmin (g b e :: psF g (cutS g k) b e) = lmin (g' b e :: psF g' (cutS g' k) b e)
    rw [h b e (Nat.le_refl _) hb (Nat.le_refl _), psF_congr fun m h1 h2 => ⟨h b m (Nat.le_refl _) h1 (Nat.le_of_lt h2), cutS_congr k m e (fun x y a1 a2 a3 => h x y (by omega) a2 a3) h2⟩]
theorem cut_gc {ns : List Int} {w n : Nat} {pf c : Nat → Nat → Int} (hP : ∀ b e, b < e → e ≤ n → ∃ t, Gr ns w b e 1 (pf b e) [t]) (m : Nat) (hm : 2 ≤ m) (b e : Nat) (hbe : b + 1 < e) (he : e ≤ n) (hC : ∀ k, b < k → k < e → ∃ u, Gr ns w k e (m - 1) (c k e) u) {M : Int} (hM : M ∈ psF pf c b e) (hle : ∀ a ∈ psF pf c b e, M ≤ a) : ∃ ts, Gc ns w b e m M ts := by
  obtain ⟨mid, hmid, rfl⟩ := List.mem_map.mp hM
  obtain ⟨h1, h2⟩ := mids_mem.mp hmid
  obtain ⟨t, g1⟩ := hP b mid h1 (by omega)
  obtain ⟨u, g2⟩ := hC mid h1 h2
  refine ⟨[t] ++ u, gr_cut hm h1 h2 g1 g2 (fun k q1 q2 u1 u2 k1 k2 f1 f2 => ?_) fun k k1 k2 => ?_⟩
  · obtain ⟨t', g1'⟩ := hP b k k1 (by omega)
    obtain ⟨u', g2'⟩ := hC k k1 k2
    rw [gr_alone f1 g1', gr_alone f2 g2']
    exact hle _ (List.mem_map.mpr ⟨k, mids_mem.mpr ⟨k1, k2⟩, rfl⟩)
  · obtain ⟨t', g1'⟩ := hP b k k1 (by omega)
    obtain ⟨u', g2'⟩ := hC k k1 k2
    exact ⟨_, _, _, _, g1', g2'⟩
theorem cutS_gr {ns : List Int} {w n : Nat} {pf : Nat → Nat → Int} (hP : ∀ b e, b < e → e ≤ n → ∃ t, Gr ns w b e 1 (pf b e) [t]) : ∀ (k b e : Nat), b < e → e ≤ n → ∃ ts, Gr ns w b e (k + 1) (cutS pf k b e) ts
  | 0, b, e, hb, he => by obtain ⟨t, g⟩ := hP b e hb he; exact ⟨[t], g⟩
  | k + 1, b, e, hb, he => by
    obtain ⟨t, g0⟩ := hP b e hb he
    show ∃ ts, Gr ns w b e (k + 1 + 1) (lmin (pf b e :: psF pf (cutS pf k) b e)) ts
    by_cases h1 : e = b + 1
    · subst h1
      have : psF pf (cutS pf k) b (b + 1) = [] := by unfold psF mids; rw [show b + 1 - b - 1 = 0 by omega]; rfl
      rw [this]
      exact ⟨[t], gr_one g0 (by omega)⟩
    · have hne : psF pf (cutS pf k) b e ≠ [] := by
        have : pf b (b + 1) + cutS pf k (b + 1) e ∈ psF pf (cutS pf k) b e := List.mem_map.mpr ⟨b + 1, mids_mem.mpr ⟨by omega, by omega⟩, rfl⟩
        exact fun z => by rw [z] at this; cases this
      obtain ⟨c1, c2⟩ := lmin_spec _ hne
      obtain ⟨ts, gc⟩ := cut_gc hP (k + 1 + 1) (by omega) b e (by omega) he (fun m a1 a2 => by obtain ⟨u, hu⟩ := cutS_gr hP k m e a2 he; exact ⟨u, hu⟩) c1 c2
      obtain ⟨b1, b2⟩ := gr_both (m := k + 1 + 1) (by omega) g0 gc
      by_cases hlt : lmin (psF pf (cutS pf k) b e) < pf b e
      · refine ⟨ts, ?_⟩
        have : lmin (pf b e :: psF pf (cutS pf k) b e) = lmin (psF pf (cutS pf k) b e) := (lmin_one (List.mem_cons_of_mem _ c1) fun a ha => by
          rcases List.mem_cons.mp ha with rfl | ha
          · omega
          · exact c2 a ha).symm
        rw [this]; exact b1 hlt
      · refine ⟨[t], ?_⟩
        have : lmin (pf b e :: psF pf (cutS pf k) b e) = pf b e := (lmin_one (List.mem_cons_self ..) fun a ha => by
          rcases List.mem_cons.mp ha with rfl | ha
          · exact Int.le_refl _
          · have := c2 a ha; omega).symm
        rw [this]; exact b2 hlt
theorem most_gr {ns : List Int} {w : Nat} {pf : Nat → Nat → Int} (h0 : ∀ v ∈ ns, 0 ≤ v) (w2 : 2 ≤ w) (hP : ∀ b e, b < e → e ≤ ns.length → ∃ t, Gr ns w b e 1 (pf b e) [t]) {b e : Nat} (hb : b < e) (he : e ≤ ns.length) : mostF ns pf w b e = pf b e := by
  unfold mostF
  obtain ⟨t, g⟩ := hP b e hb he
  by_cases h1 : e - b = 1
  · rw [if_pos h1]
    have : e = b + 1 := by omega
    subst this
    exact gr_alone (gr_leaf h0 w b 1 (Nat.le_refl 1)) g
  · rw [if_neg h1]
    have hne : psF pf (cutS pf (w - 2)) b e ≠ [] := by
      have : pf b (b + 1) + cutS pf (w - 2) (b + 1) e ∈ psF pf (cutS pf (w - 2)) b e := List.mem_map.mpr ⟨b + 1, mids_mem.mpr ⟨by omega, by omega⟩, rfl⟩
      exact fun z => by rw [z] at this; cases this
    obtain ⟨c1, c2⟩ := lmin_spec _ hne
    obtain ⟨ts, gc⟩ := cut_gc hP w w2 b e (by omega) he (fun m a1 a2 => by
      obtain ⟨u, hu⟩ := cutS_gr hP (w - 2) m e a2 he
      rw [show w - 2 + 1 = w - 1 by omega] at hu
      exact ⟨u, hu⟩) c1 c2
    have := gr_alone (gr_tree gc (by omega) he) g
    omega
theorem most_up {ns : List Int} {w : Nat} {pf g : Nat → Nat → Int} {b0 e0 : Nat} (h0 : ∀ v ∈ ns, 0 ≤ v) (w2 : 2 ≤ w) (hP : ∀ b e, b < e → e ≤ ns.length → ∃ t, Gr ns w b e 1 (pf b e) [t]) (hb : b0 < e0) (he : e0 ≤ ns.length) (hg : ∀ b e, ¬ (b = b0 ∧ e = e0) → g b e = pf b e) (hu : g b0 e0 = pf b0 e0 + 1) : mostF ns g w b0 e0 < g b0 e0 := by
  have h1 := most_gr h0 w2 hP hb he
  have e1 : mostF ns g w b0 e0 = mostF ns pf w b0 e0 := by
    unfold mostF
    rw [psF_congr fun m a1 a2 => ⟨hg b0 m (by omega), cutS_congr (w - 2) m e0 (fun x y x1 x2 x3 => hg x y (by omega)) a2⟩]
  omega
def kvsOf (n : Nat) (g : Nat → Nat → Int) : List (List Key × V) := (strsTo n n).map fun p => (q2 p, V.int (g p.1 p.2))
theorem strs_nd (n : Nat) : (strsTo n n).Nodup := (strs_pw n n).imp fun {a b} h e => by
  subst e
  rcases h with h | ⟨_, h⟩ <;> exact Nat.lt_irrefl _ h
theorem look_kv {g : Nat → Nat → Int} : ∀ {l : List (Nat × Nat)} {p : Nat × Nat}, p ∈ l → lookK (l.map fun p => (q2 p, V.int (g p.1 p.2))) (q2 p) = some (.int (g p.1 p.2))
  | [], p, h => by cases h
  | a :: l, p, h => by
    unfold lookK
    rw [List.map_cons, List.find?_cons]
    by_cases e : a = p
    · subst e; simp
    · have : ¬ q2 a = q2 p := fun z => e (by obtain ⟨h1, h2⟩ := Kp_inj z; exact Prod.ext h1 h2)
      simp only [this, decide_false]
      exact look_kv ((List.mem_cons.mp h).resolve_left fun z => e z.symm)
theorem look_kvN {g : Nat → Nat → Int} : ∀ {l : List (Nat × Nat)} {p : Nat × Nat}, p ∉ l → lookK (l.map fun p => (q2 p, V.int (g p.1 p.2))) (q2 p) = none
  | [], p, _ => rfl
  | a :: l, p, h => by
    unfold lookK
    rw [List.map_cons, List.find?_cons]
    have : ¬ q2 a = q2 p := fun z => h (by obtain ⟨h1, h2⟩ := Kp_inj z; rw [show a = p from Prod.ext h1 h2]; exact List.mem_cons_self ..)
    simp only [this, decide_false]
    exact look_kvN fun z => h (List.mem_cons_of_mem _ z)
theorem kvs_at {n b e : Nat} (g : Nat → Nat → Int) (hb : b < e) (he : e ≤ n) : lookK (kvsOf n g) (Kp b e) = some (.int (g b e)) := look_kv (p := (b, e)) (mem_strs.mpr ⟨hb, he⟩)
theorem mids_len (b e : Nat) : (mids b e).length = e - b - 1 := by unfold mids; rw [List.length_map, List.length_range]
def spStrO : Sp := fun vs H Q _ => ∃ (n : Nat), vs = [.int n] ∧ n ≤ 12 ∧
  ∀ (r : Addr) (ts : TupL) (H' : Hp), H r = none → H' r = some (.lst (refs ts)) → AtT H' ts → ts.map (·.2) = (strsTo n n).map q2 → Same H H' → Q (.ref r) H'
theorem ok_strO (T : Tops K mg) : Df P w K mg base 1 "stretches_of" ["many"] spStrO := by
  refine T.t_stretches_of.df sc_stretches_of (fun vs H Q E h => ?_) (fun cdv f A outer s H vs Q E hr h => ?_)
  · obtain ⟨n, rfl, _⟩ := h
    rfl
  obtain ⟨n, rfl, n12, q⟩ := h
  refine ⟨_, (@pss_one _ _ _ (@ps_ret _ _ _ _ (@pe_comp2 _ _ _ _ _ _ _ _ _ _ _ _ _ _ _ _ cs_6 rfl rfl rfl (@pi_range1 _ _ _ _ _ _ rfl T.b.n_range (@pa_cons _ _ _ _ _ (@pv _ 0 _ _ (by rfl) (Or.inr (Or.inl rfl)) (by decide) (by decide)) (@pa_nil _) (by rfl)) (by rfl)) (fun _ _ _ _ => (@cg _ _ _ _ _ _ _ _ _ _ _ 1 cs_6 rfl (by decide +kernel) (by rfl))) (fun _ _ _ _ => (@pi_range2 _ _ _ _ _ _ _ (comp_glob cs_6 rfl (by decide +kernel)) T.b.n_range (@pa_cons _ _ _ _ _ (@pe_op _ _ _ _ _ _ _ _ op_add (@cw _ _ _ _ _ _ _ _ _ _ _ 1 cs_6 rfl (by decide +kernel) (by rfl) (by decide) (by decide)) (@pe_int _ _ _ _)) (@pa_cons _ _ _ _ _ (@pe_op _ _ _ _ _ _ _ _ op_add (@cv _ _ _ _ _ _ _ _ _ _ _ 0 cs_6 rfl (by decide +kernel) (by rfl) (by decide) (by decide)) (@pe_int _ _ _ _)) (@pa_nil _) (by rfl)) (by rfl)) (by rfl) (by rfl))) (fun _ _ _ _ => (@cg _ _ _ _ _ _ _ _ _ _ _ 2 cs_6 rfl (by decide +kernel) (by rfl))) (fun _ _ _ _ => (@pe_tup _ _ _ _ _ (@pa_cons _ _ _ _ _ (@cw _ _ _ _ _ _ _ _ _ _ _ 1 cs_6 rfl (by decide +kernel) (by rfl) (by decide) (by decide)) (@pa_cons _ _ _ _ _ (@cw _ _ _ _ _ _ _ _ _ _ _ 2 cs_6 rfl (by decide +kernel) (by rfl) (by decide) (by decide)) (@pa_nil _) (by rfl)) (by rfl)))) (by intro _; rfl) (by intro _ _ _ _ _; rfl)))), ?_⟩
  refine ⟨_, rfl, _, rfl, by omega, by omega, fun D hD => ?_⟩
  rw [Int.toNat_natCast]
  refine comp2_range (fun b ys σ H2 => (∃ v1 v2 : Option V, σ = [some (.int (n : Int)), v1, v2]) ∧ (∃ ts : TupL, ys = refs ts ∧ AtT H2 ts ∧ ts.map (·.2) = (strsTo n b).map q2) ∧ b ≤ n ∧ H2 D = some (.lst ys) ∧ Same H H2) ?_ ?_ ?_
  · exact ⟨⟨none, none, rfl⟩, ⟨[], rfl, (fun t h => by cases h), rfl⟩, Nat.zero_le _, upd_same, same_new hD _⟩
  · rintro b ys σ H2 hb ⟨⟨v1, v2, rfl⟩, ⟨ts, rfl, hat, hE⟩, hb', hD2, s2⟩
    rw [show ((0 : Int) + (b : Int)) = (b : Int) by omega]
    refine ⟨_, rfl, _, _, rfl, rfl, _, rfl, _, _, rfl, rfl, _, _, rfl, ⟨by omega, by omega, by omega, by omega⟩, ?_⟩
    rw [show ((n : Int) + 1 - ((b : Int) + 1)).toNat = n - b by omega]
    refine inner_range (fun i ys σ H3 => (∃ v2 : Option V, σ = [some (.int (n : Int)), some (.int (b : Int)), v2]) ∧ (∃ ts : TupL, ys = refs ts ∧ AtT H3 ts ∧ ts.map (·.2) = (strsTo n b ++ (List.range i).map fun i => (b, b + 1 + i)).map q2) ∧ i ≤ n - b ∧ H3 D = some (.lst ys) ∧ Same H H3) ⟨⟨_, rfl⟩, ⟨ts, rfl, hat, by rw [hE]; simp⟩, Nat.zero_le _, hD2, s2⟩ ?_ ?_
    · rintro i ys σ H3 hi ⟨⟨v2', rfl⟩, ⟨ts3, rfl, hat3, hE3⟩, hi', hD3, s3⟩
      rw [show ((b : Int) + 1 + (i : Int)) = ((b + 1 + i : Nat) : Int) by omega]
      have htl : ts3.length ≤ 156 := by
        have h9 := congrArg List.length hE3
        rw [List.length_map, List.length_map, List.length_append, List.length_map, List.length_range] at h9
        have h8 := strsTo_len n b
        have h7 : n * b ≤ 12 * 12 := Nat.mul_le_mul n12 (by omega)
        omega
      refine ⟨_, rfl, _, rfl, (by show 2 ≤ sizeLine; decide), fun m hm => ?_⟩
      have sn := same_new hm (.tup [.int (b : Int), .int ((b + 1 + i : Nat) : Int)])
      have hD5 := sn _ _ hD3
      have nDn : D ≠ m := ne_of_none hD3 hm
      refine ⟨hD5, (by rw [refs_len]; exact small1000 (by omega)), ⟨_, rfl⟩, ⟨ts3 ++ [(m, q2 (b, b + 1 + i))], by unfold refs; rw [List.map_append]; rfl, fun t ht => ?_, ?_⟩, by omega, upd_same, fun b' o hb => ?_⟩
      · rcases List.mem_append.mp ht with ht | ht
        · exact tup_keep hD5 _ _ _ (sn _ _ (hat3 t ht))
        · rw [List.mem_singleton.mp ht, upd_ne nDn.symm]; exact upd_same
      · rw [List.map_append, hE3, List.range_succ]
        simp [List.map_append]
      · rw [upd_ne (ne_of_none hb hD)]; exact sn _ _ (s3 b' o hb)
    · rintro ys σ H3 ⟨⟨v2', rfl⟩, ⟨ts3, rfl, hat3, hE3⟩, _, hD3, s3⟩
      exact ⟨⟨_, _, rfl⟩, ⟨ts3, rfl, hat3, by rw [strsTo_succ]; exact hE3⟩, hb, hD3, s3⟩
  · rintro ys σ H2 ⟨⟨v1, v2, rfl⟩, ⟨ts, rfl, hat, hE⟩, _, hD2, s2⟩
    exact q D ts H2 hD hD2 hat hE s2
def spPS : Sp := fun vs H Q _ => ∃ (d c : Addr) (k1 k2 : List (List Key × V)) (b e : Nat) (g u : Nat → Nat → Int), vs = [.ref d, .ref c, .int b, .int e] ∧ L2.Rd H d (.dT k1) ∧ L2.Rd H c (.dT k2) ∧ b < e ∧ e ≤ 12 ∧ (∀ m, b < m → m < e → lookK k1 (Kp b m) = some (.int (g b m)) ∧ lookK k2 (Kp m e) = some (.int (u m e))) ∧
  ∀ (r : Addr) (H' : Hp), H r = none → H' r = some (.lst ((psF g u b e).map V.int)) → Same H H' → Q (.ref r) H'
theorem rd_same {H H' : Hp} {d : Addr} {o : HO} (h : L2.Rd H d o) (s : Same H H') : L2.Rd H' d o := by
  rcases h with h | ⟨u, h⟩
  · exact .inl (s _ _ h)
  · exact .inr ⟨u, s _ _ h⟩
theorem ok_ps (T : Tops K mg) : Df P w K mg base 1 "part_sums" ["priced", "cut", "begin", "end"] spPS := by
  refine T.t_part_sums.df sc_part_sums (fun vs H Q E h => ?_) (fun cdv f A outer s H vs Q E hr h => ?_)
  · obtain ⟨d, c, k1, k2, b, e, g, u, rfl, _⟩ := h
    rfl
  obtain ⟨d, c, k1, k2, b, e, g, u, rfl, hd, hc, hbe, he, hk, q⟩ := h
  refine ⟨_, (@pss_one _ _ _ (@ps_ret _ _ _ _ (@pe_comp _ _ _ _ _ _ _ _ _ _ _ _ _ _ cs_7 rfl rfl rfl (@pi_range2 _ _ _ _ _ _ _ rfl T.b.n_range (@pa_cons _ _ _ _ _ (@pe_op _ _ _ _ _ _ _ _ op_add (@pv _ 2 _ _ (by rfl) (Or.inr (Or.inl rfl)) (by decide) (by decide)) (@pe_int _ _ _ _)) (@pa_cons _ _ _ _ _ (@pv _ 3 _ _ (by rfl) (Or.inr (Or.inl rfl)) (by decide) (by decide)) (@pa_nil _) (by rfl)) (by rfl)) (by rfl) (by rfl)) (fun _ _ _ _ => (@cg _ _ _ _ _ _ _ _ _ _ _ 4 cs_7 rfl (by decide +kernel) (by rfl))) (fun _ _ _ _ => (@pts_nil _)) (fun _ _ _ _ => (@pe_op _ _ _ _ _ _ _ _ op_add (@pe_ix _ _ _ _ _ _ _ (@ixDR _ _ hr) (@cv _ _ _ _ _ _ _ _ _ _ _ 0 cs_7 rfl (by decide +kernel) (by rfl) (by decide) (by decide)) (@pe_tup _ _ _ _ _ (@pa_cons _ _ _ _ _ (@cv _ _ _ _ _ _ _ _ _ _ _ 2 cs_7 rfl (by decide +kernel) (by rfl) (by decide) (by decide)) (@pa_cons _ _ _ _ _ (@cw _ _ _ _ _ _ _ _ _ _ _ 4 cs_7 rfl (by decide +kernel) (by rfl) (by decide) (by decide)) (@pa_nil _) (by rfl)) (by rfl))) (fun _ _ => rfl)) (@pe_ix _ _ _ _ _ _ _ (@ixDR _ _ hr) (@cv _ _ _ _ _ _ _ _ _ _ _ 1 cs_7 rfl (by decide +kernel) (by rfl) (by decide) (by decide)) (@pe_tup _ _ _ _ _ (@pa_cons _ _ _ _ _ (@cw _ _ _ _ _ _ _ _ _ _ _ 4 cs_7 rfl (by decide +kernel) (by rfl) (by decide) (by decide)) (@pa_cons _ _ _ _ _ (@cv _ _ _ _ _ _ _ _ _ _ _ 3 cs_7 rfl (by decide +kernel) (by rfl) (by decide) (by decide)) (@pa_nil _) (by rfl)) (by rfl))) (fun _ _ => rfl)))) (by intro _; rfl)))), ?_⟩
  refine ⟨_, rfl, _, _, rfl, rfl, _, rfl, _, _, rfl, ⟨by omega, by omega, by omega, by omega⟩, fun D hD => ?_⟩
  rw [show ((e : Int) - ((b : Int) + 1)).toNat = e - b - 1 by omega]
  refine comp_range (fun i ys σ H2 => (∃ v : Option V, σ = [some (.ref d), some (.ref c), some (.int b), some (.int e), v]) ∧ ys = (((mids b e).take i).map fun m => g b m + u m e).map V.int ∧ H2 D = some (.lst ys) ∧ i ≤ e - b - 1 ∧ Same H H2) ⟨⟨none, rfl⟩, rfl, upd_same, Nat.zero_le _, same_new hD _⟩ ?_ ?_
  · rintro i ys σ H2 hi ⟨⟨v, rfl⟩, rfl, hD2, _, s2⟩
    rw [show ((b : Int) + 1 + (i : Int)) = ((b + 1 + i : Nat) : Int) by omega]
    have hm : (mids b e)[i]? = some (b + 1 + i) := by unfold mids; rw [List.getElem?_map, List.getElem?_range hi]; rfl
    obtain ⟨x1, x2⟩ := hk (b + 1 + i) (by omega) (by omega)
    refine ⟨_, rfl, _, rfl, _, rfl, (by show 2 ≤ sizeLine; decide), fun p1 hp1 => ?_⟩
    have s3 := same_new hp1 (.tup ((Kp b (b + 1 + i)).map kV))
    have f3 : (upd H2 p1 (.tup ((Kp b (b + 1 + i)).map kV))) p1 = some (.tup ((Kp b (b + 1 + i)).map kV)) := upd_same
    change rIxDR _ _ (upd H2 p1 (.tup ((Kp b (b + 1 + i)).map kV))) _
    generalize upd H2 p1 (.tup ((Kp b (b + 1 + i)).map kV)) = H3 at s3 f3 ⊢
    refine ⟨d, k1, p1, _, _, rfl, rfl, rd_same hd (s2.trans s3), f3, x1, ?_⟩
    refine ⟨_, rfl, _, rfl, _, rfl, (by show 2 ≤ sizeLine; decide), fun p2 hp2 => ?_⟩
    have s4 := same_new hp2 (.tup ((Kp (b + 1 + i) e).map kV))
    have f4 : (upd H3 p2 (.tup ((Kp (b + 1 + i) e).map kV))) p2 = some (.tup ((Kp (b + 1 + i) e).map kV)) := upd_same
    change rIxDR _ _ (upd H3 p2 (.tup ((Kp (b + 1 + i) e).map kV))) _
    generalize upd H3 p2 (.tup ((Kp (b + 1 + i) e).map kV)) = H4 at s4 f4 ⊢
    have s24 := s3.trans s4
    refine ⟨c, k2, p2, _, _, rfl, rfl, rd_same hc (s2.trans s24), f4, x2, _, _, rfl, rfl, ?_⟩
    have hD4 := s24 _ _ hD2
    refine ⟨hD4, by rw [List.length_map, List.length_map, List.length_take, mids_len]; exact small1000 (by omega), ⟨_, rfl⟩, ?_, upd_same, hi, fun x o hx => ?_⟩
    · rw [List.take_add_one, hm, List.map_append, List.map_append]; rfl
    · rw [upd_ne (ne_of_none hx hD)]; exact s24 _ _ (s2 x o hx)
  · rintro ys σ H2 ⟨⟨v, rfl⟩, rfl, hD2, _, s2⟩
    rw [show e - b - 1 = (mids b e).length by rw [mids_len], List.take_of_length_le (Nat.le_refl _)] at hD2
    exact q D H2 hD hD2 s2
theorem kvs_snoc {n i : Nat} {g : Nat → Nat → Int} {p : Nat × Nat} (h : (strsTo n n)[i]? = some p) : ((strsTo n n).take (i + 1)).map (fun p => (q2 p, V.int (g p.1 p.2))) = ((strsTo n n).take i).map (fun p => (q2 p, V.int (g p.1 p.2))) ++ [(q2 p, V.int (g p.1 p.2))] := by
  rw [List.take_add_one, h, List.map_append]; rfl
theorem strs_new {n i : Nat} {p : Nat × Nat} (h : (strsTo n n)[i]? = some p) : p ∉ (strsTo n n).take i := fun hm => by
  obtain ⟨j, hj, e⟩ := List.getElem_of_mem hm
  obtain ⟨hi, e2⟩ := List.getElem?_eq_some_iff.mp h
  rw [List.length_take] at hj
  rw [List.getElem_take] at e
  have := List.pairwise_iff_getElem.mp (strs_nd n) j i (by omega) hi (by omega)
  rw [e, e2] at this
  exact this rfl
def spCutP : Sp := fun vs H Q _ => ∃ (d : Addr) (n wy : Nat) (g : Nat → Nat → Int), vs = [.ref d, .int ((wy : Int) - 1)] ∧ H d = some (.dT (kvsOf n g)) ∧ n ≤ 12 ∧ 2 ≤ wy ∧ wy ≤ 6 ∧
  ∀ (c : Addr) (H' : Hp), H' c = some (.dT (kvsOf n (cutS g (wy - 2)))) → Same H H' → Q (.ref c) H'
theorem ok_cutP (T : Tops K mg) (f_part_sums : Df P w K mg base 1 "part_sums" ["priced", "cut", "begin", "end"] spPS) : Df P w K mg base 2 "cut_prices" ["priced", "most"] spCutP := by
  refine T.t_cut_prices.df sc_cut_prices (fun vs H Q E h => ?_) (fun cdv f A outer s H vs Q E hr h => ?_)
  · obtain ⟨d, n, wy, g, rfl, _⟩ := h
    rfl
  obtain ⟨d, n, wy, g, rfl, hd, n12, w2, w6, q⟩ := h
  refine ⟨_, (@pss_cons _ _ _ _ _ (@ps_set _ _ 2 _ _ _ _ sc_cut_prices.nd rfl (Or.inr rfl) (@pv _ 0 _ _ (by rfl) (Or.inr (Or.inl rfl)) (by decide) (by decide)) (by rfl) (by first | exact .inl rfl | exact .inr rfl)) (@pss_cons _ _ _ _ _ (@ps_for _ _ _ _ _ _ _ _ PassesOwn.never rfl (@pi_range2 _ _ _ _ _ _ _ rfl T.b.n_range (@pa_cons _ _ _ _ _ (@pe_int _ _ _ _) (@pa_cons _ _ _ _ _ (@pe_op _ _ _ _ _ _ _ _ op_add (@pv _ 1 _ _ (by rfl) (Or.inl rfl) (by decide) (by decide)) (@pe_int _ _ _ _)) (@pa_nil _) (by rfl)) (by rfl)) (by rfl) (by rfl)) (@pg_name _ _ 3 _ sc_cut_prices.nd rfl (Or.inl rfl) (by first | exact .inl rfl | exact .inr rfl)) (@pss_one _ _ _ (@ps_set _ _ 2 _ _ _ _ sc_cut_prices.nd rfl (Or.inr rfl) (@pe_thaw _ _ _ (@pe_dcomp _ _ _ _ _ _ _ _ _ _ _ _ _ _ _ _ cs_8 rfl rfl rfl (@pi_itemsT _ _ _ _ _ _ _ _ (@pv _ 0 _ _ (by rfl) (Or.inr (Or.inl rfl)) (by decide) (by decide)) (by rfl) (by rfl)) (fun _ _ _ _ => (@gT _ K _ _ _ 2 _ (@pgs_cons _ _ _ _ _ (@gT _ K _ _ _ 2 _ (@pgs_cons _ _ _ _ _ (@cg _ _ _ _ _ _ _ _ _ _ _ 5 cs_8 rfl (by decide +kernel) (by rfl)) (@pgs_cons _ _ _ _ _ (@cg _ _ _ _ _ _ _ _ _ _ _ 6 cs_8 rfl (by decide +kernel) (by rfl)) (@pgs_nil _) (by rfl)) (by rfl)) (by rfl) (by rfl) (by rfl) (by rfl)) (@pgs_cons _ _ _ _ _ (@cg _ _ _ _ _ _ _ _ _ _ _ 4 cs_8 rfl (by decide +kernel) (by rfl)) (@pgs_nil _) (by rfl)) (by rfl)) (by rfl) (by rfl) (by rfl) (by rfl))) (fun _ _ _ _ => (@pts_nil _)) (fun _ _ _ _ => (@pe_tup _ _ _ _ _ (@pa_cons _ _ _ _ _ (@cw _ _ _ _ _ _ _ _ _ _ _ 5 cs_8 rfl (by decide +kernel) (by rfl) (by decide) (by decide)) (@pa_cons _ _ _ _ _ (@cw _ _ _ _ _ _ _ _ _ _ _ 6 cs_8 rfl (by decide +kernel) (by rfl) (by decide) (by decide)) (@pa_nil _) (by rfl)) (by rfl)))) (fun _ _ _ _ => (@pe_callB _ _ _ _ _ _ _ _ _ (minL K) (comp_glob cs_8 rfl (by decide +kernel)) T.b.n_min boot_min (@pa_cons _ _ _ _ _ (@pe_op _ _ _ _ _ _ _ _ op_cat (@pe_lst _ _ _ _ (@pa_cons _ _ _ _ _ (@cw _ _ _ _ _ _ _ _ _ _ _ 4 cs_8 rfl (by decide +kernel) (by rfl) (by decide) (by decide)) (@pa_nil _) (by rfl))) (@pe_df _ _ _ _ _ _ _ _ _ _ _ f_part_sums hr (@pa_cons _ _ _ _ _ (@cv _ _ _ _ _ _ _ _ _ _ _ 0 cs_8 rfl (by decide +kernel) (by rfl) (by decide) (by decide)) (@pa_cons _ _ _ _ _ (@cv _ _ _ _ _ _ _ _ _ _ _ 2 cs_8 rfl (by decide +kernel) (by rfl) (by decide) (by decide)) (@pa_cons _ _ _ _ _ (@cw _ _ _ _ _ _ _ _ _ _ _ 5 cs_8 rfl (by decide +kernel) (by rfl) (by decide) (by decide)) (@pa_cons _ _ _ _ _ (@cw _ _ _ _ _ _ _ _ _ _ _ 6 cs_8 rfl (by decide +kernel) (by rfl) (by decide) (by decide)) (@pa_nil _) (by rfl)) (by rfl)) (by rfl)) (by rfl)) (by first | decide | exact Nat.le_refl _ | omega) (comp_glob cs_8 rfl (by decide +kernel)) (by decide) (by rfl) (by rfl))) (@pa_nil _) (by rfl)) (by decide) (by decide) (by rfl) (by rfl))) (Room.units hr) (by intro _; rfl))) (by rfl) (by first | exact .inl rfl | exact .inr rfl))) (by intro _; rfl)) (@pss_one _ _ _ (@ps_ret _ _ _ _ (@pv _ 2 _ _ (by rfl) (Or.inr (Or.inl rfl)) (by decide) (by decide)))))), ?_⟩
  refine ⟨_, rfl, _, rfl, _, _, rfl, rfl, _, _, rfl, ⟨by omega, by omega, by omega, by omega⟩, ?_⟩
  rw [show ((wy : Int) - 1 + 1 - 2).toNat = wy - 2 by omega]
  refine for_range (fun i σ H2 => ∃ (c : Addr) (v : Option V), σ = [some (.ref d), some (.int ((wy : Int) - 1)), some (.ref c), v] ∧ H2 c = some (.dT (kvsOf n (cutS g i))) ∧ Same H H2) ⟨d, none, rfl, hd, Same.refl H⟩ ?_ ?_
  · rintro i σ H2 hi ⟨c, v, rfl, hc, s2⟩
    have hd2 := s2 _ _ hd
    refine ⟨d, _, hd2, True.intro, _, rfl, d, _, rfl, hd2, fun o D hD => ?_⟩
    have hds : ∀ x u, H2 x = some u → x ≠ d → (upd H2 d (.frz o (.dT (kvsOf n g)))) x = some u := fun x u hx nx => by rw [upd_ne nx]; exact hx
    have hf : (upd H2 d (.frz o (.dT (kvsOf n g)))) d = some (.frz o (.dT (kvsOf n g))) := upd_same
    have hcr : L2.Rd (upd H2 d (.frz o (.dT (kvsOf n g)))) c (.dT (kvsOf n (cutS g i))) := by
      by_cases e : c = d
      · subst e
        rw [hd2] at hc
        injection hc with hc
        injection hc with hc
        rw [← hc]; exact .inr ⟨o, hf⟩
      · exact .inl (hds _ _ hc e)
    generalize hH3 : upd H2 d (.frz o (.dT (kvsOf n g))) = H3 at hD hds hf hcr ⊢
    have nDd : d ≠ D := ne_of_none hf hD
    have lK : (kvsOf n g).length = (strsTo n n).length := by unfold kvsOf; rw [List.length_map]
    have l144 := strs_le n12
    refine dict_itemsT (fun j ys σ H4 => (∃ v1 v2 v3 : Option V, σ = [some (.ref d), some (.int ((wy : Int) - 1)), some (.ref c), some (.int (2 + (i : Int))), v1, v2, v3]) ∧ ys = ((strsTo n n).take j).map (fun p => (q2 p, V.int (cutS g (i + 1) p.1 p.2))) ∧ H4 D = some (.dT ys) ∧ j ≤ (strsTo n n).length ∧ Same H3 H4) ⟨⟨none, none, none, rfl⟩, rfl, upd_same, Nat.zero_le _, same_new hD _⟩ (fun _ _ _ _ h => h.2.2.2.2 _ _ hf) ?_ ?_
    · rintro j ks x ys σ H4 p b hj ⟨⟨v1, v2, v3, rfl⟩, rfl, hD4, _, s4⟩ hp hb
      unfold kvsOf at hj
      rw [List.getElem?_map] at hj
      cases hpj : (strsTo n n)[j]? with
      | none => rw [hpj] at hj; cases hj
      | some pr =>
      rw [hpj] at hj
      cases hj
      obtain ⟨x, y⟩ := pr
      have hjl := (List.getElem?_eq_some_iff.mp hpj).1
      obtain ⟨hxy, hyn⟩ := mem_strs.mp (List.mem_of_getElem? hpj)
      have s5 := same_new hp (.tup [.ref b, .int (g x y)])
      have f5 : (upd H4 p (.tup [.ref b, .int (g x y)])) p = some (.tup [.ref b, .int (g x y)]) := upd_same
      generalize upd H4 p (.tup [.ref b, .int (g x y)]) = H5 at s5 f5 ⊢
      have hb5 := s5 _ _ hb
      refine ⟨p, _, rfl, SqT.of f5, rfl, _, _, rfl, b, _, rfl, SqT.of hb5, rfl, _, _, rfl, _, _, rfl, rfl, _, _, rfl, rfl, ?_⟩
      refine ⟨_, rfl, _, rfl, (by show 2 ≤ sizeLine; decide), fun kp hkp => ?_⟩
      have s6 := same_new hkp (.tup ((q2 (x, y)).map kV))
      have f6 : (upd H5 kp (.tup ((q2 (x, y)).map kV))) kp = some (.tup ((q2 (x, y)).map kV)) := upd_same
      refine ⟨_, rfl, (by show 1 ≤ sizeLine; decide), fun l1 hl1 => ?_⟩
      change (upd H5 kp (.tup ((q2 (x, y)).map kV))) l1 = none at hl1
      have s7 := same_new hl1 (.lst [.int (g x y)])
      have f7 : (upd (upd H5 kp (.tup ((q2 (x, y)).map kV))) l1 (.lst [.int (g x y)])) l1 = some (.lst [.int (g x y)]) := upd_same
      have f67 := s7 _ _ f6
      have s37 : Same H3 (upd (upd H5 kp (.tup ((q2 (x, y)).map kV))) l1 (.lst [.int (g x y)])) := fun z o hz => s7 _ _ (s6 _ _ (s5 _ _ (s4 z o hz)))
      have hD7 := s7 _ _ (s6 _ _ (s5 _ _ hD4))
      change tCall spPS [] E0 _ _ (upd (upd H5 kp (.tup ((q2 (x, y)).map kV))) l1 (.lst [.int (g x y)])) _
      generalize upd (upd H5 kp (.tup ((q2 (x, y)).map kV))) l1 (.lst [.int (g x y)]) = H7 at s7 f7 f67 s37 hD7 ⊢
      refine ⟨_, rfl, _, rfl, _, rfl, _, rfl, d, c, _, _, x, y, g, cutS g i, rfl, rd_same (.inr ⟨o, hf⟩) s37, rd_same hcr s37, hxy, by omega, fun m m1 m2 => ⟨kvs_at g m1 (by omega), kvs_at (cutS g i) m2 hyn⟩, fun r H8 hr hr8 s8 => ?_⟩
      refine ⟨l1, r, _, _, rfl, rfl, s8 _ _ f7, hr8, by rw [List.length_map]; unfold psF; rw [List.length_map, mids_len, List.length_singleton, sizeLine_eq]; omega, fun p3 hp3 => ?_⟩
      have s9 := same_new hp3 (.lst ([.int (g x y)] ++ (psF g (cutS g i) x y).map V.int))
      have f9 : (upd H8 p3 (.lst ([.int (g x y)] ++ (psF g (cutS g i) x y).map V.int))) p3 = some (.lst ((g x y :: psF g (cutS g i) x y).map V.int)) := upd_same
      generalize upd H8 p3 (.lst ([.int (g x y)] ++ (psF g (cutS g i) x y).map V.int)) = H9 at s9 f9 ⊢
      refine ⟨p3, _, rfl, SqL.of f9, by simp, fun M hM hle => ?_⟩
      have eM : M = cutS g (i + 1) x y := lmin_one hM hle
      subst eM
      have hD9 := s9 _ _ (s8 _ _ hD7)
      refine ⟨kp, q2 (x, y), rfl, hD9, s9 _ _ (s8 _ _ f67), look_kvN (g := cutS g (i + 1)) (strs_new hpj), by rw [List.length_map, List.length_take, sizeLine_eq]; omega, ⟨_, _, _, rfl⟩, (kvs_snoc hpj).symm, upd_same, hjl, fun z u hz => ?_⟩
      rw [upd_ne (ne_of_none hz hD)]
      exact s9 _ _ (s8 _ _ (s37 z u hz))
    · rintro ys σ H4 ⟨⟨v1, v2, v3, rfl⟩, rfl, hD4, _, s4⟩
      rw [lK, List.take_of_length_le (Nat.le_refl _)] at hD4
      have hf4 := s4 _ _ hf
      refine ⟨o, hf4, D, _, rfl, by rw [upd_ne nDd.symm]; exact hD4, fun z u hz => ?_⟩
      have hz2 := s2 z u hz
      by_cases e : z = d
      · subst e
        rw [hd] at hz
        cases hz
        exact upd_same
      · rw [upd_ne e]; exact s4 _ _ (hds z u hz2 e)
  · rintro σ H2 ⟨c, v, rfl, hc, s2⟩
    exact ⟨_, rfl, q c H2 hc s2⟩
def spMost (K : PySem.W.Frag) : Sp := fun vs H Q _ => ∃ (a d c : Addr) (ns : List Int) (wy b e : Nat) (g : Nat → Nat → Int), vs = [.ref a, .ref d, .ref c, .int b, .int e] ∧ SqL K H a (ns.map V.int) ∧ ns.length ≤ 12 ∧ (∀ v ∈ ns, 0 ≤ v ∧ v ≤ 1000000000) ∧ H d = some (.dT (kvsOf ns.length g)) ∧ H c = some (.dT (kvsOf ns.length (cutS g (wy - 2)))) ∧ b < e ∧ e ≤ ns.length ∧
  ∀ (H' : Hp), Same H H' → Q (.int (mostF ns g wy b e)) H'
theorem cut_seg {ns : List Int} {b e : Nat} (hb : b ≤ e) (he : e ≤ ns.length) : cutV (ns.map V.int) (some (b : Int)) (some (e : Int)) = ((ns.drop b).take (e - b)).map V.int := by
  unfold cutV
  rw [HT.sIx_nat, HT.sIx_nat, List.length_map, Nat.min_eq_left (by omega), Nat.min_eq_left (by omega), List.map_take, List.map_drop]
theorem ok_most (T : Tops K mg) (f_part_sums : Df P w K mg base 1 "part_sums" ["priced", "cut", "begin", "end"] spPS) : Df P w K mg base 2 "most_price" ["sizes", "priced", "cut", "begin", "end"] (spMost K) := by
  refine T.t_most_price.df sc_most_price (fun vs H Q E h => ?_) (fun cdv f A outer s H vs Q E hr h => ?_)
  · obtain ⟨a, d, c, ns, wy, b, e, g, rfl, _⟩ := h
    rfl
  obtain ⟨a, d, c, ns, wy, b, e, g, rfl, hS, n12, hns, hd, hc, hbe, he, q⟩ := h
  refine ⟨_, (@pss_cons _ _ _ _ _ (@ps_if _ _ _ _ _ _ _ _ (@pt_cmpR _ _ _ _ _ _ _ _ op_eq (@pe_op _ _ _ _ _ _ _ _ op_sub (@pv _ 4 _ _ (by rfl) (Or.inl rfl) (by decide) (by decide)) (@pv _ 3 _ _ (by rfl) (Or.inl rfl) (by decide) (by decide))) (@pe_int _ _ _ _) (nomark _)) (@pss_one _ _ _ (@ps_ret _ _ _ _ (@pe_int _ _ _ _))) (@pss_nil _)) (@pss_one _ _ _ (@ps_ret _ _ _ _ (@pe_op _ _ _ _ _ _ _ _ op_add (@pe_callB _ _ _ _ _ _ _ _ _ (sumC K) (by rfl) T.b.n_sum boot_sum (@pa_cons _ _ _ _ _ (@pe_slice _ _ _ _ _ _ _ _ _ _ (slL K) (@pv _ 0 _ _ (by rfl) (Or.inl rfl) (by decide) (by decide)) (@po_some _ _ _ (@pv _ 3 _ _ (by rfl) (Or.inl rfl) (by decide) (by decide))) (@po_some _ _ _ (@pv _ 4 _ _ (by rfl) (Or.inl rfl) (by decide) (by decide)))) (@pa_nil _) (by rfl)) (by decide) (by decide) (by rfl) (by rfl)) (@pe_callB _ _ _ _ _ _ _ _ _ (minL K) (by rfl) T.b.n_min boot_min (@pa_cons _ _ _ _ _ (@pe_df _ _ _ _ _ _ _ _ _ _ _ f_part_sums hr (@pa_cons _ _ _ _ _ (@pv _ 1 _ _ (by rfl) (Or.inl rfl) (by decide) (by decide)) (@pa_cons _ _ _ _ _ (@pv _ 2 _ _ (by rfl) (Or.inl rfl) (by decide) (by decide)) (@pa_cons _ _ _ _ _ (@pv _ 3 _ _ (by rfl) (Or.inl rfl) (by decide) (by decide)) (@pa_cons _ _ _ _ _ (@pv _ 4 _ _ (by rfl) (Or.inl rfl) (by decide) (by decide)) (@pa_nil _) (by rfl)) (by rfl)) (by rfl)) (by rfl)) (by first | decide | exact Nat.le_refl _ | omega) (by rfl) (by decide) (by rfl) (by rfl)) (@pa_nil _) (by rfl)) (by decide) (by decide) (by rfl) (by rfl)))))), ?_⟩
  unfold mostF at q
  refine ⟨_, rfl, _, rfl, _, _, rfl, rfl, rfl, _, rfl, ite2 (fun h1 => ?_) (fun h1 => ?_)⟩
  · have h1 := of_decide_eq_true h1
    have h1 : (e : Int) - (b : Int) = 1 := by injection h1
    have := q H (Same.refl H)
    rw [if_pos (by omega)] at this
    exact this
  · have h1 : ¬ e - b = 1 := fun z => h1 (decide_eq_true (by show V.int ((e : Int) - (b : Int)) = V.int 1; rw [show (e : Int) - (b : Int) = 1 by omega]))
    refine ⟨_, rfl, _, rfl, _, rfl, _, rfl, _, rfl, a, _, rfl, hS, fun sl hsl => ?_⟩
    have s2 := same_new hsl (.lst (cutV (ns.map V.int) (some (b : Int)) (some (e : Int))))
    have f2 : (upd H sl (.lst (cutV (ns.map V.int) (some (b : Int)) (some (e : Int))))) sl = some (.lst (cutV (ns.map V.int) (some (b : Int)) (some (e : Int)))) := upd_same
    generalize upd H sl (.lst (cutV (ns.map V.int) (some (b : Int)) (some (e : Int)))) = H2 at s2 f2 ⊢
    rw [cut_seg (by omega) he] at f2
    refine ⟨sl, _, rfl, SqL.of f2, by rw [List.length_take, List.length_drop]; omega, fun v hv => ?_, ?_⟩
    · have := hns v (List.mem_of_mem_drop (List.mem_of_mem_take hv)); omega
    refine ⟨_, rfl, _, rfl, _, rfl, _, rfl, d, c, _, _, b, e, g, cutS g (wy - 2), rfl, .inl (s2 _ _ hd), .inl (s2 _ _ hc), hbe, by omega, fun m m1 m2 => ⟨kvs_at g m1 (by omega), kvs_at (cutS g (wy - 2)) m2 he⟩, fun r H3 hr hr3 s3 => ?_⟩
    have hne : psF g (cutS g (wy - 2)) b e ≠ [] := by
      have : g b (b + 1) + cutS g (wy - 2) (b + 1) e ∈ psF g (cutS g (wy - 2)) b e := List.mem_map.mpr ⟨b + 1, mids_mem.mpr ⟨by omega, by omega⟩, rfl⟩
      exact fun z => by rw [z] at this; cases this
    refine ⟨r, _, rfl, SqL.of hr3, List.length_pos_iff.mpr hne, fun M hM hle => ⟨_, _, rfl, rfl, ?_⟩⟩
    have := q H3 (s2.trans s3)
    rw [if_neg h1, ← lmin_one hM hle] at this
    exact this
def spNearT (K : PySem.W.Frag) : Sp := fun vs H Q _ => ∃ (a : Addr) (ns : List Int) (wy : Nat) (x : V) (t : PT), vs = [.ref a, .int wy, x] ∧ H a = some (.lst (ns.map V.int)) ∧ ns.length ≤ 12 ∧ TV H x t ∧ tPl wy t ∧ tOk ns.length t ∧ tDp t < 13 ∧ wy ≤ 6 ∧ tLv t = seqI 0 ns.length ∧ ∀ H', Same H H' → Q (.bl true) H'
theorem seqI_nd (b e : Nat) : (seqI b e).Nodup := by
  unfold seqI
  exact List.pairwise_map.mpr (List.nodup_range.imp fun h g => h (by omega))
theorem ok_nearT (T : Tops K mg) (f_finds_rows : Df P w K mg base 14 "finds_rows" ["sizes", "ways", "thing", "found"] (spFinds K 13)) : Df P w K mg base 15 "is_near" ["sizes", "ways", "thing"] (spNearT K) := by
  refine T.t_is_near.df sc_is_near (fun vs H Q E h => ?_) (fun cdv f A outer s H vs Q E hr h => ?_)
  · obtain ⟨a, ns, wy, x, t, rfl, _⟩ := h
    rfl
  obtain ⟨a, ns, wy, x, t, rfl, hS, n12, hT, hpl, hok, hdp, w6, hl, q⟩ := h
  refine ⟨_, (@pss_cons _ _ _ _ _ (@ps_set _ _ 3 _ _ _ _ sc_is_near.nd rfl (Or.inl rfl) (@pe_lst _ _ _ _ (@pa_nil _)) (by rfl) (by first | exact .inl rfl | exact .inr rfl)) (@pss_one _ _ _ (@ps_ret _ _ _ _ (@pe_and _ _ _ _ _ _ _ (@pe_df _ _ _ _ _ _ _ _ _ _ _ f_finds_rows hr (@pa_cons _ _ _ _ _ (@pv _ 0 _ _ (by rfl) (Or.inl rfl) (by decide) (by decide)) (@pa_cons _ _ _ _ _ (@pv _ 1 _ _ (by rfl) (Or.inl rfl) (by decide) (by decide)) (@pa_cons _ _ _ _ _ (@pv _ 2 _ _ (by rfl) (Or.inl rfl) (by decide) (by decide)) (@pa_cons _ _ _ _ _ (@pv _ 3 _ _ (by rfl) (Or.inl rfl) (by decide) (by decide)) (@pa_nil _) (by rfl)) (by rfl)) (by rfl)) (by rfl)) (by first | decide | exact Nat.le_refl _ | omega) (by rfl) (by decide) (by rfl) (by rfl)) (@pe_one _ _ _ _ _ (@pe_cmpR _ _ _ _ _ _ _ _ (@eqD _ K _ hr (by rfl)) (@pv _ 3 _ _ (by rfl) (Or.inl rfl) (by decide) (by decide)) (@pe_callTy _ _ _ _ _ _ _ _ _ listR (by rfl) T.b.n_list boot_list (@pa_cons _ _ _ _ _ (@pe_callTy _ _ _ _ _ _ _ _ _ rng1 (by rfl) T.b.n_range boot_range (@pa_cons _ _ _ _ _ (@pe_callB _ _ _ _ _ _ _ _ _ (lenQ K) (by rfl) T.b.n_len PySem.boot_len (@pa_cons _ _ _ _ _ (@pv _ 0 _ _ (by rfl) (Or.inl rfl) (by decide) (by decide)) (@pa_nil _) (by rfl)) (by decide) (by decide) (by rfl) (by rfl)) (@pa_nil _) (by rfl)) (by decide) (by decide) (by rfl) (by rfl)) (@pa_nil _) (by rfl)) (by decide) (by decide) (by rfl) (by rfl)) (nomark _))))))), ?_⟩
  refine ⟨(by show 0 ≤ sizeLine; decide), fun fo hfo => ?_⟩
  have s1 := same_new hfo (.lst [])
  have naf : a ≠ fo := ne_of_none hS hfo
  have hls : (((ns.map V.int).length : Nat) : Int) = (ns.length : Int) := by rw [List.length_map]
  refine ⟨_, rfl, _, rfl, _, rfl, _, rfl, a, fo, ns, [], wy, x, t, rfl, s1 _ _ hS, upd_same, naf, n12, hT.mono (same_tup s1), hpl, hok, hdp, w6, by rw [hl]; simpa using seqI_nd 0 ns.length, by rw [hl]; simpa [seqI_len] using n12, fun H2 hF2 k2 => ⟨_, rfl, iteT ?_⟩⟩
  rw [hl, List.nil_append] at hF2
  have s2 : Same H H2 := fun b o hb => k2 b o (s1 b o hb) (ne_of_none hb hfo)
  refine ⟨_, rfl, _, rfl, a, _, rfl, .inl (SqL.of (s2 _ _ hS)), _, rfl, fun rg hrg => ?_⟩
  have s3 := same_new hrg (.rng 0 (((ns.map V.int).length : Nat) : Int))
  refine ⟨rg, 0, _, rfl, upd_same, by omega, by omega, by rw [hls]; omega, by rw [hls]; omega, by rw [hls]; omega, fun l hl' => ?_⟩
  have s4 := same_new hl' (.lst ((upsI 0 ((((ns.map V.int).length : Nat) : Int) - 0).toNat).map V.int))
  have f4 : (upd (upd H2 rg (.rng 0 (((ns.map V.int).length : Nat) : Int))) l (.lst ((upsI 0 ((((ns.map V.int).length : Nat) : Int) - 0).toNat).map V.int))) l = some (.lst ((upsI 0 ((((ns.map V.int).length : Nat) : Int) - 0).toNat).map V.int)) := upd_same
  have s24 := s3.trans s4
  generalize upd (upd H2 rg (.rng 0 (((ns.map V.int).length : Nat) : Int))) l (.lst ((upsI 0 ((((ns.map V.int).length : Nat) : Int) - 0).toNat).map V.int)) = H4 at f4 s24 ⊢
  rw [show ((((ns.map V.int).length : Nat) : Int) - 0).toNat = ns.length by rw [hls]; omega, ← ups_seq] at f4
  refine ⟨.list ((seqI 0 ns.length).map PyData.int), .list ((seqI 0 ns.length).map PyData.int), .lst (SqL.of (s24 _ _ hF2)) (dv_intsK _), .lst (SqL.of f4) (dv_intsK _), shaped_ints _, shaped_ints _, ?_⟩
  have e : (if false = true then !PyData.eqv (.list ((seqI 0 ns.length).map PyData.int)) (.list ((seqI 0 ns.length).map PyData.int)) else PyData.eqv (.list ((seqI 0 ns.length).map PyData.int)) (.list ((seqI 0 ns.length).map PyData.int))) = true := by
    rw [if_neg Bool.false_ne_true]; exact eqv_ints2 _
  rw [e]
  exact q H4 (s2.trans s24)
theorem iteNT {c A B : Prop} [Decidable c] (hc : ¬ c) (h : A) : if (!decide c) = true then A else B := by
  rw [if_pos (by rw [decide_eq_false hc]; rfl)]; exact h
def spTriple : Sp := fun vs H Q _ => ∃ (p : Addr) (a b c : Int), vs = [.ref p] ∧ H p = some (.tup [.int a, .int b, .int c]) ∧ Q (.bl true) H
theorem ok_triple (T : Tops K mg) (f_is_number : Df P w K mg base 1 "is_number" ["thing"] spNum) : Df P w K mg base 2 "is_triple" ["thing"] spTriple := by
  refine T.t_is_triple.df sc_is_triple (fun vs H Q E h => ?_) (fun cdv f A outer s H vs Q E hr h => ?_)
  · obtain ⟨p, a, b, c, rfl, _⟩ := h
    rfl
  obtain ⟨p, a, b, c, rfl, hp, q⟩ := h
  refine ⟨_, (@pss_cons _ _ _ _ _ (@ps_if _ _ _ _ _ _ _ _ (@PW.pt _ _ _ (@pw_or _ _ _ _ _ _ _ (@pt_not _ _ _ _ (@pt_val _ _ _ (@pe_callB _ _ _ _ _ _ _ _ _ (isiQ K) (by rfl) T.b.n_isinstance boot_isinstance (@pa_cons _ _ _ _ _ (@pv _ 0 _ _ (by rfl) (Or.inl rfl) (by decide) (by decide)) (@pa_cons _ _ _ _ _ (@pe_ty _ _ _ _ T.b.n_tuple boot_tuple (by rfl) (by decide) (by decide)) (@pa_nil _) (by rfl)) (by rfl)) (by decide) (by decide) (by rfl) (by rfl)) (by intro _; rfl))) (@pw_or1 _ _ _ _ (@pt_cmpR _ _ _ _ _ _ _ _ op_ne (@pe_callB _ _ _ _ _ _ _ _ _ (lenQ K) (by rfl) T.b.n_len PySem.boot_len (@pa_cons _ _ _ _ _ (@pv _ 0 _ _ (by rfl) (Or.inl rfl) (by decide) (by decide)) (@pa_nil _) (by rfl)) (by decide) (by decide) (by rfl) (by rfl)) (@pe_int _ _ _ _) (nomark _))))) (@pss_one _ _ _ (@ps_ret _ _ _ _ (@pe_bl _ _ _ _))) (@pss_nil _)) (@pss_one _ _ _ (@ps_ret _ _ _ _ (@pe_and _ _ _ _ _ _ _ (@pe_df _ _ _ _ _ _ _ _ _ _ _ f_is_number hr (@pa_cons _ _ _ _ _ (@pe_ix _ _ _ _ _ _ _ (ixT K) (@pv _ 0 _ _ (by rfl) (Or.inl rfl) (by decide) (by decide)) (@pe_int _ _ _ _) (fun _ _ => rfl)) (@pa_nil _) (by rfl)) (by first | decide | exact Nat.le_refl _ | omega) (by rfl) (by decide) (by rfl) (by rfl)) (@pe_and _ _ _ _ _ _ _ (@pe_df _ _ _ _ _ _ _ _ _ _ _ f_is_number hr (@pa_cons _ _ _ _ _ (@pe_ix _ _ _ _ _ _ _ (ixT K) (@pv _ 0 _ _ (by rfl) (Or.inl rfl) (by decide) (by decide)) (@pe_int _ _ _ _) (fun _ _ => rfl)) (@pa_nil _) (by rfl)) (by first | decide | exact Nat.le_refl _ | omega) (by rfl) (by decide) (by rfl) (by rfl)) (@pe_one _ _ _ _ _ (@pe_df _ _ _ _ _ _ _ _ _ _ _ f_is_number hr (@pa_cons _ _ _ _ _ (@pe_ix _ _ _ _ _ _ _ (ixT K) (@pv _ 0 _ _ (by rfl) (Or.inl rfl) (by decide) (by decide)) (@pe_int _ _ _ _) (fun _ _ => rfl)) (@pa_nil _) (by rfl)) (by first | decide | exact Nat.le_refl _ | omega) (by rfl) (by decide) (by rfl) (by rfl)))))))), ?_⟩
  refine ⟨_, rfl, _, "tuple", _, _, rfl, .tup hp, k_tup_tup K, _, rfl, iteF ⟨_, rfl, p, _, rfl, .inr (SqT.of hp), rfl, _, rfl, ?_⟩⟩
  have e : (!decide (V.int ((([.int a, .int b, .int c] : List V).length : Nat) : Int) = V.int 3)) = false := by rw [decide_eq_true]; rfl; rfl
  rw [e]
  refine iteF ?_
  refine ⟨_, rfl, p, _, 0, _, rfl, rfl, SqT.of hp, rfl, .inl ⟨a, rfl, _, rfl, iteT ?_⟩⟩
  refine ⟨_, rfl, p, _, 1, _, rfl, rfl, SqT.of hp, rfl, .inl ⟨b, rfl, _, rfl, iteT ?_⟩⟩
  exact ⟨_, rfl, p, _, 2, _, rfl, rfl, SqT.of hp, rfl, .inl ⟨c, rfl, q⟩⟩
theorem lay_q2 : ∀ E : List (Nat × Nat), PyData.canLayAll0 (E.map fun p => tD (q2 p)) = true ∧ PyData.depthAll (E.map fun p => tD (q2 p)) ≤ 1
  | [] => ⟨rfl, Nat.zero_le _⟩
  | p :: r => by
    obtain ⟨a, b⟩ := lay_q2 r
    refine ⟨?_, ?_⟩
    · rw [List.map_cons]
      simp only [PyData.canLayAll0, a]
      simp [tD, q2, Kp, keyD, PyData.canLay0, PyData.canLayAll0]
    · rw [List.map_cons]
      have h1 : (tD (q2 p)).depth ≤ 1 := by simp [tD, q2, Kp, keyD, PyData.depth, PyData.depthAll]
      simp only [PyData.depthAll]
      omega
theorem shaped_q2 (E : List (Nat × Nat)) : SeqAt.shaped (.list (E.map fun p => tD (q2 p))) = true := by
  obtain ⟨a, b⟩ := lay_q2 E
  simp [SeqAt.shaped, PyData.canLay0, PyData.depth, a]
  omega
theorem eqv_q2 (E : List (Nat × Nat)) : PyData.eqv (.list (E.map fun p => tD (q2 p))) (.list (E.map fun p => tD (q2 p))) = true := SeqAt.eqv_refl _ (by simpa [PyData.canLay0] using (lay_q2 E).1)
def PrL (H : Hp) (r : Addr) (n : Nat) (g : Nat → Nat → Int) : Prop := ∃ ts : TupL, H r = some (.lst (refs ts)) ∧ AtT H ts ∧ ts.map (·.2) = ((strsTo n n).map (tri g)).map q3
theorem PrL.same {H H' : Hp} {r : Addr} {n : Nat} {g : Nat → Nat → Int} (h : PrL H r n g) (s : Same H H') : PrL H' r n g := by
  obtain ⟨ts, a, b, c⟩ := h
  exact ⟨ts, s _ _ a, AtT.mono b s, c⟩
theorem pr_len' {n : Nat} {g : Nat → Nat → Int} {ts : TupL} (h : ts.map (·.2) = ((strsTo n n).map (tri g)).map q3) : ts.length = (strsTo n n).length := by
  have := congrArg List.length h
  simpa using this
theorem pr_at {n : Nat} {g : Nat → Nat → Int} {ts : TupL} {H : Hp} (h : ts.map (·.2) = ((strsTo n n).map (tri g)).map q3) (hat : AtT H ts) {i : Nat} {x : V} (hx : (refs ts)[i]? = some x) : ∃ (p : Addr) (b e : Nat), x = .ref p ∧ H p = some (.tup [.int b, .int e, .int (g b e)]) ∧ (strsTo n n)[i]? = some (b, e) := by
  unfold refs at hx
  rw [List.getElem?_map] at hx
  cases ht : ts[i]? with
  | none => rw [ht] at hx; cases hx
  | some t =>
    rw [ht] at hx
    cases hx
    have h9 : (ts.map (·.2))[i]? = some t.2 := by rw [List.getElem?_map, ht]; rfl
    rw [h, List.getElem?_map, List.getElem?_map] at h9
    cases hp : (strsTo n n)[i]? with
    | none => rw [hp] at h9; cases h9
    | some p =>
      rw [hp] at h9
      have h9 : q3 (tri g p) = t.2 := Option.some.inj h9
      have h8 := hat t (List.mem_of_getElem? ht)
      rw [← h9] at h8
      exact ⟨t.1, p.1, p.2, rfl, h8, rfl⟩
def spAre (K : PySem.W.Frag) : Sp := fun vs H Q _ => ∃ (r : Addr) (n : Nat) (g : Nat → Nat → Int), vs = [.int n, .ref r] ∧ n ≤ 12 ∧ PrL H r n g ∧ ∀ H', Same H H' → Q (.bl true) H'
theorem ok_are (T : Tops K mg) (f_is_triple : Df P w K mg base 2 "is_triple" ["thing"] spTriple) (f_stretches_of : Df P w K mg base 1 "stretches_of" ["many"] spStrO) : Df P w K mg base 3 "are_prices" ["many", "thing"] (spAre K) := by
  refine T.t_are_prices.df sc_are_prices (fun vs H Q E h => ?_) (fun cdv f A outer s H vs Q E hr h => ?_)
  · obtain ⟨r, n, g, rfl, _⟩ := h
    rfl
  obtain ⟨r, n, g, rfl, n12, ⟨ts, hr0, hat, hE⟩, q⟩ := h
  refine ⟨_, (@pss_cons _ _ _ _ _ (@ps_if _ _ _ _ _ _ _ _ (@pt_not _ _ _ _ (@pt_val _ _ _ (@pe_callB _ _ _ _ _ _ _ _ _ (isiQ K) (by rfl) T.b.n_isinstance boot_isinstance (@pa_cons _ _ _ _ _ (@pv _ 1 _ _ (by rfl) (Or.inl rfl) (by decide) (by decide)) (@pa_cons _ _ _ _ _ (@pe_ty _ _ _ _ T.b.n_list boot_list (by rfl) (by decide) (by decide)) (@pa_nil _) (by rfl)) (by rfl)) (by decide) (by decide) (by rfl) (by rfl)) (by intro _; rfl))) (@pss_one _ _ _ (@ps_ret _ _ _ _ (@pe_bl _ _ _ _))) (@pss_nil _)) (@pss_cons _ _ _ _ _ (@ps_for _ _ _ _ _ _ _ _ PassesOwn.never rfl (@iL _ K _ _ _ (@pv _ 1 _ _ (by rfl) (Or.inl rfl) (by decide) (by decide)) (by rfl)) (@pg_name _ _ 2 _ sc_are_prices.nd rfl (Or.inl rfl) (by first | exact .inl rfl | exact .inr rfl)) (@pss_one _ _ _ (@ps_if _ _ _ _ _ _ _ _ (@pt_not _ _ _ _ (@pt_val _ _ _ (@pe_df _ _ _ _ _ _ _ _ _ _ _ f_is_triple hr (@pa_cons _ _ _ _ _ (@pv _ 2 _ _ (by rfl) (Or.inl rfl) (by decide) (by decide)) (@pa_nil _) (by rfl)) (by first | decide | exact Nat.le_refl _ | omega) (by rfl) (by decide) (by rfl) (by rfl)) (by intro _; rfl))) (@pss_one _ _ _ (@ps_ret _ _ _ _ (@pe_bl _ _ _ _))) (@pss_nil _))) (by intro _; rfl)) (@pss_one _ _ _ (@ps_ret _ _ _ _ (@pe_cmpR _ _ _ _ _ _ _ _ (@eqD _ K _ hr (by rfl)) (@pe_comp _ _ _ _ _ _ _ _ _ _ _ _ _ _ cs_9 rfl rfl rfl (@iL _ K _ _ _ (@pv _ 1 _ _ (by rfl) (Or.inl rfl) (by decide) (by decide)) (by rfl)) (fun _ _ _ _ => (@gT _ K _ _ _ 3 _ (@pgs_cons _ _ _ _ _ (@cg _ _ _ _ _ _ _ _ _ _ _ 3 cs_9 rfl (by decide +kernel) (by rfl)) (@pgs_cons _ _ _ _ _ (@cg _ _ _ _ _ _ _ _ _ _ _ 4 cs_9 rfl (by decide +kernel) (by rfl)) (@pgs_cons _ _ _ _ _ (@cg _ _ _ _ _ _ _ _ _ _ _ 5 cs_9 rfl (by decide +kernel) (by rfl)) (@pgs_nil _) (by rfl)) (by rfl)) (by rfl)) (by rfl) (by rfl) (by rfl) (by rfl))) (fun _ _ _ _ => (@pts_nil _)) (fun _ _ _ _ => (@pe_tup _ _ _ _ _ (@pa_cons _ _ _ _ _ (@cw _ _ _ _ _ _ _ _ _ _ _ 3 cs_9 rfl (by decide +kernel) (by rfl) (by decide) (by decide)) (@pa_cons _ _ _ _ _ (@cw _ _ _ _ _ _ _ _ _ _ _ 4 cs_9 rfl (by decide +kernel) (by rfl) (by decide) (by decide)) (@pa_nil _) (by rfl)) (by rfl)))) (by intro _; rfl)) (@pe_df _ _ _ _ _ _ _ _ _ _ _ f_stretches_of hr (@pa_cons _ _ _ _ _ (@pv _ 0 _ _ (by rfl) (Or.inl rfl) (by decide) (by decide)) (@pa_nil _) (by rfl)) (by first | decide | exact Nat.le_refl _ | omega) (by rfl) (by decide) (by rfl) (by rfl)) (nomark _)))))), ?_⟩
  have l144 := strs_le n12
  have lts := pr_len' hE
  refine ⟨_, rfl, _, "list", _, _, rfl, .lst hr0, k_lst_lst K, _, rfl, iteF ?_⟩
  refine ⟨_, rfl, r, rfl, ⟨_, SqL.of hr0⟩, ?_⟩
  refine for_list (K := K) (a := r) (xs := refs ts) (fun i σ H2 => (∃ v : Option V, σ = [some (.int n), some (.ref r), v]) ∧ Same H H2) ⟨⟨none, rfl⟩, Same.refl H⟩ (fun _ _ _ _ h => SqL.of (h.2 _ _ hr0)) ?_ ?_
  · rintro i x σ H2 hx ⟨⟨v, rfl⟩, s2⟩
    obtain ⟨p, b, e, rfl, hp, _⟩ := pr_at hE hat hx
    exact ⟨_, rfl, p, _, _, _, rfl, s2 _ _ hp, _, rfl, iteF ⟨⟨_, rfl⟩, s2⟩⟩
  · rintro σ H2 ⟨⟨v, rfl⟩, s2⟩
    have hr2 := s2 _ _ hr0
    refine ⟨_, rfl, r, rfl, ⟨_, SqL.of hr2⟩, fun D hD => ?_⟩
    refine comp_list (K := K) (a := r) (xs := refs ts) (fun i ys σ H3 => (∃ v1 v2 v3 v4 : Option V, σ = [some (.int n), some (.ref r), v1, v2, v3, v4]) ∧ (∃ us : TupL, ys = refs us ∧ AtT H3 us ∧ us.map (·.2) = ((strsTo n n).take i).map q2) ∧ i ≤ ts.length ∧ H3 D = some (.lst ys) ∧ Same H2 H3) ⟨⟨_, none, none, none, rfl⟩, ⟨[], rfl, (fun t h => by cases h), rfl⟩, Nat.zero_le _, upd_same, same_new hD _⟩ (fun _ _ _ _ h => SqL.of (h.2.2.2.2 _ _ hr2)) ?_ ?_
    · rintro i x ys σ H3 hx ⟨⟨v1, v2, v3, v4, rfl⟩, ⟨us, rfl, hau, hEu⟩, _, hD3, s3⟩
      obtain ⟨p, b, e, rfl, hp, hbe⟩ := pr_at hE hat hx
      have hil : i < ts.length := by have := (List.getElem?_eq_some_iff.mp hbe).1; omega
      have hul : us.length ≤ 144 := by
        have := congrArg List.length hEu
        rw [List.length_map, List.length_map, List.length_take] at this
        omega
      refine ⟨p, _, rfl, SqT.of (s3 _ _ (s2 _ _ hp)), rfl, _, _, rfl, _, _, rfl, _, _, rfl, rfl, ?_⟩
      refine ⟨_, rfl, _, rfl, (by show 2 ≤ sizeLine; decide), fun m hm => ?_⟩
      have sn := same_new hm (.tup [.int (b : Int), .int (e : Int)])
      have hD5 := sn _ _ hD3
      have nDn : D ≠ m := ne_of_none hD3 hm
      refine ⟨hD5, (by rw [refs_len]; exact small1000 (by omega)), ⟨_, _, _, _, rfl⟩, ⟨us ++ [(m, q2 (b, e))], by unfold refs; rw [List.map_append]; rfl, fun t ht => ?_, ?_⟩, hil, upd_same, fun b' o hb => ?_⟩
      · rcases List.mem_append.mp ht with ht | ht
        · exact tup_keep hD5 _ _ _ (sn _ _ (hau t ht))
        · rw [List.mem_singleton.mp ht, upd_ne nDn.symm]; exact upd_same
      · rw [List.map_append, hEu, List.take_add_one, hbe, List.map_append]; rfl
      · rw [upd_ne (ne_of_none hb hD)]; exact sn _ _ (s3 b' o hb)
    · rintro ys σ H3 ⟨⟨v1, v2, v3, v4, rfl⟩, ⟨us, rfl, hau, hEu⟩, _, hD3, s3⟩
      rw [refs_len, lts, List.take_of_length_le (Nat.le_refl _)] at hEu
      refine ⟨_, rfl, n, rfl, n12, fun so ws H4 hso hs4 haw hEw s4 => ?_⟩
      have d1 : us.map (fun t => tD t.2) = (strsTo n n).map fun p => tD (q2 p) := by
        have := congrArg (List.map tD) hEu
        rw [List.map_map, List.map_map] at this; exact this
      have d2 : ws.map (fun t => tD t.2) = (strsTo n n).map fun p => tD (q2 p) := by
        have := congrArg (List.map tD) hEw
        rw [List.map_map, List.map_map] at this; exact this
      have v1' := dv_tups (K := K) us (AtT.mono hau s4)
      have v2' := dv_tups (K := K) ws haw
      rw [d1] at v1'
      rw [d2] at v2'
      refine ⟨_, _, .lst (SqL.of (s4 _ _ hD3)) v1', .lst (SqL.of hs4) v2', shaped_q2 _, shaped_q2 _, ?_⟩
      rw [if_neg Bool.false_ne_true, eqv_q2]
      exact q H4 ((s2.trans s3).trans s4)
def spShows (K : PySem.W.Frag) : Sp := fun vs H Q _ => ∃ (a r : Addr) (ns : List Int) (wy : Nat) (x : V) (t : PT) (g : Nat → Nat → Int), vs = [.ref a, .int wy, x, .ref r] ∧ H a = some (.lst (ns.map V.int)) ∧ 1 ≤ ns.length ∧ ns.length ≤ 12 ∧ (∀ v ∈ ns, 0 ≤ v ∧ v ≤ 1000000000) ∧ 2 ≤ wy ∧ wy ≤ 6 ∧ TV H x t ∧ tPl wy t ∧ tOk ns.length t ∧ tDp t < 13 ∧ tLv t = seqI 0 ns.length ∧ PrL H r ns.length g ∧
  ∀ (b : Bool) (H' : Hp), (b = true ↔ g 0 ns.length = tCo ns t ∧ ∀ x y, x < y → y ≤ ns.length → g x y ≤ mostF ns g wy x y) → Same H H' → Q (.bl b) H'
theorem ok_shows (T : Tops K mg) (f_is_near : Df P w K mg base 15 "is_near" ["sizes", "ways", "thing"] (spNearT K)) (f_are_prices : Df P w K mg base 3 "are_prices" ["many", "thing"] (spAre K)) (f_cost_of : Df P w K mg base 15 "cost_of" ["sizes", "tree"] (spCostOf K 13)) (f_cut_prices : Df P w K mg base 2 "cut_prices" ["priced", "most"] spCutP) (f_most_price : Df P w K mg base 2 "most_price" ["sizes", "priced", "cut", "begin", "end"] (spMost K)) : Df P w K mg base 16 "shows_near" ["sizes", "ways", "tree", "prices"] (spShows K) := by
  refine T.t_shows_near.df sc_shows_near (fun vs H Q E h => ?_) (fun cdv f A outer s H vs Q E hr h => ?_)
  · obtain ⟨a, r, ns, wy, x, t, g, rfl, _⟩ := h
    rfl
  obtain ⟨a, r, ns, wy, x, t, g, rfl, hS, n1, n12, hns, w2, w6, hT, hpl, hok, hdp, hlv, hpr, q⟩ := h
  refine ⟨_, (@pss_cons _ _ _ _ _ (@ps_if _ _ _ _ _ _ _ _ (@PW.pt _ _ _ (@pw_or _ _ _ _ _ _ _ (@pt_not _ _ _ _ (@pt_val _ _ _ (@pe_df _ _ _ _ _ _ _ _ _ _ _ f_is_near hr (@pa_cons _ _ _ _ _ (@pv _ 0 _ _ (by rfl) (Or.inl rfl) (by decide) (by decide)) (@pa_cons _ _ _ _ _ (@pv _ 1 _ _ (by rfl) (Or.inl rfl) (by decide) (by decide)) (@pa_cons _ _ _ _ _ (@pv _ 2 _ _ (by rfl) (Or.inl rfl) (by decide) (by decide)) (@pa_nil _) (by rfl)) (by rfl)) (by rfl)) (by first | decide | exact Nat.le_refl _ | omega) (by rfl) (by decide) (by rfl) (by rfl)) (by intro _; rfl))) (@pw_or1 _ _ _ _ (@pt_not _ _ _ _ (@pt_val _ _ _ (@pe_df _ _ _ _ _ _ _ _ _ _ _ f_are_prices hr (@pa_cons _ _ _ _ _ (@pe_callB _ _ _ _ _ _ _ _ _ (lenQ K) (by rfl) T.b.n_len PySem.boot_len (@pa_cons _ _ _ _ _ (@pv _ 0 _ _ (by rfl) (Or.inl rfl) (by decide) (by decide)) (@pa_nil _) (by rfl)) (by decide) (by decide) (by rfl) (by rfl)) (@pa_cons _ _ _ _ _ (@pv _ 3 _ _ (by rfl) (Or.inl rfl) (by decide) (by decide)) (@pa_nil _) (by rfl)) (by rfl)) (by first | decide | exact Nat.le_refl _ | omega) (by rfl) (by decide) (by rfl) (by rfl)) (by intro _; rfl)))))) (@pss_one _ _ _ (@ps_ret _ _ _ _ (@pe_bl _ _ _ _))) (@pss_nil _)) (@pss_cons _ _ _ _ _ (@ps_setDComp _ _ _ _ _ 4 _ _ _ _ _ _ _ _ _ _ _ _ _ _ sc_shows_near.nd rfl (Or.inl rfl) cs_10 rfl rfl rfl (@iL _ K _ _ _ (@pv _ 3 _ _ (by rfl) (Or.inl rfl) (by decide) (by decide)) (by rfl)) (fun _ _ _ _ => (@gT _ K _ _ _ 3 _ (@pgs_cons _ _ _ _ _ (@cg _ _ _ _ _ _ _ _ _ _ _ 9 cs_10 rfl (by decide +kernel) (by rfl)) (@pgs_cons _ _ _ _ _ (@cg _ _ _ _ _ _ _ _ _ _ _ 10 cs_10 rfl (by decide +kernel) (by rfl)) (@pgs_cons _ _ _ _ _ (@cg _ _ _ _ _ _ _ _ _ _ _ 11 cs_10 rfl (by decide +kernel) (by rfl)) (@pgs_nil _) (by rfl)) (by rfl)) (by rfl)) (by rfl) (by rfl) (by rfl) (by rfl))) (fun _ _ _ _ => (@pts_nil _)) (fun _ _ _ _ => (@pe_tup _ _ _ _ _ (@pa_cons _ _ _ _ _ (@cw _ _ _ _ _ _ _ _ _ _ _ 9 cs_10 rfl (by decide +kernel) (by rfl) (by decide) (by decide)) (@pa_cons _ _ _ _ _ (@cw _ _ _ _ _ _ _ _ _ _ _ 10 cs_10 rfl (by decide +kernel) (by rfl) (by decide) (by decide)) (@pa_nil _) (by rfl)) (by rfl)))) (fun _ _ _ _ => (@cw _ _ _ _ _ _ _ _ _ _ _ 11 cs_10 rfl (by decide +kernel) (by rfl) (by decide) (by decide))) (Room.units hr) (by rfl) (by intro _; rfl) (by first | exact .inl rfl | exact .inr rfl)) (@pss_cons _ _ _ _ _ (@ps_if _ _ _ _ _ _ _ _ (@pt_cmpR _ _ _ _ _ _ _ _ op_ne (@pe_ix _ _ _ _ _ _ _ (ixD hr) (@pv _ 4 _ _ (by rfl) (Or.inl rfl) (by decide) (by decide)) (@pe_tup _ _ _ _ _ (@pa_cons _ _ _ _ _ (@pe_int _ _ _ _) (@pa_cons _ _ _ _ _ (@pe_callB _ _ _ _ _ _ _ _ _ (lenQ K) (by rfl) T.b.n_len PySem.boot_len (@pa_cons _ _ _ _ _ (@pv _ 0 _ _ (by rfl) (Or.inl rfl) (by decide) (by decide)) (@pa_nil _) (by rfl)) (by decide) (by decide) (by rfl) (by rfl)) (@pa_nil _) (by rfl)) (by rfl))) (fun _ _ => rfl)) (@pe_df _ _ _ _ _ _ _ _ _ _ _ f_cost_of hr (@pa_cons _ _ _ _ _ (@pv _ 0 _ _ (by rfl) (Or.inl rfl) (by decide) (by decide)) (@pa_cons _ _ _ _ _ (@pv _ 2 _ _ (by rfl) (Or.inl rfl) (by decide) (by decide)) (@pa_nil _) (by rfl)) (by rfl)) (by first | decide | exact Nat.le_refl _ | omega) (by rfl) (by decide) (by rfl) (by rfl)) (nomark _)) (@pss_one _ _ _ (@ps_ret _ _ _ _ (@pe_bl _ _ _ _))) (@pss_nil _)) (@pss_cons _ _ _ _ _ (@ps_set _ _ 5 _ _ _ _ sc_shows_near.nd rfl (Or.inl rfl) (@pe_df _ _ _ _ _ _ _ _ _ _ _ f_cut_prices hr (@pa_cons _ _ _ _ _ (@pv _ 4 _ _ (by rfl) (Or.inl rfl) (by decide) (by decide)) (@pa_cons _ _ _ _ _ (@pe_op _ _ _ _ _ _ _ _ op_sub (@pv _ 1 _ _ (by rfl) (Or.inl rfl) (by decide) (by decide)) (@pe_int _ _ _ _)) (@pa_nil _) (by rfl)) (by rfl)) (by first | decide | exact Nat.le_refl _ | omega) (by rfl) (by decide) (by rfl) (by rfl)) (by rfl) (by first | exact .inl rfl | exact .inr rfl)) (@pss_cons _ _ _ _ _ (@ps_for _ _ _ _ _ _ _ _ PassesOwn.never rfl (@iL _ K _ _ _ (@pv _ 3 _ _ (by rfl) (Or.inl rfl) (by decide) (by decide)) (by rfl)) (@gT _ K _ _ _ 3 _ (@pgs_cons _ _ _ _ _ (@pg_name _ _ 6 _ sc_shows_near.nd rfl (Or.inl rfl) (by first | exact .inl rfl | exact .inr rfl)) (@pgs_cons _ _ _ _ _ (@pg_name _ _ 7 _ sc_shows_near.nd rfl (Or.inl rfl) (by first | exact .inl rfl | exact .inr rfl)) (@pgs_cons _ _ _ _ _ (@pg_name _ _ 8 _ sc_shows_near.nd rfl (Or.inl rfl) (by first | exact .inl rfl | exact .inr rfl)) (@pgs_nil _) (by rfl)) (by rfl)) (by rfl)) (by rfl) (by rfl) (by rfl) (by rfl)) (@pss_one _ _ _ (@ps_if _ _ _ _ _ _ _ _ (@pt_cmpR _ _ _ _ _ _ _ _ op_gt (@pv _ 8 _ _ (by rfl) (Or.inl rfl) (by decide) (by decide)) (@pe_df _ _ _ _ _ _ _ _ _ _ _ f_most_price hr (@pa_cons _ _ _ _ _ (@pv _ 0 _ _ (by rfl) (Or.inl rfl) (by decide) (by decide)) (@pa_cons _ _ _ _ _ (@pv _ 4 _ _ (by rfl) (Or.inl rfl) (by decide) (by decide)) (@pa_cons _ _ _ _ _ (@pv _ 5 _ _ (by rfl) (Or.inl rfl) (by decide) (by decide)) (@pa_cons _ _ _ _ _ (@pv _ 6 _ _ (by rfl) (Or.inl rfl) (by decide) (by decide)) (@pa_cons _ _ _ _ _ (@pv _ 7 _ _ (by rfl) (Or.inl rfl) (by decide) (by decide)) (@pa_nil _) (by rfl)) (by rfl)) (by rfl)) (by rfl)) (by rfl)) (by first | decide | exact Nat.le_refl _ | omega) (by rfl) (by decide) (by rfl) (by rfl)) (nomark _)) (@pss_one _ _ _ (@ps_ret _ _ _ _ (@pe_bl _ _ _ _))) (@pss_nil _))) (by intro _; rfl)) (@pss_one _ _ _ (@ps_ret _ _ _ _ (@pe_bl _ _ _ _)))))))), ?_⟩
  have hls : (((ns.map V.int).length : Nat) : Int) = (ns.length : Int) := by rw [List.length_map]
  refine ⟨_, rfl, _, rfl, _, rfl, a, ns, wy, x, t, rfl, hS, n12, hT, hpl, hok, hdp, w6, hlv, fun H1 s1 => ⟨_, rfl, iteF ?_⟩⟩
  refine ⟨_, rfl, a, _, rfl, .inl (SqL.of (s1 _ _ hS)), _, rfl, r, ns.length, g, by rw [hls]; rfl, n12, hpr.same s1, fun H2 s2 => ⟨_, rfl, iteF ?_⟩⟩
  have s12 := s1.trans s2
  obtain ⟨ts, hr2, hat, hE⟩ := hpr.same s12
  have l144 := strs_le n12
  have lts := pr_len' hE
  refine ⟨_, rfl, r, rfl, ⟨_, SqL.of hr2⟩, fun D hD => ?_⟩
  refine dict_listT (K := K) (a := r) (xs := refs ts) (fun i ys σ H3 => (∃ v1 v2 v3 v4 v5 v6 v7 v8 : Option V, σ = [some (.ref a), some (.int wy), some x, some (.ref r), v1, v2, v3, v4, v5, v6, v7, v8]) ∧ ys = ((strsTo ns.length ns.length).take i).map (fun p => (q2 p, V.int (g p.1 p.2))) ∧ i ≤ ts.length ∧ H3 D = some (.dT ys) ∧ Same H2 H3) ⟨⟨_, _, _, _, _, _, _, _, rfl⟩, rfl, Nat.zero_le _, upd_same, same_new hD _⟩ (fun _ _ _ _ h => SqL.of (h.2.2.2.2 _ _ hr2)) ?_ ?_
  · rintro i z ys σ H3 hz ⟨⟨v1, v2, v3, v4, v5, v6, v7, v8, rfl⟩, rfl, _, hD3, s3⟩
    obtain ⟨p, b, e, rfl, hp, hbe⟩ := pr_at hE hat hz
    have hil : i < ts.length := by have := (List.getElem?_eq_some_iff.mp hbe).1; omega
    refine ⟨p, _, rfl, SqT.of (s3 _ _ hp), rfl, _, _, rfl, _, _, rfl, _, _, rfl, rfl, ?_⟩
    refine ⟨_, rfl, _, rfl, (by show 2 ≤ sizeLine; decide), fun m hm => ?_⟩
    have sn := same_new hm (.tup ((q2 (b, e)).map kV))
    have hD5 := sn _ _ hD3
    refine ⟨_, rfl, m, q2 (b, e), rfl, hD5, upd_same, look_kvN (g := g) (strs_new hbe), by rw [List.length_map, List.length_take, sizeLine_eq]; omega, ⟨_, _, _, _, _, _, _, _, rfl⟩, (kvs_snoc hbe).symm, hil, upd_same, fun b' o hb => ?_⟩
    rw [upd_ne (ne_of_none hb hD)]; exact sn _ _ (s3 b' o hb)
  · rintro ys σ H3 ⟨⟨v1, v2, v3, v4, v5, v6, v7, v8, rfl⟩, rfl, _, hD3, s3⟩
    rw [refs_len, lts, List.take_of_length_le (Nat.le_refl _)] at hD3
    have hD3 : H3 D = some (.dT (kvsOf ns.length g)) := hD3
    have s03 := s12.trans s3
    have hT3 := hT.mono (same_tup s03)
    refine ⟨_, rfl, _, rfl, a, _, rfl, .inl (SqL.of (s03 _ _ hS)), (by show 2 ≤ sizeLine; decide), fun k0 hk0 => ?_⟩
    have s4 := same_new hk0 (.tup ((Kp 0 ns.length).map kV))
    have f4 : (upd H3 k0 (.tup ((Kp 0 ns.length).map kV))) k0 = some (.tup ((Kp 0 ns.length).map kV)) := upd_same
    have e4 : (.tup [.int 0, .int (((ns.map V.int).length : Nat) : Int)] : HO) = .tup ((Kp 0 ns.length).map kV) := by rw [hls]; rfl
    rw [e4]
    generalize upd H3 k0 (.tup ((Kp 0 ns.length).map kV)) = H4 at s4 f4 ⊢
    have s04 := s03.trans s4
    refine ⟨D, _, k0, _, _, rfl, rfl, s4 _ _ hD3, f4, kvs_at g (by omega) (Nat.le_refl _), ?_⟩
    refine ⟨_, rfl, _, rfl, a, ns, x, t, rfl, SqL.of (s04 _ _ hS), hT3.mono (same_tup s4), hok, hdp, fun H5 s5 => ⟨rfl, _, rfl, ?_⟩⟩
    by_cases hc : g 0 ns.length = tCo ns t
    · refine iteNE (by rw [hc]) ?_
      have s05 := s04.trans s5
      have hD5 := s5 _ _ (s4 _ _ hD3)
      refine ⟨_, rfl, _, rfl, _, _, rfl, rfl, D, ns.length, wy, g, rfl, hD5, n12, w2, w6, fun c H6 hc6 s6 => ?_⟩
      have s06 := s05.trans s6
      have hD6 := s6 _ _ hD5
      obtain ⟨us, hr6, hau, hEu⟩ := hpr.same s06
      have lus := pr_len' hEu
      refine ⟨_, rfl, r, rfl, ⟨_, SqL.of hr6⟩, ?_⟩
      refine for_list (K := K) (a := r) (xs := refs us) (fun i σ H7 => (∃ v1 v2 v3 : Option V, σ = [some (.ref a), some (.int wy), some x, some (.ref r), some (.ref D), some (.ref c), v1, v2, v3]) ∧ (∀ p ∈ (strsTo ns.length ns.length).take i, g p.1 p.2 ≤ mostF ns g wy p.1 p.2) ∧ i ≤ us.length ∧ Same H6 H7) ⟨⟨_, _, _, rfl⟩, (fun p hp => by rw [List.take_zero] at hp; cases hp), Nat.zero_le _, Same.refl _⟩ (fun _ _ _ _ h => SqL.of (h.2.2.2 _ _ hr6)) ?_ ?_
      · rintro i z σ H7 hz ⟨⟨v1, v2, v3, rfl⟩, hm, _, s7⟩
        obtain ⟨p, b, e, rfl, hp, hbe⟩ := pr_at hEu hau hz
        have hil : i < us.length := by have := (List.getElem?_eq_some_iff.mp hbe).1; omega
        obtain ⟨hb1, he1⟩ := mem_strs.mp (List.mem_of_getElem? hbe)
        refine ⟨p, _, rfl, SqT.of (s7 _ _ hp), rfl, _, _, rfl, _, _, rfl, _, _, rfl, rfl, ?_⟩
        have s07 := s06.trans s7
        refine ⟨_, rfl, _, rfl, _, rfl, _, rfl, _, rfl, _, rfl, a, D, c, ns, wy, b, e, g, rfl, SqL.of (s07 _ _ hS), n12, hns, s7 _ _ hD6, s7 _ _ hc6, hb1, he1, fun H8 s8 => ⟨_, _, rfl, rfl, _, rfl, ite2 (fun hgt => ?_) (fun hle => ?_)⟩⟩
        · have hgt := of_decide_eq_true hgt
          refine q false H8 ⟨fun h => (by cases h), fun h => ?_⟩ (s07.trans s8)
          have := h.2 b e hb1 he1
          omega
        · have hle : ¬ g b e > mostF ns g wy b e := fun z => hle (decide_eq_true z)
          refine ⟨⟨_, _, _, rfl⟩, fun p' hp' => ?_, hil, s7.trans s8⟩
          rw [List.take_add_one, hbe] at hp'
          rcases List.mem_append.mp hp' with hp' | hp'
          · exact hm p' hp'
          · have : p' = (b, e) := by simpa using hp'
            rw [this]
            show g b e ≤ mostF ns g wy b e
            omega
      · rintro σ H7 ⟨⟨v1, v2, v3, rfl⟩, hm, _, s7⟩
        rw [refs_len, lus, List.take_of_length_le (Nat.le_refl _)] at hm
        exact q true H7 ⟨fun _ => ⟨hc, fun x y h1 h2 => hm (x, y) (mem_strs.mpr ⟨h1, h2⟩)⟩, fun _ => rfl⟩ (s06.trans s7)
    · refine iteNT (fun z => hc (by injection z)) ?_
      exact q false H5 ⟨fun h => (by cases h), fun h => absurd h.1 hc⟩ (s04.trans s5)
def P2 : List PT → List (List PT) → Prop
  | [], [] => True
  | t :: r, L :: Ls => t ∈ L ∧ P2 r Ls
  | _, _ => False
def prodS (F : List (List PT)) (L : List PT) : List (List PT) := F.flatMap fun ps => L.map fun t => ps ++ [t]
def prodT (Ls : List (List PT)) : List (List PT) := Ls.foldl prodS [[]]
theorem prod_go : ∀ (Ls : List (List PT)) (F : List (List PT)) (ps : List PT), ps ∈ Ls.foldl prodS F ↔ ∃ f ∈ F, ∃ r, ps = f ++ r ∧ P2 r Ls
  | [], F, ps => by
    show ps ∈ F ↔ _
    constructor
    · intro h; exact ⟨ps, h, [], by simp, trivial⟩
    · rintro ⟨f, hf, r, rfl, h⟩
      cases r with
      | nil => rw [List.append_nil]; exact hf
      | cons t r => exact h.elim
  | L :: Ls, F, ps => by
    show ps ∈ Ls.foldl prodS (prodS F L) ↔ _
    rw [prod_go Ls (prodS F L) ps]
    constructor
    · rintro ⟨f, hf, r, rfl, h⟩
      obtain ⟨f0, h0, hf⟩ := List.mem_flatMap.mp hf
      obtain ⟨t, ht, rfl⟩ := List.mem_map.mp hf
      exact ⟨f0, h0, t :: r, by simp, ht, h⟩
    · rintro ⟨f, hf, r, rfl, h⟩
      cases r with
      | nil => exact h.elim
      | cons t r => exact ⟨f ++ [t], List.mem_flatMap.mpr ⟨f, hf, List.mem_map.mpr ⟨t, h.1, rfl⟩⟩, r, by simp, h.2⟩
theorem mem_prod (Ls : List (List PT)) (ps : List PT) : ps ∈ prodT Ls ↔ P2 ps Ls := by
  unfold prodT
  rw [prod_go]
  constructor
  · rintro ⟨f, hf, r, rfl, h⟩; rw [List.mem_singleton.mp hf]; exact h
  · intro h; exact ⟨[], List.mem_singleton.mpr rfl, ps, rfl, h⟩
theorem prod_take (Ls : List (List PT)) {i : Nat} {L : List PT} (h : Ls[i]? = some L) : prodT (Ls.take (i + 1)) = prodS (prodT (Ls.take i)) L := by
  unfold prodT
  rw [List.take_add_one, h, List.foldl_append]; rfl
theorem prodS_len (L : List PT) : ∀ F : List (List PT), (prodS F L).length = F.length * L.length
  | [] => by simp [prodS]
  | f :: F => by
    have := prodS_len L F
    unfold prodS at this ⊢
    rw [List.flatMap_cons, List.length_append, List.length_map, this, List.length_cons, Nat.succ_mul]; omega
def prs (c : List Nat) (e : Nat) : List (Nat × Nat) := c.zip (c.tail ++ [e])
theorem prs_cons (x y : Nat) (r : List Nat) (e : Nat) : prs (x :: y :: r) e = (x, y) :: prs (y :: r) e := rfl
def Nt (w b e : Nat) (t : PT) : Prop := tLv t = seqI b e ∧ tPl w t
def NearL (w b e : Nat) (ts : List PT) : Prop := ∀ t, t ∈ ts ↔ Nt w b e t
theorem prs_len (c : List Nat) (e : Nat) : (prs c e).length = c.length := by
  unfold prs
  rw [List.length_zip, List.length_append, List.length_tail, List.length_singleton]
  cases c with
  | nil => rfl
  | cons x r => simp
theorem prs_forest {w e : Nat} {T : Nat → Nat → List PT} : ∀ (r : List Nat) (x : Nat) (us : List PT), (x :: r).Pairwise (· < ·) → (∀ y ∈ x :: r, y < e) → (∀ y z, (y, z) ∈ prs (x :: r) e → NearL w y z (T y z)) → P2 us ((prs (x :: r) e).map fun p => T p.1 p.2) → us.length = r.length + 1 ∧ Nf w x e us
  | [], x, us, _, _, hN, h => by
    cases us with
    | nil => exact h.elim
    | cons t us =>
      have h : t ∈ T x e ∧ P2 us [] := h
      cases us with
      | nil =>
        have := (hN x e (by show (x, e) ∈ [(x, e)]; simp) t).mp h.1
        exact ⟨rfl, by show tLv t ++ [] = _; rw [List.append_nil]; exact this.1, this.2, trivial⟩
      | cons u us => exact h.2.elim
  | y :: r, x, us, hp, ha, hN, h => by
    rw [prs_cons] at h
    cases us with
    | nil => exact h.elim
    | cons t us =>
      have h : t ∈ T x y ∧ P2 us ((prs (y :: r) e).map fun p => T p.1 p.2) := h
      obtain ⟨l, nf⟩ := prs_forest r y us (List.Pairwise.of_cons hp) (fun z hz => ha z (List.mem_cons_of_mem _ hz)) (fun a b hab => hN a b (by rw [prs_cons]; exact List.mem_cons_of_mem _ hab)) h.2
      have ht := (hN x y (by rw [prs_cons]; exact List.mem_cons_self ..) t).mp h.1
      have hxy := List.rel_of_pairwise_cons hp (List.mem_cons_self (a := y) (l := r))
      have hye := ha y (by simp)
      refine ⟨by rw [List.length_cons, l, List.length_cons], ?_⟩
      exact Nf.app (a := [t]) ⟨by show tLv t ++ [] = _; rw [List.append_nil]; exact ht.1, ht.2, trivial⟩ nf (by omega) (by omega)
theorem forest_prs {w e : Nat} {T : Nat → Nat → List PT} : ∀ (us : List PT) (b : Nat), us ≠ [] → Nf w b e us → b < e → (∀ y z, b ≤ y → y < z → z ≤ e → ¬ (y = b ∧ z = e ∧ 1 < us.length) → NearL w y z (T y z)) → ∃ r, r.length + 1 = us.length ∧ (b :: r).Pairwise (· < ·) ∧ (∀ x ∈ b :: r, x < e) ∧ P2 us ((prs (b :: r) e).map fun p => T p.1 p.2)
  | [], _, h, _, _, _ => absurd rfl h
  | [t], b, _, hn, hbe, hN => by
    refine ⟨[], rfl, List.pairwise_singleton _ _, fun x hx => by rw [List.mem_singleton.mp hx]; exact hbe, ?_⟩
    show t ∈ T b e ∧ True
    have h1 : tLv t ++ [] = seqI b e := hn.1
    rw [List.append_nil] at h1
    exact ⟨(hN b e (Nat.le_refl _) hbe (Nat.le_refl _) (fun h => by have := h.2.2; simp at this) t).mpr ⟨h1, hn.2.1⟩, trivial⟩
  | t :: u :: us, b, _, hn, hbe, hN => by
    obtain ⟨mid, m1, m2, n1, n2⟩ := hn.cut (by simp)
    obtain ⟨r, l, hp, ha, h2⟩ := forest_prs (u :: us) mid (by simp) n2 m2 (fun y z h1 h2 h3 h4 => hN y z (by omega) h2 h3 (by omega))
    refine ⟨mid :: r, by rw [List.length_cons, l, List.length_cons (a := t)], ?_, fun x hx => ?_, ?_⟩
    · refine List.pairwise_cons.mpr ⟨fun x hx => ?_, hp⟩
      rcases List.mem_cons.mp hx with rfl | hx
      · exact m1
      · have := List.rel_of_pairwise_cons hp hx; omega
    · rcases List.mem_cons.mp hx with rfl | hx
      · exact hbe
      · exact ha x hx
    · rw [prs_cons]
      have h1 : tLv t ++ [] = seqI b mid := n1.1
      rw [List.append_nil] at h1
      exact ⟨(hN b mid (Nat.le_refl _) m1 (by omega) (by omega) t).mpr ⟨h1, n1.2.1⟩, h2⟩
theorem near_all {w b e : Nat} {T : Nat → Nat → List PT} {Cn : List (List Nat)} (hbe : b + 1 < e) (hN : ∀ y z, b ≤ y → y < z → z ≤ e → ¬ (y = b ∧ z = e) → NearL w y z (T y z)) (hC : ∀ c, c ∈ Cn ↔ IsCut b e w c ∧ 2 ≤ c.length) : NearL w b e (Cn.flatMap fun c => (prodT ((prs c e).map fun p => T p.1 p.2)).map PT.node) := fun t => by
  rw [List.mem_flatMap]
  constructor
  · rintro ⟨c, hc, ht⟩
    obtain ⟨us, hus, rfl⟩ := List.mem_map.mp ht
    obtain ⟨⟨c1, c2, c3, c4⟩, c5⟩ := (hC c).mp hc
    cases c with
    | nil => cases c1
    | cons x r =>
      cases c1
      obtain ⟨l, nf⟩ := prs_forest (T := T) r b us c2 c3 (fun y z hyz => by
        obtain ⟨a1, a2, a3, a4⟩ := zip_pairs r b c2 c3 y z hyz
        refine hN y z a1 a2 a3 fun ⟨h1, h2⟩ => ?_
        have := a4 (fun z => by rw [z] at c5; simp at c5) h1
        omega) ((mem_prod _ _).mp hus)
      simp only [List.length_cons] at c4 c5
      exact ⟨nf.1, by omega, by omega, nf.2⟩
  · rintro ⟨h1, h2⟩
    cases t with
    | leaf k =>
      have := congrArg List.length h1
      rw [seqI_len] at this
      have : 1 = e - b := this
      omega
    | node us =>
      have h2 : 2 ≤ us.length ∧ us.length ≤ w ∧ tPls w us := h2
      obtain ⟨r, l, hp, ha, h3⟩ := forest_prs (T := T) us b (fun z => by rw [z] at h2; simp at h2) ⟨h1, h2.2.2⟩ (by omega) (fun y z a1 a2 a3 a4 => hN y z a1 a2 a3 (fun ⟨x1, x2⟩ => a4 ⟨x1, x2, by omega⟩))
      refine ⟨b :: r, (hC _).mpr ⟨⟨rfl, hp, ha, by rw [List.length_cons]; omega⟩, by rw [List.length_cons]; omega⟩, List.mem_map.mpr ⟨us, (mem_prod _ _).mpr h3, rfl⟩⟩
theorem near_one (w b : Nat) : NearL w b (b + 1) [.leaf (b : Int)] := fun t => by
  rw [List.mem_singleton]
  constructor
  · rintro rfl
    exact ⟨by show [(b : Int)] = seqI b (b + 1); unfold seqI; rw [show b + 1 - b = 1 by omega]; rfl, trivial⟩
  · rintro ⟨h1, h2⟩
    cases t with
    | leaf k =>
      have h1 : [k] = seqI b (b + 1) := h1
      unfold seqI at h1
      rw [show b + 1 - b = 1 by omega] at h1
      have h1 : [k] = [(b : Int)] := h1
      injection h1 with h1
      rw [h1]
    | node us =>
      have h3 := tLvs_len w us h2.2.2
      have h4 : (tLvs us).length = (b + 1) - b := by rw [show tLvs us = seqI b (b + 1) from h1, seqI_len]
      have h5 : 2 ≤ us.length := h2.1
      omega
def wsum (ps : List (Nat × Nat)) : Nat := (ps.map fun p => p.2 - p.1 - 1).sum
theorem prod_w {T : Nat → Nat → List PT} : ∀ (ps : List (Nat × Nat)) (F : List (List PT)), (∀ p ∈ ps, (T p.1 p.2).length ≤ 16 ^ (p.2 - p.1 - 1)) → ((ps.map fun p => T p.1 p.2).foldl prodS F).length ≤ F.length * 16 ^ wsum ps
  | [], F, _ => by show F.length ≤ F.length * 16 ^ 0; simp
  | p :: ps, F, h => by
    show ((ps.map fun p => T p.1 p.2).foldl prodS (prodS F (T p.1 p.2))).length ≤ _
    refine Nat.le_trans (prod_w ps _ fun q hq => h q (List.mem_cons_of_mem _ hq)) ?_
    rw [prodS_len]
    have h1 := h p (List.mem_cons_self ..)
    have e : wsum (p :: ps) = (p.2 - p.1 - 1) + wsum ps := by unfold wsum; rw [List.map_cons, List.sum_cons]
    rw [e, Nat.pow_add, ← Nat.mul_assoc]
    exact Nat.mul_le_mul_right _ (Nat.mul_le_mul_left _ h1)
theorem wsum_take (ps : List (Nat × Nat)) (i : Nat) : wsum (ps.take i) ≤ wsum ps := by
  have e : wsum ps = wsum (ps.take i) + wsum (ps.drop i) := by
    unfold wsum
    rw [← List.sum_append, ← List.map_append, List.take_append_drop]
  omega
theorem len_lt {e : Nat} : ∀ (r : List Nat) (y : Nat), (y :: r).Pairwise (· < ·) → (∀ z ∈ y :: r, z < e) → y + r.length < e
  | [], y, _, h => by have := h y (by simp); simpa using this
  | z :: r, y, hp, h => by
    have h1 := List.rel_of_pairwise_cons hp (List.mem_cons_self (a := z) (l := r))
    have h2 := len_lt r z (List.Pairwise.of_cons hp) (fun u hu => h u (List.mem_cons_of_mem _ hu))
    rw [List.length_cons]
    omega
theorem wsum_prs {e : Nat} : ∀ (r : List Nat) (x : Nat), (x :: r).Pairwise (· < ·) → (∀ y ∈ x :: r, y < e) → wsum (prs (x :: r) e) ≤ e - x - (r.length + 1)
  | [], x, _, _ => by show (e - x - 1) + 0 ≤ _; simp
  | y :: r, x, hp, ha => by
    rw [prs_cons]
    have e1 : wsum ((x, y) :: prs (y :: r) e) = (y - x - 1) + wsum (prs (y :: r) e) := by unfold wsum; rw [List.map_cons, List.sum_cons]
    have h1 := wsum_prs r y (List.Pairwise.of_cons hp) (fun z hz => ha z (List.mem_cons_of_mem _ hz))
    have h2 := List.rel_of_pairwise_cons hp (List.mem_cons_self (a := y) (l := r))
    have h3 := len_lt r y (List.Pairwise.of_cons hp) (fun z hz => ha z (List.mem_cons_of_mem _ hz))
    rw [e1, List.length_cons]
    omega
theorem cut_len {b e w : Nat} {T : Nat → Nat → List PT} {c : List Nat} (hc : IsCut b e w c ∧ 2 ≤ c.length) (hT : ∀ p ∈ prs c e, (T p.1 p.2).length ≤ 16 ^ (p.2 - p.1 - 1)) (i : Nat) : (prodT (((prs c e).map fun p => T p.1 p.2).take i)).length ≤ 16 ^ (e - b - 2) := by
  obtain ⟨⟨c1, c2, c3, c4⟩, c5⟩ := hc
  cases c with
  | nil => cases c1
  | cons x r =>
    cases c1
    rw [← List.map_take]
    have h1 := prod_w (T := T) ((prs (b :: r) e).take i) [[]] (fun p hp => hT p (List.mem_of_mem_take hp))
    rw [List.length_singleton, Nat.one_mul] at h1
    refine Nat.le_trans h1 (Nat.pow_le_pow_right (by omega) ?_)
    have h2 := wsum_take (prs (b :: r) e) i
    have h3 := wsum_prs r b c2 c3
    rw [List.length_cons] at c5
    omega
def spPut (K : PySem.W.Frag) : Sp := fun vs H Q _ => ∃ (d c : Addr) (kvs : List (List Key × V)) (cn : List Nat) (e : Nat) (T : Nat → Nat → List PT), vs = [.ref d, .ref c, .int e] ∧ H d = some (.dT kvs) ∧ H c = some (.lst ((toI cn).map V.int)) ∧ cn.length ≤ 12 ∧ cn ≠ [] ∧
  (∀ p ∈ prs cn e, ∃ l xs, lookK kvs (Kp p.1 p.2) = some (.ref l) ∧ H l = some (.lst xs) ∧ TVs H xs (T p.1 p.2)) ∧ (∀ i, (prodT (((prs cn e).map fun p => T p.1 p.2).take i)).length ≤ 65536) ∧ (∀ p ∈ prs cn e, (T p.1 p.2).length ≤ 65536) ∧
  ∀ (r : Addr) (xs : List V) (H' : Hp), H r = none → H' r = some (.lst xs) → TVs H' xs ((prodT ((prs cn e).map fun p => T p.1 p.2)).map PT.node) → Same H H' → Q (.ref r) H'
theorem ok_put (T : Tops K mg) : Df P w K mg base 1 "_law_put_beside" ["_law_trees_here", "_law_cuts_here", "_law_end"] (spPut K) := by
  refine T.t_l_put_beside.df sc_l_put_beside (fun vs H Q E h => ?_) (fun cdv f A outer s H vs Q E hr h => ?_)
  · obtain ⟨d, c, kvs, cn, e, U, rfl, _⟩ := h
    rfl
  obtain ⟨d, c, kvs, cn, e, U, rfl, hd, hc, h12, hne, hP, hB, hB2, q⟩ := h
  refine ⟨_, (@pss_cons _ _ _ _ _ (@ps_set _ _ 3 _ _ _ _ sc_l_put_beside.nd rfl (Or.inl rfl) (@pe_lst _ _ _ _ (@pa_cons _ _ _ _ _ (@pe_tup _ _ _ _ _ (@pa_nil _)) (@pa_nil _) (by rfl))) (by rfl) (by first | exact .inl rfl | exact .inr rfl)) (@pss_cons _ _ _ _ _ (@ps_for _ _ _ _ _ _ _ _ PassesOwn.never rfl (@iZN _ K _ _ _ _ _ _ _ T.b.n_zip (@pa_cons _ _ _ _ _ (@pv _ 1 _ _ (by rfl) (Or.inl rfl) (by decide) (by decide)) (@pa_cons _ _ _ _ _ (@pe_op _ _ _ _ _ _ _ _ op_cat (@pe_slice _ _ _ _ _ _ _ _ _ _ (slL K) (@pv _ 1 _ _ (by rfl) (Or.inl rfl) (by decide) (by decide)) (@po_some _ _ _ (@pe_int _ _ _ _)) (@po_none _)) (@pe_lst _ _ _ _ (@pa_cons _ _ _ _ _ (@pv _ 2 _ _ (by rfl) (Or.inl rfl) (by decide) (by decide)) (@pa_nil _) (by rfl)))) (@pa_nil _) (by rfl)) (by rfl)) (by rfl) (by rfl) (by rfl) (by rfl)) (@pg_name _ _ 4 _ sc_l_put_beside.nd rfl (Or.inl rfl) (by first | exact .inl rfl | exact .inr rfl)) (@pss_cons _ _ _ _ _ (@ps_set _ _ 5 _ _ _ _ sc_l_put_beside.nd rfl (Or.inl rfl) (@pe_lst _ _ _ _ (@pa_nil _)) (by rfl) (by first | exact .inl rfl | exact .inr rfl)) (@pss_cons _ _ _ _ _ (@ps_for _ _ _ _ _ _ _ _ PassesOwn.never rfl (@iL _ K _ _ _ (@pv _ 3 _ _ (by rfl) (Or.inl rfl) (by decide) (by decide)) (by rfl)) (@pg_name _ _ 6 _ sc_l_put_beside.nd rfl (Or.inr rfl) (by first | exact .inl rfl | exact .inr rfl)) (@pss_one _ _ _ (@ps_expr _ _ _ _ (@pe_bm _ _ _ _ _ _ _ _ _ _ _ _ PySem.F.plainAttrs_list PySem.F.slot_list_extend PySem.F.type_list_extend mt_extend (@pv _ 5 _ _ (by rfl) (Or.inl rfl) (by decide) (by decide)) (@pa_cons _ _ _ _ _ (@pe_comp _ _ _ _ _ _ _ _ _ _ _ _ _ _ cs_11 rfl rfl rfl (@iL _ K _ _ _ (@pe_ix _ _ _ _ _ _ _ (ixD hr) (@pv _ 0 _ _ (by rfl) (Or.inl rfl) (by decide) (by decide)) (@pv _ 4 _ _ (by rfl) (Or.inl rfl) (by decide) (by decide)) (fun _ _ => rfl)) (by rfl)) (fun _ _ _ _ => (@cg _ _ _ _ _ _ _ _ _ _ _ 7 cs_11 rfl (by decide +kernel) (by rfl))) (fun _ _ _ _ => (@pts_nil _)) (fun _ _ _ _ => (@pe_op _ _ _ _ _ _ _ _ (@catA _ K (by rfl)) (@cv _ _ _ _ _ _ _ _ _ _ _ 6 cs_11 rfl (by decide +kernel) (by rfl) (by decide) (by decide)) (@pe_tup _ _ _ _ _ (@pa_cons _ _ _ _ _ (@cw _ _ _ _ _ _ _ _ _ _ _ 7 cs_11 rfl (by decide +kernel) (by rfl) (by decide) (by decide)) (@pa_nil _) (by rfl))))) (by intro _; rfl)) (@pa_nil _) (by rfl)) (by rfl) (by rfl) (by rfl) (by rfl) (by rfl)) (by rfl))) (by intro _; rfl)) (@pss_one _ _ _ (@ps_set _ _ 3 _ _ _ _ sc_l_put_beside.nd rfl (Or.inl rfl) (@pv _ 5 _ _ (by rfl) (Or.inl rfl) (by decide) (by decide)) (by rfl) (by first | exact .inl rfl | exact .inr rfl))))) (by intro _; rfl)) (@pss_one _ _ _ (@ps_ret _ _ _ _ (@pv _ 3 _ _ (by rfl) (Or.inl rfl) (by decide) (by decide)))))), ?_⟩
  have hpos := List.length_pos_iff.mpr hne
  refine ⟨(by show 0 ≤ sizeLine; decide), fun e0 he0 => ⟨(by show 1 ≤ sizeLine; decide), fun r0 hr0 => ?_⟩⟩
  have s0 := same_new he0 (.tup [])
  have s1 := same_new hr0 (.lst [.ref e0])
  have nn : e0 ≠ r0 := ne_of_none (o := .tup []) upd_same hr0
  have hr0H : H r0 = none := s0.free hr0
  have f01 : (upd (upd H e0 (.tup [])) r0 (.lst [.ref e0])) r0 = some (.lst [.ref e0]) := upd_same
  have fe1 : (upd (upd H e0 (.tup [])) r0 (.lst [.ref e0])) e0 = some (.tup []) := by rw [upd_ne nn]; exact upd_same
  have s01 := s0.trans s1
  generalize upd (upd H e0 (.tup [])) r0 (.lst [.ref e0]) = H0 at f01 fe1 s01 ⊢
  refine ⟨_, rfl, _, rfl, _, rfl, c, _, rfl, SqL.of (s01 _ _ hc), fun sl hsl => ?_⟩
  rw [cutV_tail]
  have t1 := same_new hsl (.lst ((toI cn).map V.int).tail)
  have f1 : (upd H0 sl (.lst ((toI cn).map V.int).tail)) sl = some (.lst ((toI cn).map V.int).tail) := upd_same
  generalize upd H0 sl (.lst ((toI cn).map V.int).tail) = H1 at t1 f1 ⊢
  refine ⟨_, rfl, (by show 1 ≤ sizeLine; decide), fun l1 hl1 => ?_⟩
  have t2 := same_new hl1 (.lst [.int (e : Int)])
  have f2 : (upd H1 l1 (.lst [.int (e : Int)])) l1 = some (.lst [.int (e : Int)]) := upd_same
  generalize upd H1 l1 (.lst [.int (e : Int)]) = H2 at t2 f2 ⊢
  refine ⟨sl, l1, _, _, rfl, rfl, t2 _ _ f1, f2, (by rw [List.length_tail, List.length_map, toI_len]; exact Nat.le_of_lt (small1000 (by show cn.length - 1 + 1 ≤ 1000; omega))), fun c2 hc2 => ?_⟩
  have ecat : ((toI cn).map V.int).tail ++ [V.int (e : Int)] = (toI (cn.tail ++ [e])).map V.int := by unfold toI; rw [List.map_append, List.map_append, List.map_tail, List.map_tail]; rfl
  rw [ecat]
  have t3 := same_new hc2 (.lst ((toI (cn.tail ++ [e])).map V.int))
  have f3 : (upd H2 c2 (.lst ((toI (cn.tail ++ [e])).map V.int))) c2 = some (.lst ((toI (cn.tail ++ [e])).map V.int)) := upd_same
  generalize upd H2 c2 (.lst ((toI (cn.tail ++ [e])).map V.int)) = H3 at t3 f3 ⊢
  have t03 := (t1.trans t2).trans t3
  have sH3 := s01.trans t03
  have hc3 := sH3 _ _ hc
  have hl2 : (cn.tail ++ [e]).length = cn.length := by rw [List.length_append, List.length_tail, List.length_singleton]; omega
  refine ⟨.l c, .l c2, _, _, rfl, SqL.of hc3, SqL.of f3, ?_⟩
  refine for_zip (K := K) (S1 := .l c) (S2 := .l c2) (xs := (toI cn).map V.int) (ys := (toI (cn.tail ++ [e])).map V.int) (fun i σ H4 => ∃ (r : Addr) (xs : List V) (v4 v5 v6 : Option V), σ = [some (.ref d), some (.ref c), some (.int e), some (.ref r), v4, v5, v6] ∧ H r = none ∧ H4 r = some (.lst xs) ∧ TVs H4 xs ((prodT (((prs cn e).map fun p => U p.1 p.2).take i)).map PT.node) ∧ i ≤ cn.length ∧ Same H3 H4) ⟨r0, [.ref e0], none, none, none, rfl, hr0H, t03 _ _ f01, ?_, Nat.zero_le _, Same.refl _⟩ (fun _ _ _ ⟨_, _, _, _, _, _, _, _, _, _, s⟩ => ⟨SqL.of (s _ _ hc3), SqL.of (s _ _ f3)⟩) ?_ ?_
  · rw [List.take_zero]
    exact .cons (.node (xs := []) (t03 _ _ fe1) .nil) .nil
  · rintro i x y σ H4 p hx hy ⟨r, xs, v4, v5, v6, rfl, hrH, hr4, hT4, _, s4⟩ hp
    unfold toI at hx hy
    rw [List.map_map, List.getElem?_map] at hx hy
    cases hz : cn[i]? with
    | none => rw [hz] at hx; cases hx
    | some a =>
    cases hz2 : (cn.tail ++ [e])[i]? with
    | none => rw [hz2] at hy; cases hy
    | some b =>
    rw [hz] at hx
    rw [hz2] at hy
    cases hx
    cases hy
    have hil : i < cn.length := (List.getElem?_eq_some_iff.mp hz).1
    have hzip : (prs cn e)[i]? = some (a, b) := by unfold prs; rw [List.getElem?_zip_eq_some]; exact ⟨hz, hz2⟩
    have hL : ((prs cn e).map fun p => U p.1 p.2)[i]? = some (U a b) := by rw [List.getElem?_map, hzip]; rfl
    obtain ⟨tl, ws, hk, htl, hW⟩ := hP (a, b) (List.mem_of_getElem? hzip)
    have hB2' : (U a b).length ≤ 65536 := hB2 (a, b) (List.mem_of_getElem? hzip)
    have sp := same_new hp (.tup [(V.int ∘ fun x : Nat => (x : Int)) a, (V.int ∘ fun x : Nat => (x : Int)) b])
    have f5 : (upd H4 p (.tup [(V.int ∘ fun x : Nat => (x : Int)) a, (V.int ∘ fun x : Nat => (x : Int)) b])) p = some (.tup ((Kp a b).map kV)) := upd_same
    generalize upd H4 p (.tup [(V.int ∘ fun x : Nat => (x : Int)) a, (V.int ∘ fun x : Nat => (x : Int)) b]) = H5 at sp f5 ⊢
    have s35 := s4.trans sp
    have s05 := sH3.trans s35
    refine ⟨(by show 0 ≤ sizeLine; decide), fun lg hlg => ?_⟩
    have s6 := same_new hlg (.lst [])
    have f6 : (upd H5 lg (.lst [])) lg = some (.lst []) := upd_same
    have hr5 := sp _ _ hr4
    have nrl : r ≠ lg := ne_of_none hr5 hlg
    have hlgH : H lg = none := s05.free hlg
    have lF := hB i
    have lX : xs.length = (prodT (((prs cn e).map fun p => U p.1 p.2).take i)).length := by rw [hT4.len, List.length_map]
    have hT5 := hT4.mono (same_tup sp)
    refine ⟨_, rfl, r, rfl, ⟨_, SqL.of (s6 _ _ hr5)⟩, ?_⟩
    refine for_list (K := K) (a := r) (xs := xs) (fun j σ H7 => ∃ (ys : List V) (v6 : Option V), σ = [some (.ref d), some (.ref c), some (.int e), some (.ref r), some (.ref p), some (.ref lg), v6] ∧ H7 lg = some (.lst ys) ∧ TVs H7 ys ((prodS ((prodT (((prs cn e).map fun p => U p.1 p.2).take i)).take j) (U a b)).map PT.node) ∧ j ≤ xs.length ∧ Same H5 H7) ⟨[], v6, rfl, f6, ?_, Nat.zero_le _, s6⟩ (fun _ _ _ _ ⟨_, _, _, _, _, _, k⟩ => SqL.of (k _ _ hr5)) ?_ ?_
    · rw [List.take_zero]; exact .nil
    · rintro j z σ H7 hz ⟨ys, v6, rfl, hl7, hY, _, k7⟩
      obtain ⟨t, ht, hv⟩ := hT5.at hz
      have hjl := (List.getElem?_eq_some_iff.mp hz).1
      rw [List.getElem?_map] at ht
      cases hq : (prodT (((prs cn e).map fun p => U p.1 p.2).take i))[j]? with
      | none => rw [hq] at ht; cases ht
      | some ps =>
      rw [hq] at ht
      cases ht
      cases hv with
      | @node bb zs _ hb5 hZ5 =>
      have hb7 := k7 _ _ hb5
      have hZ7 := hZ5.mono (same_tup k7)
      have htl7 := k7 _ _ (s05 _ _ htl)
      have hW7 := hW.mono (same_tup (s05.trans k7))
      have hwl : ws.length = (U a b).length := by rw [hW.len]
      have hpl : zs.length ≤ 12 := by
        have h9 := (mem_prod _ _).mp (List.mem_of_getElem? hq)
        rw [hZ5.len]
        have h8 : ∀ (ps : List PT) (Ls : List (List PT)), P2 ps Ls → ps.length = Ls.length := fun ps => by
          induction ps with
          | nil => intro Ls h; cases Ls with
            | nil => rfl
            | cons => exact h.elim
          | cons t r ih => intro Ls h; cases Ls with
            | nil => exact h.elim
            | cons L Ls => rw [List.length_cons, List.length_cons, ih Ls h.2]
        rw [h8 _ _ h9, List.length_take]
        omega
      refine ⟨_, rfl, .inl ⟨rfl, _, SqL.of hl7⟩, _, rfl, _, rfl, d, kvs, p, Kp a b, _, rfl, rfl, (s05.trans k7) _ _ hd, k7 _ _ f5, hk, ?_⟩
      refine ⟨tl, rfl, ⟨_, SqL.of htl7⟩, fun D hD => ?_⟩
      refine comp_list (K := K) (a := tl) (xs := ws) (fun m us σ H8 => (∃ v : Option V, σ = [some (.ref d), some (.ref c), some (.int e), some (.ref r), some (.ref p), some (.ref lg), some (.ref bb), v]) ∧ H8 D = some (.lst us) ∧ us.length = m ∧ m ≤ ws.length ∧ TVs H8 us (((U a b).take m).map fun t => PT.node (ps ++ [t])) ∧ Same H7 H8) ⟨⟨none, rfl⟩, upd_same, rfl, Nat.zero_le _, .nil, same_new hD _⟩ (fun _ _ _ _ h => SqL.of (h.2.2.2.2.2 _ _ htl7)) ?_ ?_
      · rintro m u us σ H8 hu ⟨⟨v, rfl⟩, hD8, hul, _, hU, k8⟩
        obtain ⟨t, ht, hv⟩ := hW7.at hu
        have hml := (List.getElem?_eq_some_iff.mp hu).1
        refine ⟨_, rfl, _, rfl, (by show 1 ≤ sizeLine; decide), fun p2 hp2 => ?_⟩
        have s9 := same_new hp2 (.tup [u])
        have f9 : (upd H8 p2 (.tup [u])) p2 = some (.tup [u]) := upd_same
        generalize upd H8 p2 (.tup [u]) = H9 at s9 f9 ⊢
        refine catA_go (s9 _ _ (k8 _ _ hb7)) f9 (by rw [List.length_singleton, sizeLine_eq]; omega) fun r3 H10 s10 h10 => ?_
        have s810 : Same H8 H10 := fun x o hx => s10 x o (s9 x o hx)
        have hD10 := s810 _ _ hD8
        refine ⟨hD10, by rw [hul, sizeLine_eq]; omega, ⟨_, rfl⟩, upd_same, by rw [List.length_append, hul]; rfl, hml, ?_, fun x o hx => ?_⟩
        · rw [List.take_add_one, ht, List.map_append]
          refine TVs.app ((hU.mono (same_tup s810)).mono (tup_upd hD10 _)) (.cons (TV.mono (tup_upd hD10 _) (.node h10 ?_)) .nil)
          exact TVs.app (hZ7.mono (same_tup (k8.trans s810))) (.cons (hv.mono (same_tup (k8.trans s810))) .nil)
        · rw [upd_ne (ne_of_none hx hD)]; exact s810 _ _ (k8 x o hx)
      · rintro us σ H8 ⟨⟨v, rfl⟩, hD8, hul, _, hU, k8⟩
        have hl8 := k8 _ _ hl7
        have hyl : ys.length ≤ j * (U a b).length := by
          rw [hY.len, List.length_map, prodS_len]
          exact Nat.mul_le_mul_right _ (by rw [List.length_take]; exact Nat.min_le_left _ _)
        have hnx := hB (i + 1)
        rw [prod_take _ hL, prodS_len] at hnx
        have hys : ys.length + us.length ≤ sizeLine := by
          have h9 : j * (U a b).length ≤ (prodT (((prs cn e).map fun p => U p.1 p.2).take i)).length * (U a b).length := Nat.mul_le_mul_right _ (by omega)
          rw [sizeLine_eq]; omega
        refine ⟨lg, D, ys, us, rfl, rfl, hl8, hD8, hys, _, _, rfl, upd_same, ?_, hjl, fun x o hx => ?_⟩
        · have t8 := tup_upd hl8 (.lst (ys ++ us))
          have ep : prodS ((prodT (((prs cn e).map fun p => U p.1 p.2).take i)).take (j + 1)) (U a b) = prodS ((prodT (((prs cn e).map fun p => U p.1 p.2).take i)).take j) (U a b) ++ (U a b).map fun t => ps ++ [t] := by
            unfold prodS
            rw [List.take_add_one, hq, List.flatMap_append]
            show _ ++ (((U a b).map fun t => ps ++ [t]) ++ []) = _
            rw [List.append_nil]
          rw [ep, List.map_append, List.map_map]
          rw [hwl, List.take_of_length_le (Nat.le_refl _)] at hU
          exact TVs.app ((hY.mono (same_tup k8)).mono t8) (hU.mono t8)
        · rw [upd_ne (ne_of_none hx hlg)]; exact k8 _ _ (k7 x o hx)
    · rintro σ H7 ⟨ys, v6, rfl, hl7, hY, _, k7⟩
      rw [lX, List.take_of_length_le (Nat.le_refl _)] at hY
      refine ⟨_, rfl, lg, ys, _, _, _, rfl, hlgH, hl7, ?_, hil, s35.trans k7⟩
      rw [prod_take _ hL]; exact hY
  · rintro σ H4 ⟨r, xs, v4, v5, v6, rfl, hrH, hr4, hT4, _, s4⟩
    rw [List.take_of_length_le (by rw [List.length_map, prs_len, List.length_map, List.length_map, toI_len, toI_len, hl2]; omega)] at hT4
    exact ⟨_, rfl, q r xs H4 hrH hr4 hT4 (sH3.trans s4)⟩
theorem pick2 {α : Type} {Pr : Nat → Nat → α → Prop} {C : Nat → Nat → Prop} (dflt : α) (h : ∀ b e, C b e → ∃ x, Pr b e x) : ∃ f : Nat → Nat → α, ∀ b e, C b e → Pr b e (f b e) := by
  classical
  refine ⟨fun b e => if hc : C b e then Classical.choose (h b e hc) else dflt, fun b e hc => ?_⟩
  have e9 : (if hc : C b e then Classical.choose (h b e hc) else dflt) = Classical.choose (h b e hc) := dif_pos hc
  simp only [e9]
  exact Classical.choose_spec (h b e hc)
def tBd (m : Nat) : Nat := 2 ^ (m - 1) * 16 ^ (m - 2)
theorem tBd_small {m : Nat} (h : m ≤ 5) : tBd m ≤ 16 ^ (m - 1) := by
  have : ∀ m : Fin 6, tBd m.1 ≤ 16 ^ (m.1 - 1) := by decide
  exact this ⟨m, by omega⟩
theorem tBd_max {m : Nat} (h : m ≤ 6) : tBd m ≤ 2097152 := by
  have : ∀ m : Fin 7, tBd m.1 ≤ 2097152 := by decide
  exact this ⟨m, by omega⟩
def HasTs (w : Nat) (H : Hp) (kvs : List (List Key × V)) (b e : Nat) (ts : List PT) : Prop := ∃ (l : Addr) (xs : List V), lookK kvs (Kp b e) = some (.ref l) ∧ H l = some (.lst xs) ∧ TVs H xs ts ∧ NearL w b e ts ∧ ts.length ≤ tBd (e - b)
structure TSt (w n : Nat) (H0 H : Hp) (d : Addr) (kvs : List (List Key × V)) (i j : Nat) : Prop where
  hd : H d = some (.dT kvs)
  has : ∀ b e, b < e → e ≤ n → (e - b < 1 + i ∨ (e - b = 1 + i ∧ b < j)) → ∃ ts, HasTs w H kvs b e ts
  no : ∀ b e, lookK kvs (Kp b e) ≠ none → b < e ∧ (e - b < 1 + i ∨ (e - b = 1 + i ∧ b < j))
  len : kvs.length ≤ 6 * i + j
  sm : Same H0 H
  nd : H0 d = none
def spTrees : Sp := fun vs H Q _ => ∃ (n wy : Nat), vs = [.int n, .int wy] ∧ 1 ≤ n ∧ n ≤ 6 ∧ 2 ≤ wy ∧ wy ≤ 6 ∧
  ∀ (d : Addr) (kvs : List (List Key × V)) (ts : List PT) (H' : Hp), H' d = some (.dT kvs) → HasTs wy H' kvs 0 n ts → Same H H' → Q (.ref d) H'
theorem ite_any {c : Bool} {e1 e2 : VK → Prop} {Q : VK} (G : V → Hp → Prop) (h1 : c = true → ∀ Q' : VK, (∀ v H, G v H → Q' v H) → e1 Q') (h2 : ¬ c = true → ∀ Q' : VK, (∀ v H, G v H → Q' v H) → e2 Q') (q : ∀ v H, G v H → Q v H) : if c = true then e1 Q else e2 Q := by
  split
  · exact h1 (by assumption) Q q
  · exact h2 (by assumption) Q q
theorem flat_bd {F : List Nat → List PT} {N : Nat} : ∀ (Cn : List (List Nat)), (∀ c ∈ Cn, (F c).length ≤ N) → (Cn.flatMap F).length ≤ Cn.length * N
  | [], _ => Nat.zero_le _
  | c :: Cn, h => by
    rw [List.flatMap_cons, List.length_append, List.length_cons, Nat.succ_mul]
    have h1 := flat_bd Cn fun c hc => h c (List.mem_cons_of_mem _ hc)
    have h2 := h c (List.mem_cons_self ..)
    omega
theorem ok_trees (T : Tops K mg) (f_l_cuts : Df P w K mg base 1 "_law_cuts" ["_law_begin", "_law_end", "_law_ways_here"] spCuts) (f_l_put_beside : Df P w K mg base 1 "_law_put_beside" ["_law_trees_here", "_law_cuts_here", "_law_end"] (spPut K)) : Df P w K mg base 2 "_law_trees" ["_law_many_here", "_law_ways_here"] spTrees := by
  refine T.t_l_trees.df sc_l_trees (fun vs H Q E h => ?_) (fun cdv f A outer s H vs Q E hr h => ?_)
  · obtain ⟨n, wy, rfl, _⟩ := h
    rfl
  obtain ⟨n, wy, rfl, n1, n6, w2, w6, q⟩ := h
  refine ⟨_, (@pss_cons _ _ _ _ _ (@ps_set _ _ 2 _ _ _ _ sc_l_trees.nd rfl (Or.inl rfl) (@pe_newT _ _) (by rfl) (by first | exact .inl rfl | exact .inr rfl)) (@pss_cons _ _ _ _ _ (@ps_for _ _ _ _ _ _ _ _ PassesOwn.never rfl (@pi_range2 _ _ _ _ _ _ _ rfl T.b.n_range (@pa_cons _ _ _ _ _ (@pe_int _ _ _ _) (@pa_cons _ _ _ _ _ (@pe_op _ _ _ _ _ _ _ _ op_add (@pv _ 0 _ _ (by rfl) (Or.inl rfl) (by decide) (by decide)) (@pe_int _ _ _ _)) (@pa_nil _) (by rfl)) (by rfl)) (by rfl) (by rfl)) (@pg_name _ _ 3 _ sc_l_trees.nd rfl (Or.inl rfl) (by first | exact .inl rfl | exact .inr rfl)) (@pss_one _ _ _ (@ps_for _ _ _ _ _ _ _ _ PassesOwn.never rfl (@pi_range1 _ _ _ _ _ _ rfl T.b.n_range (@pa_cons _ _ _ _ _ (@pe_op _ _ _ _ _ _ _ _ op_add (@pe_op _ _ _ _ _ _ _ _ op_sub (@pv _ 0 _ _ (by rfl) (Or.inl rfl) (by decide) (by decide)) (@pv _ 3 _ _ (by rfl) (Or.inl rfl) (by decide) (by decide))) (@pe_int _ _ _ _)) (@pa_nil _) (by rfl)) (by rfl)) (@pg_name _ _ 4 _ sc_l_trees.nd rfl (Or.inl rfl) (by first | exact .inl rfl | exact .inr rfl)) (@pss_cons _ _ _ _ _ (@ps_set _ _ 5 _ _ _ _ sc_l_trees.nd rfl (Or.inl rfl) (@pe_op _ _ _ _ _ _ _ _ op_add (@pv _ 4 _ _ (by rfl) (Or.inl rfl) (by decide) (by decide)) (@pv _ 3 _ _ (by rfl) (Or.inl rfl) (by decide) (by decide))) (by rfl) (by first | exact .inl rfl | exact .inr rfl)) (@pss_cons _ _ _ _ _ (@ps_asg _ _ _ _ _ _ (@pe_ifExp _ _ _ _ _ _ _ _ (@pt_cmpR _ _ _ _ _ _ _ _ op_eq (@pv _ 3 _ _ (by rfl) (Or.inl rfl) (by decide) (by decide)) (@pe_int _ _ _ _) (nomark _)) (@pe_lst _ _ _ _ (@pa_cons _ _ _ _ _ (@pv _ 4 _ _ (by rfl) (Or.inl rfl) (by decide) (by decide)) (@pa_nil _) (by rfl))) (@pe_lst _ _ _ _ (@pa_nil _))) (@pg_sub _ _ _ _ _ _ _ (@pv _ 2 _ _ (by rfl) (Or.inl rfl) (by decide) (by decide)) (@pe_tup _ _ _ _ _ (@pa_cons _ _ _ _ _ (@pv _ 4 _ _ (by rfl) (Or.inl rfl) (by decide) (by decide)) (@pa_cons _ _ _ _ _ (@pv _ 5 _ _ (by rfl) (Or.inl rfl) (by decide) (by decide)) (@pa_nil _) (by rfl)) (by rfl))) (setD hr) (by intro _; rfl)) (by rfl) (by rfl) (by rfl)) (@pss_one _ _ _ (@ps_for _ _ _ _ _ _ _ _ PassesOwn.never rfl (@iL _ K _ _ _ (@pe_df _ _ _ _ _ _ _ _ _ _ _ f_l_cuts hr (@pa_cons _ _ _ _ _ (@pv _ 4 _ _ (by rfl) (Or.inl rfl) (by decide) (by decide)) (@pa_cons _ _ _ _ _ (@pv _ 5 _ _ (by rfl) (Or.inl rfl) (by decide) (by decide)) (@pa_cons _ _ _ _ _ (@pv _ 1 _ _ (by rfl) (Or.inl rfl) (by decide) (by decide)) (@pa_nil _) (by rfl)) (by rfl)) (by rfl)) (by first | decide | exact Nat.le_refl _ | omega) (by rfl) (by decide) (by rfl) (by rfl)) (by rfl)) (@pg_name _ _ 6 _ sc_l_trees.nd rfl (Or.inl rfl) (by first | exact .inl rfl | exact .inr rfl)) (@pss_one _ _ _ (@ps_expr _ _ _ _ (@pe_bm _ _ _ _ _ _ _ _ _ _ _ _ PySem.F.plainAttrs_list PySem.F.slot_list_extend PySem.F.type_list_extend mt_extend (@pe_ix _ _ _ _ _ _ _ (ixD hr) (@pv _ 2 _ _ (by rfl) (Or.inl rfl) (by decide) (by decide)) (@pe_tup _ _ _ _ _ (@pa_cons _ _ _ _ _ (@pv _ 4 _ _ (by rfl) (Or.inl rfl) (by decide) (by decide)) (@pa_cons _ _ _ _ _ (@pv _ 5 _ _ (by rfl) (Or.inl rfl) (by decide) (by decide)) (@pa_nil _) (by rfl)) (by rfl))) (fun _ _ => rfl)) (@pa_cons _ _ _ _ _ (@pe_df _ _ _ _ _ _ _ _ _ _ _ f_l_put_beside hr (@pa_cons _ _ _ _ _ (@pv _ 2 _ _ (by rfl) (Or.inl rfl) (by decide) (by decide)) (@pa_cons _ _ _ _ _ (@pv _ 6 _ _ (by rfl) (Or.inl rfl) (by decide) (by decide)) (@pa_cons _ _ _ _ _ (@pv _ 5 _ _ (by rfl) (Or.inl rfl) (by decide) (by decide)) (@pa_nil _) (by rfl)) (by rfl)) (by rfl)) (by first | decide | exact Nat.le_refl _ | omega) (by rfl) (by decide) (by rfl) (by rfl)) (@pa_nil _) (by rfl)) (by rfl) (by rfl) (by rfl) (by rfl) (by rfl)) (by rfl))) (by intro _; rfl))))) (by intro _; rfl))) (by intro _; rfl)) (@pss_one _ _ _ (@ps_ret _ _ _ _ (@pv _ 2 _ _ (by rfl) (Or.inl rfl) (by decide) (by decide)))))), ?_⟩
  refine fun d hd0 => ?_
  have st0 : TSt wy n H (upd H d (.dT [])) d [] 0 0 := ⟨upd_same, fun b e h1 h2 h3 => by omega, fun b e h => absurd rfl h, Nat.zero_le _, same_new hd0 _, hd0⟩
  generalize upd H d (.dT []) = H1 at st0 ⊢
  refine ⟨_, rfl, _, _, rfl, rfl, _, _, rfl, ⟨by omega, by omega, by omega, by omega⟩, ?_⟩
  rw [show ((n : Int) + 1 - 1).toNat = n by omega]
  refine for_range (fun i σ H2 => ∃ (kvs : List (List Key × V)) (v3 v4 v5 v6 : Option V), σ = [some (.int n), some (.int wy), some (.ref d), v3, v4, v5, v6] ∧ i ≤ n ∧ TSt wy n H H2 d kvs i 0) ⟨[], _, _, _, _, rfl, Nat.zero_le _, st0⟩ ?_ ?_
  · rintro i σ H2 hi ⟨kvs, v3, v4, v5, v6, rfl, _, st2⟩
    rw [show ((1 : Int) + (i : Int)) = ((1 + i : Nat) : Int) by omega]
    refine ⟨_, rfl, _, rfl, _, _, rfl, rfl, _, _, rfl, rfl, _, rfl, by omega, by omega, ?_⟩
    rw [show ((n : Int) - ((1 + i : Nat) : Int) + 1).toNat = n - i by omega]
    refine for_range (fun j σ H3 => ∃ (kvs : List (List Key × V)) (v4 v5 v6 : Option V), σ = [some (.int n), some (.int wy), some (.ref d), some (.int ((1 + i : Nat) : Int)), v4, v5, v6] ∧ j ≤ n - i ∧ TSt wy n H H3 d kvs i j) ⟨kvs, _, _, _, rfl, Nat.zero_le _, st2⟩ ?_ ?_
    · clear st2
      rintro j σ H3 hj ⟨kvs, v4, v5, v6, rfl, _, st3⟩
      rw [show ((0 : Int) + (j : Int)) = (j : Int) by omega]
      refine ⟨_, rfl, _, rfl, _, _, rfl, rfl, ?_⟩
      simp only [show ((j : Int) + ((1 + i : Nat) : Int)) = ((j + 1 + i : Nat) : Int) by omega]
      have hen : j + 1 + i ≤ n := by omega
      have hne : lookK kvs (Kp j (j + 1 + i)) = none := by
        cases hk : lookK kvs (Kp j (j + 1 + i)) with
        | none => rfl
        | some v => have := (st3.no j (j + 1 + i) (by rw [hk]; exact fun h => nomatch h)).2; omega
      obtain ⟨U, hU⟩ := pick2 (Pr := fun b e ts => HasTs wy H3 kvs b e ts) (C := fun b e => b < e ∧ e ≤ n ∧ (e - b < 1 + i ∨ (e - b = 1 + i ∧ b < j))) [] (fun b e hc => st3.has b e hc.1 hc.2.1 hc.2.2)
      refine ⟨_, rfl, rfl, _, rfl, ?_⟩
      refine ite_any (fun v H4 => ∃ (l : Addr) (zs : List V) (ts0 : List PT), v = .ref l ∧ H3 l = none ∧ H4 = upd H3 l (.lst zs) ∧ (∀ H', TVs H' zs ts0) ∧ (i = 0 → ts0 = [.leaf (j : Int)]) ∧ (0 < i → ts0 = [])) ?_ ?_ ?_
      · intro hc Q' q'
        have hc := of_decide_eq_true hc
        have hc : ((1 + i : Nat) : Int) = 1 := by injection hc
        exact ⟨_, rfl, (by show 1 ≤ sizeLine; decide), fun l hl => q' _ _ ⟨l, _, [.leaf (j : Int)], rfl, hl, rfl, fun H' => .cons (.leaf _) .nil, fun _ => rfl, fun h => by omega⟩⟩
      · intro hc Q' q'
        have hc : i ≠ 0 := fun z => hc (decide_eq_true (by rw [z]; rfl))
        exact ⟨(by show 0 ≤ sizeLine; decide), fun l hl => q' _ _ ⟨l, _, [], rfl, hl, rfl, fun H' => .nil, fun h => absurd h hc, fun _ => rfl⟩⟩
      rintro v H4 ⟨l, zs, ts0, rfl, hl3, rfl, hT0, h00, h01⟩
      have s4 := same_new hl3 (.lst zs)
      have f4 : (upd H3 l (.lst zs)) l = some (.lst zs) := upd_same
      generalize upd H3 l (.lst zs) = H4 at s4 f4 ⊢
      have hzl : zs.length ≤ 1 := by
        rw [(hT0 H3).len]
        by_cases h : i = 0
        · rw [h00 h]; exact Nat.le_refl 1
        · rw [h01 (by omega)]; exact Nat.zero_le 1
      refine ⟨_, rfl, _, rfl, _, rfl, (by show 2 ≤ sizeLine; decide), fun kp hkp => ?_⟩
      have s5 := same_new hkp (.tup ((Kp j (j + 1 + i)).map kV))
      have f5 : (upd H4 kp (.tup ((Kp j (j + 1 + i)).map kV))) kp = some (.tup ((Kp j (j + 1 + i)).map kV)) := upd_same
      change rSetDT _ _ _ (upd H4 kp (.tup ((Kp j (j + 1 + i)).map kV))) _
      generalize upd H4 kp (.tup ((Kp j (j + 1 + i)).map kV)) = H5 at s5 f5 ⊢
      have s35 := s4.trans s5
      have hd5 := s35 _ _ st3.hd
      have hl5 := s5 _ _ f4
      have nld : l ≠ d := fun z => by rw [z, st3.hd] at hl3; cases hl3
      have hlen := st3.len
      refine ⟨d, kvs, kp, _, rfl, rfl, hd5, f5, hne, by rw [sizeLine_eq]; omega, ?_⟩
      have k6 : ∀ x o, H5 x = some o → x ≠ d → (upd H5 d (.dT (kvs ++ [(Kp j (j + 1 + i), .ref l)]))) x = some o := fun x o hx nx => by rw [upd_ne nx]; exact hx
      have hd6 : (upd H5 d (.dT (kvs ++ [(Kp j (j + 1 + i), .ref l)]))) d = some (.dT (kvs ++ [(Kp j (j + 1 + i), .ref l)])) := upd_same
      generalize upd H5 d (.dT (kvs ++ [(Kp j (j + 1 + i), .ref l)])) = H6 at k6 hd6 ⊢
      have hl6 := k6 _ _ hl5 nld
      have t36 : ∀ x xs, H3 x = some (.tup xs) → H6 x = some (.tup xs) := fun x xs hx => k6 _ _ (s35 _ _ hx) (fun z => by rw [z, st3.hd] at hx; cases hx)
      have hlk : ∀ b e v, lookK kvs (Kp b e) = some v → lookK (kvs ++ [(Kp j (j + 1 + i), .ref l)]) (Kp b e) = some v := fun b e v hv => by rw [lookK_app, hv]; rfl
      have hlkn : lookK (kvs ++ [(Kp j (j + 1 + i), .ref l)]) (Kp j (j + 1 + i)) = some (.ref l) := by rw [lookK_app, hne, if_pos rfl]; rfl
      refine ⟨_, rfl, _, rfl, _, rfl, j, j + 1 + i, wy, rfl, by omega, by omega, w2, w6, fun r ls Cn H7 hr7 rd7 hC hCl s7 => ?_⟩
      have hls : ls.length = Cn.length := by rw [rd7.len, List.length_map]
      have nrl : r ≠ l := fun z => by
        have := s7 _ _ hl6
        rw [← z, hr7] at this
        have e1 : ls.map V.ref = zs := by injection this with h; injection h
        have h2 := (hT0 H3)
        by_cases h : i = 0
        · rw [h00 h] at h2
          cases h2 with
          | cons a b => cases a; cases ls with
            | nil => cases e1
            | cons x y => cases e1
        · have : 0 < Cn.length := by
            have : [j, j + 1] ∈ Cn := (hC _).mpr ⟨⟨rfl, by simp, fun x hx => by simp at hx; omega, by simp; omega⟩, by simp⟩
            exact List.length_pos_of_mem this
          have h3 := h2.len
          rw [h01 (by omega)] at h3
          rw [← e1, List.length_map, hls, List.length_nil] at h3
          omega
      have F : List Nat → List PT := fun c => (prodT ((prs c (j + 1 + i)).map fun p => U p.1 p.2)).map PT.node
      clear F
      have hw5 : ∀ y z, j ≤ y → y < z → z ≤ j + 1 + i → ¬ (y = j ∧ z = j + 1 + i) → HasTs wy H3 kvs y z (U y z) := fun y z a1 a2 a3 a4 => hU y z ⟨a2, by omega, by omega⟩
      have hpr : ∀ c ∈ Cn, ∀ p ∈ prs c (j + 1 + i), j ≤ p.1 ∧ p.1 < p.2 ∧ p.2 ≤ j + 1 + i ∧ ¬ (p.1 = j ∧ p.2 = j + 1 + i) := fun c hc p hp => by
        obtain ⟨⟨c1, c2, c3, c4⟩, c5⟩ := (hC c).mp hc
        cases c with
        | nil => cases c1
        | cons x r' =>
          cases c1
          obtain ⟨a1, a2, a3, a4⟩ := zip_pairs r' j c2 c3 p.1 p.2 hp
          refine ⟨a1, a2, a3, fun ⟨h1, h2⟩ => ?_⟩
          have := a4 (fun z => by rw [z] at c5; simp at c5) h1
          omega
      have hUl : ∀ c ∈ Cn, ∀ p ∈ prs c (j + 1 + i), (U p.1 p.2).length ≤ 16 ^ (p.2 - p.1 - 1) := fun c hc p hp => by
        obtain ⟨a1, a2, a3, a4⟩ := hpr c hc p hp
        obtain ⟨_, _, _, _, _, _, hb⟩ := hw5 p.1 p.2 a1 a2 a3 a4
        exact Nat.le_trans hb (tBd_small (by omega))
      have hFl : ∀ c ∈ Cn, ((prodT ((prs c (j + 1 + i)).map fun p => U p.1 p.2)).map PT.node).length ≤ 16 ^ (j + 1 + i - j - 2) := fun c hc => by
        have := cut_len (T := U) ((hC c).mp hc) (hUl c hc) c.length
        rw [List.take_of_length_le (by rw [List.length_map, prs_len]; exact Nat.le_refl _)] at this
        rw [List.length_map]; exact this
      have p16 : (16 : Nat) ^ (j + 1 + i - j - 2) ≤ 65536 := Nat.le_trans (Nat.pow_le_pow_right (by omega) (show j + 1 + i - j - 2 ≤ 4 by omega)) (by decide)
      have p2c : Cn.length ≤ 32 := Nat.le_trans hCl (Nat.le_trans (Nat.pow_le_pow_right (by omega) (show j + 1 + i - (j + 1) ≤ 5 by omega)) (by decide))
      refine ⟨r, rfl, ⟨_, SqL.of hr7⟩, ?_⟩
      refine for_list (K := K) (a := r) (xs := ls.map V.ref) (fun k σ H8 => ∃ (ys : List V) (v6 : Option V), σ = [some (.int n), some (.int wy), some (.ref d), some (.int ((1 + i : Nat) : Int)), some (.int (j : Int)), some (.int ((j + 1 + i : Nat) : Int)), v6] ∧ H8 l = some (.lst ys) ∧ TVs H8 ys (ts0 ++ (Cn.take k).flatMap fun c => (prodT ((prs c (j + 1 + i)).map fun p => U p.1 p.2)).map PT.node) ∧ k ≤ ls.length ∧ (∀ x o, H7 x = some o → x ≠ l → H8 x = some o)) ⟨zs, v6, rfl, s7 _ _ hl6, by rw [List.take_zero]; show TVs H7 zs (ts0 ++ []); rw [List.append_nil]; exact hT0 H7, Nat.zero_le _, fun x o hx _ => hx⟩ (fun _ _ _ _ ⟨_, _, _, _, _, _, k⟩ => SqL.of (k _ _ hr7 nrl)) ?_ ?_
      · rintro k x σ H8 hx ⟨ys, v6, rfl, hl8, hY, _, k8⟩
        rw [List.getElem?_map] at hx
        cases hz : ls[k]? with
        | none => rw [hz] at hx; cases hx
        | some lc =>
        rw [hz] at hx
        cases hx
        have hkl : k < ls.length := (List.getElem?_eq_some_iff.mp hz).1
        obtain ⟨dd, hd1, hdd⟩ := rd7.at hz
        rw [List.getElem?_map] at hd1
        cases hc : Cn[k]? with
        | none => rw [hc] at hd1; cases hd1
        | some c =>
        rw [hc] at hd1
        cases hd1
        have hcin := List.mem_of_getElem? hc
        have hcut := (hC c).mp hcin
        have nlc : lc ≠ l := fun z => by
          have := s7 _ _ hl6
          rw [← z, hdd] at this
          have e1 : (toI c).map V.int = zs := by injection this with h; injection h
          have := congrArg List.length e1
          rw [List.length_map, toI_len] at this
          have := hcut.2
          omega
        have hd8 := k8 _ _ (s7 _ _ hd6) (fun z => nld z.symm)
        have hc8 := k8 _ _ hdd nlc
        refine ⟨_, rfl, _, rfl, _, rfl, (by show 2 ≤ sizeLine; decide), fun kq hkq => ?_⟩
        have s9 := same_new hkq (.tup ((Kp j (j + 1 + i)).map kV))
        have f9 : (upd H8 kq (.tup ((Kp j (j + 1 + i)).map kV))) kq = some (.tup ((Kp j (j + 1 + i)).map kV)) := upd_same
        change rIxD _ _ (upd H8 kq (.tup ((Kp j (j + 1 + i)).map kV))) _
        generalize upd H8 kq (.tup ((Kp j (j + 1 + i)).map kV)) = H9 at s9 f9 ⊢
        have hl9 := s9 _ _ hl8
        refine ⟨d, _, kq, _, _, rfl, rfl, s9 _ _ hd8, f9, hlkn, show L2.tyV K "list" (.ref l) H9 from .inl ⟨rfl, _, SqL.of hl9⟩, ?_⟩
        have t39 : ∀ x xs, H3 x = some (.tup xs) → H9 x = some (.tup xs) := fun x xs hx => s9 _ _ (k8 _ _ (s7 _ _ (t36 x xs hx)) (fun z => by rw [z, hl3] at hx; cases hx))
        refine ⟨_, rfl, _, rfl, _, rfl, d, lc, _, c, j + 1 + i, U, rfl, s9 _ _ hd8, s9 _ _ hc8, Nat.le_trans hcut.1.2.2.2 (by omega), (fun z => by rw [z] at hcut; simp at hcut), fun p hp => ?_, fun m => Nat.le_trans (cut_len (T := U) hcut (hUl c hcin) m) p16, fun p hp => Nat.le_trans (hUl c hcin p hp) ?_, fun r2 us H10 hr2 hr10 hU10 s10 => ?_⟩
        · obtain ⟨a1, a2, a3, a4⟩ := hpr c hcin p hp
          obtain ⟨lq, xq, g1, g2, g3, g4, g5⟩ := hw5 p.1 p.2 a1 a2 a3 a4
          refine ⟨lq, xq, hlk _ _ _ g1, s9 _ _ (k8 _ _ (s7 _ _ (k6 _ _ (s35 _ _ g2) (fun z => by rw [z, st3.hd] at g2; cases g2))) (fun z => by rw [z, hl3] at g2; cases g2)), g3.mono t39⟩
        · obtain ⟨a1, a2, a3, a4⟩ := hpr c hcin p hp
          exact Nat.le_trans (Nat.pow_le_pow_right (by omega) (show p.2 - p.1 - 1 ≤ 4 by omega)) (by decide)
        have hl10 := s10 _ _ hl9
        have hyl : ys.length ≤ 1 + 32 * 65536 := by
          rw [hY.len, List.length_append]
          have h1 : ts0.length ≤ 1 := by rw [← (hT0 H3).len]; exact hzl
          have h2 := flat_bd (Cn.take k) fun c hc => Nat.le_trans (hFl c (List.mem_of_mem_take hc)) p16
          have h3 : (Cn.take k).length * 65536 ≤ 32 * 65536 := Nat.mul_le_mul_right _ (by rw [List.length_take]; omega)
          omega
        have hul : us.length ≤ 65536 := by
          rw [hU10.len]
          exact Nat.le_trans (hFl c hcin) p16
        refine ⟨l, r2, ys, us, rfl, rfl, hl10, hr10, by rw [sizeLine_eq]; omega, _, _, rfl, upd_same, ?_, hkl, fun x o hx nx => ?_⟩
        · have t10 := tup_upd hl10 (.lst (ys ++ us))
          rw [List.take_add_one, hc, List.flatMap_append]
          have ef : ([c].flatMap fun c => (prodT ((prs c (j + 1 + i)).map fun p => U p.1 p.2)).map PT.node) = (prodT ((prs c (j + 1 + i)).map fun p => U p.1 p.2)).map PT.node := by rw [List.flatMap_cons, List.flatMap_nil, List.append_nil]
          show TVs _ _ (ts0 ++ (_ ++ [c].flatMap _))
          rw [ef, ← List.append_assoc]
          exact TVs.app ((hY.mono (same_tup (s9.trans s10))).mono t10) (hU10.mono t10)
        · rw [upd_ne nx]; exact s10 _ _ (s9 _ _ (k8 x o hx nx))
      · rintro σ H8 ⟨ys, v6, rfl, hl8, hY, _, k8⟩
        rw [List.length_map, hls, List.take_of_length_le (Nat.le_refl _)] at hY
        have hd8 := k8 _ _ (s7 _ _ hd6) (fun z => nld z.symm)
        have k38 : ∀ x o, H3 x = some o → x ≠ d → H8 x = some o := fun x o hx nx => k8 _ _ (s7 _ _ (k6 _ _ (s35 _ _ hx) nx)) (ne_of_none hx hl3)
        have t38 : ∀ x xs, H3 x = some (.tup xs) → H8 x = some (.tup xs) := fun x xs hx => k38 _ _ hx (fun z => by rw [z, st3.hd] at hx; cases hx)
        refine ⟨_, _, _, _, rfl, by omega, hd8, fun b e h1 h2 h3 => ?_, fun b e h => ?_, ?_, fun x o hx => k38 _ _ (st3.sm x o hx) (ne_of_none hx st3.nd), st3.nd⟩
        · by_cases hbe : b = j ∧ e = j + 1 + i
          · obtain ⟨rfl, rfl⟩ := hbe
            refine ⟨_, l, ys, hlkn, hl8, hY, ?_, ?_⟩
            · by_cases h0 : i = 0
              · subst h0
                have hCn : Cn = [] := List.eq_nil_iff_forall_not_mem.mpr fun c hc => by
                  obtain ⟨c1, c2⟩ := (hC c).mp hc
                  rw [show b + 1 + 0 = b + 1 by omega, cut_start (by omega)] at c1
                  rw [c1] at c2
                  simp at c2
                rw [hCn, h00 rfl]
                exact near_one wy b
              · rw [h01 (by omega), List.nil_append]
                exact near_all (by omega) (fun y z a1 a2 a3 a4 => by obtain ⟨_, _, _, _, _, g, _⟩ := hw5 y z a1 a2 a3 a4; exact g) hC
            · rw [List.length_append]
              have h2 := flat_bd Cn fun c hc => hFl c hc
              by_cases h0 : i = 0
              · subst h0
                have hCn : Cn = [] := List.eq_nil_iff_forall_not_mem.mpr fun c hc => by
                  obtain ⟨c1, c2⟩ := (hC c).mp hc
                  rw [show b + 1 + 0 = b + 1 by omega, cut_start (by omega)] at c1
                  rw [c1] at c2
                  simp at c2
                rw [hCn, h00 rfl, show b + 1 + 0 - b = 1 by omega]
                exact Nat.le_refl 1
              · rw [h01 (by omega)]
                show 0 + _ ≤ 2 ^ (b + 1 + i - b - 1) * 16 ^ (b + 1 + i - b - 2)
                rw [Nat.zero_add]
                refine Nat.le_trans h2 (Nat.mul_le_mul_right _ ?_)
                rw [show b + 1 + i - b - 1 = b + 1 + i - (b + 1) by omega]
                exact hCl
          · obtain ⟨ts, lq, xq, g1, g2, g3, g4, g5⟩ := st3.has b e h1 h2 (by omega)
            exact ⟨ts, lq, xq, hlk _ _ _ g1, k38 _ _ g2 (fun z => by rw [z, st3.hd] at g2; cases g2), g3.mono t38, g4, g5⟩
        · rw [lookK_app] at h
          cases hk : lookK kvs (Kp b e) with
          | some v =>
            obtain ⟨a1, a2⟩ := st3.no b e (by rw [hk]; exact fun h => nomatch h)
            exact ⟨a1, by omega⟩
          | none =>
            rw [hk] at h
            by_cases hkk : Kp j (j + 1 + i) = Kp b e
            · obtain ⟨a1, a2⟩ := Kp_inj hkk
              omega
            · rw [if_neg hkk] at h
              exact absurd rfl h
        · rw [List.length_append, List.length_singleton]; omega
    · rintro σ H3 ⟨kvs, v4, v5, v6, rfl, _, st3⟩
      refine ⟨kvs, _, _, _, _, rfl, by omega, st3.hd, fun b e h1 h2 h3 => st3.has b e h1 h2 (by omega), fun b e h => ?_, ?_, st3.sm, st3.nd⟩
      · obtain ⟨a1, a2⟩ := st3.no b e h
        exact ⟨a1, by omega⟩
      · have := st3.len; omega
  · rintro σ H2 ⟨kvs, v3, v4, v5, v6, rfl, _, st2⟩
    obtain ⟨ts, hts⟩ := st2.has 0 n n1 (Nat.le_refl _) (by omega)
    exact ⟨_, rfl, q d kvs ts H2 st2.hd hts st2.sm⟩
theorem near_fit {w n : Nat} {t : PT} (hn : n ≤ 12) (n1 : 1 ≤ n) (h : Nt w 0 n t) : tOk n t ∧ tDp t < 13 ∧ tNo t ≤ 30 := by
  obtain ⟨hv, hp⟩ := h
  obtain ⟨g1, g2⟩ := pl_gd t hp
  have hl : (tLv t).length = n := by rw [hv, seqI_len]; omega
  have h1 := g1.1
  have h2 := g1.2
  refine ⟨lv_ok t fun k hk => ?_, by omega, by omega⟩
  rw [hv] at hk
  unfold seqI at hk
  obtain ⟨i, hi, rfl⟩ := List.mem_map.mp hk
  have := List.mem_range.mp hi
  omega
def upG (pf : Nat → Nat → Int) (b e : Nat) : Nat → Nat → Int := fun x y => if x = b ∧ y = e then pf b e + 1 else pf x y
theorem up_list {n i b e : Nat} {pf : Nat → Nat → Int} {ts : TupL} {m : Addr} (hE : ts.map (·.2) = ((strsTo n n).map (tri pf)).map q3) (hbe : (strsTo n n)[i]? = some (b, e)) : (ts.take i ++ [(m, q3 ((b : Int), (e : Int), pf b e + 1))] ++ ts.drop (i + 1)).map (·.2) = ((strsTo n n).map (tri (upG pf b e))).map q3 := by
  obtain ⟨hil, hg⟩ := List.getElem?_eq_some_iff.mp hbe
  have esp : strsTo n n = (strsTo n n).take i ++ (b, e) :: (strsTo n n).drop (i + 1) := by rw [← hg, ← List.drop_eq_getElem_cons hil, List.take_append_drop]
  have nd := strs_nd n
  have hA : (b, e) ∉ (strsTo n n).take i := strs_new hbe
  have hB : (b, e) ∉ (strsTo n n).drop (i + 1) := by
    rw [esp] at nd
    exact (List.nodup_cons.mp (List.nodup_append.mp nd).2.1).1
  rw [List.map_append, List.map_append, List.map_take, List.map_drop, hE]
  have cong : ∀ l : List (Nat × Nat), (b, e) ∉ l → (l.map (tri pf)).map q3 = (l.map (tri (upG pf b e))).map q3 := fun l hl => by
    rw [List.map_map, List.map_map]
    refine List.map_congr_left fun p hp => ?_
    have hne : ¬ (p.1 = b ∧ p.2 = e) := fun ⟨h1, h2⟩ => hl (by rw [← h1, ← h2]; exact hp)
    show q3 ((p.1 : Int), (p.2 : Int), pf p.1 p.2) = q3 ((p.1 : Int), (p.2 : Int), upG pf b e p.1 p.2)
    unfold upG
    rw [if_neg hne]
  have e1 : ((strsTo n n).map (tri (upG pf b e))).map q3 = (((strsTo n n).take i).map (tri (upG pf b e))).map q3 ++ q3 ((b : Int), (e : Int), pf b e + 1) :: (((strsTo n n).drop (i + 1)).map (tri (upG pf b e))).map q3 := by
    have h9 := congrArg (fun l : List (Nat × Nat) => (l.map (tri (upG pf b e))).map q3) esp
    simp only [List.map_append, List.map_cons] at h9
    rw [h9]
    show _ ++ q3 ((b : Int), (e : Int), upG pf b e b e) :: _ = _
    unfold upG
    rw [if_pos ⟨rfl, rfl⟩]
  rw [e1, ← cong _ hA, ← cong _ hB, List.map_take, List.map_take, List.map_drop, List.map_drop, List.append_assoc]
  rfl
def spDear (K : PySem.W.Frag) : Sp := fun vs H Q _ => ∃ (a r : Addr) (ns : List Int) (wy : Nat) (x : V) (t : PT) (pf : Nat → Nat → Int), vs = [.ref a, .int wy, x, .ref r] ∧ H a = some (.lst (ns.map V.int)) ∧ 1 ≤ ns.length ∧ ns.length ≤ 12 ∧ (∀ v ∈ ns, 0 ≤ v ∧ v ≤ 1000000000) ∧ 2 ≤ wy ∧ wy ≤ 6 ∧ TV H x t ∧ Nt wy 0 ns.length t ∧ PrL H r ns.length pf ∧ (∀ b e, b < e → e ≤ ns.length → ∃ t, Gr ns wy b e 1 (pf b e) [t]) ∧ ∀ H', Same H H' → Q (.bl true) H'
theorem ok_dear (T : Tops K mg) (f_shows_near : Df P w K mg base 16 "shows_near" ["sizes", "ways", "tree", "prices"] (spShows K)) : Df P w K mg base 17 "_law_dearer" ["_law_sizes_here", "_law_ways_here", "_law_tree", "_law_prices"] (spDear K) := by
  refine T.t_l_dearer.df sc_l_dearer (fun vs H Q E h => ?_) (fun cdv f A outer s H vs Q E hr h => ?_)
  · obtain ⟨a, r, ns, wy, x, t, pf, rfl, _⟩ := h
    rfl
  obtain ⟨a, r, ns, wy, x, t, pf, rfl, hS, n1, n12, hns, w2, w6, hT, hN, hpr, hP, q⟩ := h
  refine ⟨_, (@pss_cons _ _ _ _ _ (@ps_for _ _ _ _ _ _ _ _ PassesOwn.never rfl (@iE _ K _ _ _ _ _ _ _ T.b.n_enumerate (@pa_cons _ _ _ _ _ (@pv _ 3 _ _ (by rfl) (Or.inl rfl) (by decide) (by decide)) (@pa_nil _) (by rfl)) (by rfl) (by rfl) (by rfl)) (@gT _ K _ _ _ 2 _ (@pgs_cons _ _ _ _ _ (@pg_name _ _ 4 _ sc_l_dearer.nd rfl (Or.inl rfl) (by first | exact .inl rfl | exact .inr rfl)) (@pgs_cons _ _ _ _ _ (@gT _ K _ _ _ 3 _ (@pgs_cons _ _ _ _ _ (@pg_name _ _ 5 _ sc_l_dearer.nd rfl (Or.inl rfl) (by first | exact .inl rfl | exact .inr rfl)) (@pgs_cons _ _ _ _ _ (@pg_name _ _ 6 _ sc_l_dearer.nd rfl (Or.inl rfl) (by first | exact .inl rfl | exact .inr rfl)) (@pgs_cons _ _ _ _ _ (@pg_name _ _ 7 _ sc_l_dearer.nd rfl (Or.inl rfl) (by first | exact .inl rfl | exact .inr rfl)) (@pgs_nil _) (by rfl)) (by rfl)) (by rfl)) (by rfl) (by rfl) (by rfl) (by rfl)) (@pgs_nil _) (by rfl)) (by rfl)) (by rfl) (by rfl) (by rfl) (by rfl)) (@pss_cons _ _ _ _ _ (@ps_set _ _ 8 _ _ _ _ sc_l_dearer.nd rfl (Or.inl rfl) (@pe_op _ _ _ _ _ _ _ _ op_cat (@pe_op _ _ _ _ _ _ _ _ op_cat (@pe_slice _ _ _ _ _ _ _ _ _ _ (slL K) (@pv _ 3 _ _ (by rfl) (Or.inl rfl) (by decide) (by decide)) (@po_none _) (@po_some _ _ _ (@pv _ 4 _ _ (by rfl) (Or.inl rfl) (by decide) (by decide)))) (@pe_lst _ _ _ _ (@pa_cons _ _ _ _ _ (@pe_tup _ _ _ _ _ (@pa_cons _ _ _ _ _ (@pv _ 5 _ _ (by rfl) (Or.inl rfl) (by decide) (by decide)) (@pa_cons _ _ _ _ _ (@pv _ 6 _ _ (by rfl) (Or.inl rfl) (by decide) (by decide)) (@pa_cons _ _ _ _ _ (@pe_op _ _ _ _ _ _ _ _ op_add (@pv _ 7 _ _ (by rfl) (Or.inl rfl) (by decide) (by decide)) (@pe_int _ _ _ _)) (@pa_nil _) (by rfl)) (by rfl)) (by rfl))) (@pa_nil _) (by rfl)))) (@pe_slice _ _ _ _ _ _ _ _ _ _ (slL K) (@pv _ 3 _ _ (by rfl) (Or.inl rfl) (by decide) (by decide)) (@po_some _ _ _ (@pe_op _ _ _ _ _ _ _ _ op_add (@pv _ 4 _ _ (by rfl) (Or.inl rfl) (by decide) (by decide)) (@pe_int _ _ _ _))) (@po_none _))) (by rfl) (by first | exact .inl rfl | exact .inr rfl)) (@pss_one _ _ _ (@ps_if _ _ _ _ _ _ _ _ (@pt_cmpR _ _ _ _ _ _ _ _ op_notB (@pe_df _ _ _ _ _ _ _ _ _ _ _ f_shows_near hr (@pa_cons _ _ _ _ _ (@pv _ 0 _ _ (by rfl) (Or.inl rfl) (by decide) (by decide)) (@pa_cons _ _ _ _ _ (@pv _ 1 _ _ (by rfl) (Or.inl rfl) (by decide) (by decide)) (@pa_cons _ _ _ _ _ (@pv _ 2 _ _ (by rfl) (Or.inl rfl) (by decide) (by decide)) (@pa_cons _ _ _ _ _ (@pv _ 8 _ _ (by rfl) (Or.inl rfl) (by decide) (by decide)) (@pa_nil _) (by rfl)) (by rfl)) (by rfl)) (by rfl)) (by first | decide | exact Nat.le_refl _ | omega) (by rfl) (by decide) (by rfl) (by rfl)) (@pe_bl _ _ _ _) (nomark _)) (@pss_one _ _ _ (@ps_ret _ _ _ _ (@pe_bl _ _ _ _))) (@pss_nil _)))) (by intro _; rfl)) (@pss_one _ _ _ (@ps_ret _ _ _ _ (@pe_bl _ _ _ _)))), ?_⟩
  have h0 : ∀ v ∈ ns, 0 ≤ v := fun v hv => (hns v hv).1
  obtain ⟨ok1, ok2, ok3⟩ := near_fit n12 n1 hN
  obtain ⟨ts, hr0, hat, hE⟩ := hpr
  have l144 := strs_le n12
  have lts := pr_len' hE
  refine ⟨_, rfl, r, _, rfl, SqL.of hr0, ?_⟩
  refine for_enum (K := K) (a := r) (xs := refs ts) (fun i σ H2 => (∃ v4 v5 v6 v7 v8 : Option V, σ = [some (.ref a), some (.int wy), some x, some (.ref r), v4, v5, v6, v7, v8]) ∧ Same H H2) ⟨⟨_, _, _, _, _, rfl⟩, Same.refl H⟩ (fun _ _ _ h => SqL.of (h.2 _ _ hr0)) ?_ ?_
  · rintro i z σ H2 p hz ⟨⟨v4, v5, v6, v7, v8, rfl⟩, s2⟩ hp
    obtain ⟨pe, b, e, rfl, hpe, hbe⟩ := pr_at hE hat hz
    have hil : i < ts.length := by have := (List.getElem?_eq_some_iff.mp hbe).1; omega
    obtain ⟨hb1, he1⟩ := mem_strs.mp (List.mem_of_getElem? hbe)
    have s3 := same_new hp (.tup [.int (i : Int), .ref pe])
    have f3 : (upd H2 p (.tup [.int (i : Int), .ref pe])) p = some (.tup [.int (i : Int), .ref pe]) := upd_same
    generalize upd H2 p (.tup [.int (i : Int), .ref pe]) = H3 at s3 f3 ⊢
    have s03 := s2.trans s3
    refine ⟨p, _, rfl, SqT.of f3, rfl, _, _, rfl, _, _, rfl, pe, _, rfl, SqT.of (s03 _ _ hpe), rfl, _, _, rfl, _, _, rfl, _, _, rfl, rfl, rfl, ?_⟩
    refine ⟨_, rfl, _, rfl, _, rfl, r, _, rfl, SqL.of (s03 _ _ hr0), fun s1 hs1 => ?_⟩
    have s4 := same_new hs1 (.lst (cutV (refs ts) none (some (i : Int))))
    have f4 : (upd H3 s1 (.lst (cutV (refs ts) none (some (i : Int))))) s1 = some (.lst (cutV (refs ts) none (some (i : Int)))) := upd_same
    generalize upd H3 s1 (.lst (cutV (refs ts) none (some (i : Int)))) = H4 at s4 f4 ⊢
    rw [cutV_to] at f4
    refine ⟨_, rfl, _, rfl, _, rfl, _, _, rfl, rfl, (by show 3 ≤ sizeLine; decide), fun m hm => ⟨(by show 1 ≤ sizeLine; decide), fun l1 hl1 => ?_⟩⟩
    have s5 := same_new hm (.tup [.int (b : Int), .int (e : Int), .int (pf b e + 1)])
    have f5 : (upd H4 m (.tup [.int (b : Int), .int (e : Int), .int (pf b e + 1)])) m = some (.tup [.int (b : Int), .int (e : Int), .int (pf b e + 1)]) := upd_same
    generalize upd H4 m (.tup [.int (b : Int), .int (e : Int), .int (pf b e + 1)]) = H5 at s5 f5 hl1 ⊢
    have s6 := same_new hl1 (.lst [.ref m])
    have f6 : (upd H5 l1 (.lst [.ref m])) l1 = some (.lst [.ref m]) := upd_same
    generalize upd H5 l1 (.lst [.ref m]) = H6 at s6 f6 ⊢
    refine ⟨s1, l1, _, _, rfl, rfl, s6 _ _ (s5 _ _ f4), f6, by rw [List.length_take, refs_len, List.length_singleton, sizeLine_eq]; omega, fun c1 hc1 => ?_⟩
    have s7 := same_new hc1 (.lst ((refs ts).take i ++ [.ref m]))
    have f7 : (upd H6 c1 (.lst ((refs ts).take i ++ [.ref m]))) c1 = some (.lst ((refs ts).take i ++ [.ref m])) := upd_same
    generalize upd H6 c1 (.lst ((refs ts).take i ++ [.ref m])) = H7 at s7 f7 ⊢
    have s37 := ((s4.trans s5).trans s6).trans s7
    have s07 := s03.trans s37
    refine ⟨_, rfl, _, rfl, _, _, rfl, rfl, _, rfl, r, _, rfl, SqL.of (s07 _ _ hr0), fun s2' hs2 => ?_⟩
    have s8 := same_new hs2 (.lst (cutV (refs ts) (some ((i : Int) + 1)) none))
    have f8 : (upd H7 s2' (.lst (cutV (refs ts) (some ((i : Int) + 1)) none))) s2' = some (.lst (cutV (refs ts) (some ((i : Int) + 1)) none)) := upd_same
    generalize upd H7 s2' (.lst (cutV (refs ts) (some ((i : Int) + 1)) none)) = H8 at s8 f8 ⊢
    rw [show (i : Int) + 1 = ((i + 1 : Nat) : Int) by omega, cutV_fr] at f8
    refine ⟨c1, s2', _, _, rfl, rfl, s8 _ _ f7, f8, by rw [List.length_append, List.length_take, List.length_drop, refs_len, List.length_singleton, sizeLine_eq]; omega, fun mo hmo => ?_⟩
    have s9 := same_new hmo (.lst ((refs ts).take i ++ [.ref m] ++ (refs ts).drop (i + 1)))
    have f9 : (upd H8 mo (.lst ((refs ts).take i ++ [.ref m] ++ (refs ts).drop (i + 1)))) mo = some (.lst ((refs ts).take i ++ [.ref m] ++ (refs ts).drop (i + 1))) := upd_same
    generalize upd H8 mo (.lst ((refs ts).take i ++ [.ref m] ++ (refs ts).drop (i + 1))) = H9 at s9 f9 ⊢
    have s09 := (s07.trans s8).trans s9
    have fm9 := s9 _ _ (s8 _ _ (s7 _ _ (s6 _ _ f5)))
    have hpr9 : PrL H9 mo ns.length (upG pf b e) := by
      refine ⟨ts.take i ++ [(m, q3 ((b : Int), (e : Int), pf b e + 1))] ++ ts.drop (i + 1), ?_, fun t ht => ?_, up_list hE hbe⟩
      · rw [f9]; unfold refs; rw [List.map_append, List.map_append, List.map_take, List.map_drop]; rfl
      · rcases List.mem_append.mp ht with ht | ht
        · rcases List.mem_append.mp ht with ht | ht
          · exact s09 _ _ (hat t (List.mem_of_mem_take ht))
          · rw [List.mem_singleton.mp ht]; exact fm9
        · exact s09 _ _ (hat t (List.mem_of_mem_drop ht))
    refine ⟨_, rfl, _, rfl, _, rfl, _, rfl, a, mo, ns, wy, x, t, upG pf b e, rfl, s09 _ _ hS, n1, n12, hns, w2, w6, hT.mono (same_tup s09), hN.2, ok1, ok2, hN.1, hpr9, fun bo H10 hbo s10 => ?_⟩
    have ebo : bo = false := by
      cases bo with
      | false => rfl
      | true =>
        have h9 := (hbo.mp rfl).2 b e hb1 he1
        have h8 := most_up (g := upG pf b e) h0 w2 hP hb1 he1 (fun x y h => by unfold upG; rw [if_neg h]) (by unfold upG; rw [if_pos ⟨rfl, rfl⟩])
        omega
    subst ebo
    exact ⟨false, false, rfl, rfl, _, rfl, iteNE rfl ⟨⟨_, _, _, _, _, rfl⟩, s09.trans s10⟩⟩
  · rintro σ H2 ⟨⟨v4, v5, v6, v7, v8, rfl⟩, s2⟩
    exact q H2 s2
theorem any_eqv {ds : List PyData} {d : PyData} (h : d ∈ ds) (hl : d.canLay0 = true) : (ds.any fun e => PyData.eqv e d) = true := List.any_eq_true.mpr ⟨d, h, SeqAt.eqv_refl d hl⟩
theorem toDs_map : ∀ ts : List PT, toDs ts = ts.map toD
  | [] => rfl
  | t :: r => by show toD t :: toDs r = _; rw [toDs_map r]; rfl
theorem ok_law {f : Addr} {fd : FuncData} (F : Fun K "law" "law" st_law f fd) (T : Tops K mg) : FnOk P w K mg base CX0 18 f fd ["_law_script"] (spLaw K) := by
  have f_l_mix : Df P w K mg base 1 "_law_mix" ["_law_cell", "_law_k"] spMix := ok_mix T
  have f_l_left : Df P w K mg base 1 "_law_left" ["_law_script", "_law_k"] (spLeft K) := ok_left T
  have f_l_pick : Df P w K mg base 2 "_law_pick" ["_law_left_here", "_law_many_here"] spPick := ok_pick T f_l_mix
  have f_l_sizes : Df P w K mg base 4 "_law_sizes" ["_law_left_here", "_law_most"] spSizes := ok_sizes T f_l_pick (ok_many T f_l_pick)
  have f_l_ways : Df P w K mg base 3 "_law_ways" ["_law_left_here"] spWays := ok_ways T f_l_pick
  have f_l_same : Df P w K mg base 3 "_law_same" ["_law_found", "_law_due"] (spSame 2) := ok_same T 2
  have f_l_cost : Df P w K mg base 2 "_law_cost" ["_law_sizes_here", "_law_tree"] (spCost K) := ok_cost T (fun n => ok_rows T n)
  have f_l_trees : Df P w K mg base 2 "_law_trees" ["_law_many_here", "_law_ways_here"] spTrees := ok_trees T (ok_cuts T) (ok_put T)
  have f_groves : ∀ ns wy, Df P w K mg base 3 "least_groves" ["sizes", "ways"] (spGroves K ns wy) := fun ns wy => ok_groves T ns wy (ok_tree T ns wy (ok_cut T ns wy)) (ok_grove T ns wy (ok_cut T ns wy))
  have f_near_plan : Df P w K mg base 4 "near_plan" ["sizes", "ways"] (spNear K) := ok_near T f_groves
  have f_prices_for : Df P w K mg base 4 "prices_for" ["sizes", "ways"] (spPF K) := ok_pf T f_groves
  have f_is_number : Df P w K mg base 1 "is_number" ["thing"] spNum := ok_num T
  have f_part_sums : Df P w K mg base 1 "part_sums" ["priced", "cut", "begin", "end"] spPS := ok_ps T
  have f_shows_near : Df P w K mg base 16 "shows_near" ["sizes", "ways", "tree", "prices"] (spShows K) := ok_shows T (ok_nearT T (ok_finds T f_is_number 13)) (ok_are T (ok_triple T f_is_number) (ok_strO T)) (ok_costof T (ok_sc T f_is_number 13)) (ok_cutP T f_part_sums) (ok_most T f_part_sums)
  have f_l_dearer : Df P w K mg base 17 "_law_dearer" ["_law_sizes_here", "_law_ways_here", "_law_tree", "_law_prices"] (spDear K) := ok_dear T f_shows_near
  refine F.ok sc_law (fun vs H Q E h => ?_) (fun cdv A outer s H vs Q E hr h => ?_)
  · obtain ⟨a, ns, rfl, _⟩ := h
    rfl
  obtain ⟨a, sc, rfl, hS, h63, q⟩ := h
  refine ⟨_, (@pss_cons _ _ _ _ _ (@ps_for _ _ _ _ _ _ _ _ PassesOwn.never rfl (@pi_range1 _ _ _ _ _ _ rfl T.b.n_range (@pa_cons _ _ _ _ _ (@pe_op _ _ _ _ _ _ _ _ op_add (@pe_int _ _ _ _) (@pe_callB _ _ _ _ _ _ _ _ _ (call_min2 rfl) (by rfl) T.b.n_min boot_min (@pa_cons _ _ _ _ _ (@pe_int _ _ _ _) (@pa_cons _ _ _ _ _ (@pe_callB _ _ _ _ _ _ _ _ _ (lenQ K) (by rfl) T.b.n_len PySem.boot_len (@pa_cons _ _ _ _ _ (@pv _ 0 _ _ (by rfl) (Or.inl rfl) (by decide) (by decide)) (@pa_nil _) (by rfl)) (by decide) (by decide) (by rfl) (by rfl)) (@pa_nil _) (by rfl)) (by rfl)) (by decide) (by decide) (by rfl) (by rfl))) (@pa_nil _) (by rfl)) (by rfl)) (@pg_name _ _ 1 _ sc_law.nd rfl (Or.inl rfl) (by first | exact .inl rfl | exact .inr rfl)) (@pss_cons _ _ _ _ _ (@ps_set _ _ 2 _ _ _ _ sc_law.nd rfl (Or.inl rfl) (@pe_df _ _ _ _ _ _ _ _ _ _ _ f_l_left hr (@pa_cons _ _ _ _ _ (@pv _ 0 _ _ (by rfl) (Or.inl rfl) (by decide) (by decide)) (@pa_cons _ _ _ _ _ (@pv _ 1 _ _ (by rfl) (Or.inl rfl) (by decide) (by decide)) (@pa_nil _) (by rfl)) (by rfl)) (by first | decide | exact Nat.le_refl _ | omega) (by rfl) (by decide) (by rfl) (by rfl)) (by rfl) (by first | exact .inl rfl | exact .inr rfl)) (@pss_cons _ _ _ _ _ (@ps_asg _ _ _ _ _ _ (@pe_tup _ _ _ _ _ (@pa_cons _ _ _ _ _ (@pe_df _ _ _ _ _ _ _ _ _ _ _ f_l_sizes hr (@pa_cons _ _ _ _ _ (@pv _ 2 _ _ (by rfl) (Or.inl rfl) (by decide) (by decide)) (@pa_cons _ _ _ _ _ (@pe_int _ _ _ _) (@pa_nil _) (by rfl)) (by rfl)) (by first | decide | exact Nat.le_refl _ | omega) (by rfl) (by decide) (by rfl) (by rfl)) (@pa_cons _ _ _ _ _ (@pe_df _ _ _ _ _ _ _ _ _ _ _ f_l_ways hr (@pa_cons _ _ _ _ _ (@pv _ 2 _ _ (by rfl) (Or.inl rfl) (by decide) (by decide)) (@pa_nil _) (by rfl)) (by first | decide | exact Nat.le_refl _ | omega) (by rfl) (by decide) (by rfl) (by rfl)) (@pa_nil _) (by rfl)) (by rfl))) (@gT _ K _ _ _ 2 _ (@pgs_cons _ _ _ _ _ (@pg_name _ _ 3 _ sc_law.nd rfl (Or.inr rfl) (by first | exact .inl rfl | exact .inr rfl)) (@pgs_cons _ _ _ _ _ (@pg_name _ _ 4 _ sc_law.nd rfl (Or.inl rfl) (by first | exact .inl rfl | exact .inr rfl)) (@pgs_nil _) (by rfl)) (by rfl)) (by rfl) (by rfl) (by rfl) (by rfl)) (by rfl) (by rfl) (by rfl)) (@pss_cons _ _ _ _ _ (@ps_set _ _ 5 _ _ _ _ sc_law.nd rfl (Or.inl rfl) (@pe_ix _ _ _ _ _ _ _ (ixD hr) (@pe_df _ _ _ _ _ _ _ _ _ _ _ f_l_trees hr (@pa_cons _ _ _ _ _ (@pe_callB _ _ _ _ _ _ _ _ _ (lenQ K) (by rfl) T.b.n_len PySem.boot_len (@pa_cons _ _ _ _ _ (@pv _ 3 _ _ (by rfl) (Or.inr (Or.inl rfl)) (by decide) (by decide)) (@pa_nil _) (by rfl)) (by decide) (by decide) (by rfl) (by rfl)) (@pa_cons _ _ _ _ _ (@pv _ 4 _ _ (by rfl) (Or.inl rfl) (by decide) (by decide)) (@pa_nil _) (by rfl)) (by rfl)) (by first | decide | exact Nat.le_refl _ | omega) (by rfl) (by decide) (by rfl) (by rfl)) (@pe_tup _ _ _ _ _ (@pa_cons _ _ _ _ _ (@pe_int _ _ _ _) (@pa_cons _ _ _ _ _ (@pe_callB _ _ _ _ _ _ _ _ _ (lenQ K) (by rfl) T.b.n_len PySem.boot_len (@pa_cons _ _ _ _ _ (@pv _ 3 _ _ (by rfl) (Or.inr (Or.inl rfl)) (by decide) (by decide)) (@pa_nil _) (by rfl)) (by decide) (by decide) (by rfl) (by rfl)) (@pa_nil _) (by rfl)) (by rfl))) (fun _ _ => rfl)) (by rfl) (by first | exact .inl rfl | exact .inr rfl)) (@pss_cons _ _ _ _ _ (@ps_setComp _ _ _ _ _ 6 _ _ _ _ _ _ _ _ _ _ _ _ sc_law.nd rfl (Or.inl rfl) cs_12 rfl rfl rfl (@iL _ K _ _ _ (@pv _ 5 _ _ (by rfl) (Or.inl rfl) (by decide) (by decide)) (by rfl)) (fun _ _ _ _ => (@cg _ _ _ _ _ _ _ _ _ _ _ 13 cs_12 rfl (by decide +kernel) (by rfl))) (fun _ _ _ _ => (@pts_nil _)) (fun _ _ _ _ => (@pe_df _ _ _ _ _ _ _ _ _ _ _ f_l_cost hr (@pa_cons _ _ _ _ _ (@cv _ _ _ _ _ _ _ _ _ _ _ 3 cs_12 rfl (by decide +kernel) (by rfl) (by decide) (by decide)) (@pa_cons _ _ _ _ _ (@cw _ _ _ _ _ _ _ _ _ _ _ 13 cs_12 rfl (by decide +kernel) (by rfl) (by decide) (by decide)) (@pa_nil _) (by rfl)) (by rfl)) (by first | decide | exact Nat.le_refl _ | omega) (comp_glob cs_12 rfl (by decide +kernel)) (by decide) (by rfl) (by rfl))) (by rfl) (by intro _; rfl) (by first | exact .inl rfl | exact .inr rfl)) (@pss_cons _ _ _ _ _ (@ps_asg _ _ _ _ _ _ (@pe_df _ _ _ _ _ _ _ _ _ _ _ f_near_plan hr (@pa_cons _ _ _ _ _ (@pv _ 3 _ _ (by rfl) (Or.inr (Or.inl rfl)) (by decide) (by decide)) (@pa_cons _ _ _ _ _ (@pv _ 4 _ _ (by rfl) (Or.inl rfl) (by decide) (by decide)) (@pa_nil _) (by rfl)) (by rfl)) (by first | decide | exact Nat.le_refl _ | omega) (by rfl) (by decide) (by rfl) (by rfl)) (@gT _ K _ _ _ 2 _ (@pgs_cons _ _ _ _ _ (@pg_name _ _ 7 _ sc_law.nd rfl (Or.inl rfl) (by first | exact .inl rfl | exact .inr rfl)) (@pgs_cons _ _ _ _ _ (@pg_name _ _ 8 _ sc_law.nd rfl (Or.inl rfl) (by first | exact .inl rfl | exact .inr rfl)) (@pgs_nil _) (by rfl)) (by rfl)) (by rfl) (by rfl) (by rfl) (by rfl)) (by rfl) (by rfl) (by rfl)) (@pss_cons _ _ _ _ _ (@ps_set _ _ 9 _ _ _ _ sc_law.nd rfl (Or.inl rfl) (@pe_df _ _ _ _ _ _ _ _ _ _ _ f_prices_for hr (@pa_cons _ _ _ _ _ (@pv _ 3 _ _ (by rfl) (Or.inr (Or.inl rfl)) (by decide) (by decide)) (@pa_cons _ _ _ _ _ (@pv _ 4 _ _ (by rfl) (Or.inl rfl) (by decide) (by decide)) (@pa_nil _) (by rfl)) (by rfl)) (by first | decide | exact Nat.le_refl _ | omega) (by rfl) (by decide) (by rfl) (by rfl)) (by rfl) (by first | exact .inl rfl | exact .inr rfl)) (@pss_cons _ _ _ _ _ (@ps_if _ _ _ _ _ _ _ _ (@PW.pt _ _ _ (@pw_or _ _ _ _ _ _ _ (@pt_not _ _ _ _ (@pt_val _ _ _ (@pe_df _ _ _ _ _ _ _ _ _ _ _ f_l_same hr (@pa_cons _ _ _ _ _ (@pv _ 7 _ _ (by rfl) (Or.inl rfl) (by decide) (by decide)) (@pa_cons _ _ _ _ _ (@pe_callB _ _ _ _ _ _ _ _ _ (minL K) (by rfl) T.b.n_min boot_min (@pa_cons _ _ _ _ _ (@pv _ 6 _ _ (by rfl) (Or.inl rfl) (by decide) (by decide)) (@pa_nil _) (by rfl)) (by decide) (by decide) (by rfl) (by rfl)) (@pa_nil _) (by rfl)) (by rfl)) (by first | decide | exact Nat.le_refl _ | omega) (by rfl) (by decide) (by rfl) (by rfl)) (by intro _; rfl))) (@pw_or _ _ _ _ _ _ _ (@pt_cmpR _ _ _ _ _ _ _ _ (@notInD _ K _ hr (by rfl)) (@pv _ 8 _ _ (by rfl) (Or.inl rfl) (by decide) (by decide)) (@pv _ 5 _ _ (by rfl) (Or.inl rfl) (by decide) (by decide)) (by with_unfolding_all rfl)) (@pw_or1 _ _ _ _ (@pt_not _ _ _ _ (@pt_val _ _ _ (@pe_df _ _ _ _ _ _ _ _ _ _ _ f_l_dearer hr (@pa_cons _ _ _ _ _ (@pv _ 3 _ _ (by rfl) (Or.inr (Or.inl rfl)) (by decide) (by decide)) (@pa_cons _ _ _ _ _ (@pv _ 4 _ _ (by rfl) (Or.inl rfl) (by decide) (by decide)) (@pa_cons _ _ _ _ _ (@pv _ 8 _ _ (by rfl) (Or.inl rfl) (by decide) (by decide)) (@pa_cons _ _ _ _ _ (@pv _ 9 _ _ (by rfl) (Or.inl rfl) (by decide) (by decide)) (@pa_nil _) (by rfl)) (by rfl)) (by rfl)) (by rfl)) (by first | decide | exact Nat.le_refl _ | omega) (by rfl) (by decide) (by rfl) (by rfl)) (by intro _; rfl))))))) (@pss_one _ _ _ (@ps_ret _ _ _ _ (@pe_bl _ _ _ _))) (@pss_nil _)) (@pss_one _ _ _ (@ps_for _ _ _ _ _ _ _ _ PassesOwn.never rfl (@iZ _ K _ _ _ _ _ _ _ _ T.b.n_zip (@pa_cons _ _ _ _ _ (@pv _ 5 _ _ (by rfl) (Or.inl rfl) (by decide) (by decide)) (@pa_cons _ _ _ _ _ (@pv _ 6 _ _ (by rfl) (Or.inl rfl) (by decide) (by decide)) (@pa_nil _) (by rfl)) (by rfl)) (by rfl) (by rfl) (by rfl) (by rfl)) (@gT _ K _ _ _ 2 _ (@pgs_cons _ _ _ _ _ (@pg_name _ _ 10 _ sc_law.nd rfl (Or.inl rfl) (by first | exact .inl rfl | exact .inr rfl)) (@pgs_cons _ _ _ _ _ (@pg_name _ _ 11 _ sc_law.nd rfl (Or.inl rfl) (by first | exact .inl rfl | exact .inr rfl)) (@pgs_nil _) (by rfl)) (by rfl)) (by rfl) (by rfl) (by rfl) (by rfl)) (@pss_cons _ _ _ _ _ (@ps_set _ _ 12 _ _ _ _ sc_law.nd rfl (Or.inl rfl) (@pe_df _ _ _ _ _ _ _ _ _ _ _ f_shows_near hr (@pa_cons _ _ _ _ _ (@pv _ 3 _ _ (by rfl) (Or.inr (Or.inl rfl)) (by decide) (by decide)) (@pa_cons _ _ _ _ _ (@pv _ 4 _ _ (by rfl) (Or.inl rfl) (by decide) (by decide)) (@pa_cons _ _ _ _ _ (@pv _ 10 _ _ (by rfl) (Or.inl rfl) (by decide) (by decide)) (@pa_cons _ _ _ _ _ (@pv _ 9 _ _ (by rfl) (Or.inl rfl) (by decide) (by decide)) (@pa_nil _) (by rfl)) (by rfl)) (by rfl)) (by rfl)) (by first | decide | exact Nat.le_refl _ | omega) (by rfl) (by decide) (by rfl) (by rfl)) (by rfl) (by first | exact .inl rfl | exact .inr rfl)) (@pss_one _ _ _ (@ps_if _ _ _ _ _ _ _ _ (@PW.pt _ _ _ (@pw_or _ _ _ _ _ _ _ (@pt_not _ _ _ _ (@pt_val _ _ _ (@pe_callB _ _ _ _ _ _ _ _ _ (isiQ K) (by rfl) T.b.n_isinstance boot_isinstance (@pa_cons _ _ _ _ _ (@pv _ 12 _ _ (by rfl) (Or.inl rfl) (by decide) (by decide)) (@pa_cons _ _ _ _ _ (@pe_ty _ _ _ _ T.b.n_bool boot_bool (by rfl) (by decide) (by decide)) (@pa_nil _) (by rfl)) (by rfl)) (by decide) (by decide) (by rfl) (by rfl)) (by intro _; rfl))) (@pw_or1 _ _ _ _ (@pt_cmpR _ _ _ _ _ _ _ _ op_ne (@pv _ 12 _ _ (by rfl) (Or.inl rfl) (by decide) (by decide)) (@pe_cmpR _ _ _ _ _ _ _ _ op_eq (@pv _ 11 _ _ (by rfl) (Or.inl rfl) (by decide) (by decide)) (@pv _ 7 _ _ (by rfl) (Or.inl rfl) (by decide) (by decide)) (nomark _)) (nomark _))))) (@pss_one _ _ _ (@ps_ret _ _ _ _ (@pe_bl _ _ _ _))) (@pss_nil _)))) (by intro _; rfl)))))))))) (by intro _; rfl)) (@pss_one _ _ _ (@ps_ret _ _ _ _ (@pe_bl _ _ _ _)))), ?_⟩
  have hlen : (((sc.map V.int).length : Nat) : Int) = (sc.length : Int) := by rw [List.length_map]
  refine ⟨_, rfl, a, _, rfl, .inl hS, _, _, rfl, _, _, rfl, rfl, _, rfl, ?_, ?_, ?_⟩
  · split <;> omega
  · split <;> omega
  refine for_range (fun i σ H2 => (∃ v1 v2 v3 v4 v5 v6 v7 v8 v9 v10 v11 v12 : Option V, σ = [some (.ref a), v1, v2, v3, v4, v5, v6, v7, v8, v9, v10, v11, v12]) ∧ Same H H2) ⟨⟨_, _, _, _, _, _, _, _, _, _, _, _, rfl⟩, Same.refl H⟩ ?_ ?_
  · rintro i σ H2 hi ⟨⟨v1, v2, v3, v4, v5, v6, v7, v8, v9, v10, v11, v12, rfl⟩, s2⟩
    have hi9 : (i : Int) < 100 := by
      have : (i : Int) < (1 + (if (((sc.map V.int).length : Nat) : Int) < 4 then (((sc.map V.int).length : Nat) : Int) else 4)).toNat := by omega
      split at this <;> omega
    refine ⟨_, rfl, _, rfl, a, sc, _, rfl, s2.seq hS, h63, by omega, by omega, fun p H3 hp L3 s3 => ?_⟩
    have nHp : H p = none := s2.free hp
    have keep : ∀ {H5 H6 : Hp}, Same H H5 → But p H5 H6 → Same H H6 := fun {H5 H6} s b x o e => b x o (s x o e) (ne_of_none e nHp)
    refine ⟨_, rfl, p, 0, rfl, L3, by omega, fun sz ms c5 H5 hs0 hs5 m1 m6 hms L5 a1 a2 B5 => ?_⟩
    have nps : p ≠ sz := by obtain ⟨o, ho⟩ := L3.here; exact ne_of_none ho hs0
    refine ⟨_, rfl, p, c5, rfl, L5, by omega, fun wy H6 w2 w6 L6 B6 => ?_⟩
    obtain ⟨wn, rfl⟩ : ∃ wn : Nat, wy = (wn : Int) := ⟨wy.toNat, by omega⟩
    have hs6 := B6 sz _ hs5 nps.symm
    have s6 : Same H H6 := keep (keep (s2.trans s3) B5) B6
    have h0 : ∀ e ∈ ms, 0 ≤ e := fun e he => (hms e he).1
    have hls : (((ms.map V.int).length : Nat) : Int) = (ms.length : Int) := by rw [List.length_map]
    refine ⟨(by show 2 ≤ sizeLine; decide), fun tp htp => ?_⟩
    have sT := same_new htp (.tup [.ref sz, .int (wn : Int)])
    have fT : (upd H6 tp (.tup [.ref sz, .int (wn : Int)])) tp = some (.tup [.ref sz, .int (wn : Int)]) := upd_same
    have hs6 := sT _ _ hs6
    have s6 := s6.trans sT
    generalize upd H6 tp (.tup [.ref sz, .int (wn : Int)]) = H6 at fT hs6 s6 ⊢
    refine ⟨tp, _, rfl, SqT.of fT, rfl, _, _, rfl, _, _, rfl, rfl, ?_⟩
    refine ⟨_, rfl, sz, _, rfl, .inl (SqL.of hs6), _, rfl, ms.length, wn, by rw [hls]; rfl, m1, m6, by omega, by omega, fun d kvs ts H7 hd7 hts s7 => ?_⟩
    obtain ⟨tl, xs, hk, htl7, hT7, hN, hbd⟩ := hts
    have hs7 := s7 _ _ hs6
    have hbd6 : ts.length ≤ 2097152 := Nat.le_trans hbd (tBd_max (by omega))
    have lX : xs.length = ts.length := hT7.len
    refine ⟨_, rfl, sz, _, rfl, .inl (SqL.of hs7), (by show 2 ≤ sizeLine; decide), fun k0 hk0 => ?_⟩
    have e4 : (.tup [.int 0, .int (((ms.map V.int).length : Nat) : Int)] : HO) = .tup ((Kp 0 ms.length).map kV) := by rw [hls]; rfl
    rw [e4]
    have s8 := same_new hk0 (.tup ((Kp 0 ms.length).map kV))
    have f8 : (upd H7 k0 (.tup ((Kp 0 ms.length).map kV))) k0 = some (.tup ((Kp 0 ms.length).map kV)) := upd_same
    generalize upd H7 k0 (.tup ((Kp 0 ms.length).map kV)) = H8 at s8 f8 ⊢
    refine ⟨d, kvs, k0, _, _, rfl, rfl, s8 _ _ hd7, f8, hk, ?_⟩
    have htl8 := s8 _ _ htl7
    have hs8 := s8 _ _ hs7
    have hT8 := hT7.mono (same_tup s8)
    have s08 := (s6.trans s7).trans s8
    have fit : ∀ t ∈ ts, tOk ms.length t ∧ tDp t < 13 ∧ tNo t ≤ 30 := fun t ht => near_fit (by omega) m1 ((hN t).mp ht)
    refine ⟨_, rfl, tl, rfl, ⟨_, SqL.of htl8⟩, fun D hD => ?_⟩
    refine comp_list (K := K) (a := tl) (xs := xs) (fun j ys σ H9 => (∃ v6 v7 v8 v9 v10 v11 v12 v13 : Option V, σ = [some (.ref a), some (.int (0 + (i : Int))), some (.ref p), some (.ref sz), some (.int wn), some (.ref tl), v6, v7, v8, v9, v10, v11, v12, v13]) ∧ ys = ((ts.take j).map (tCo ms)).map V.int ∧ H9 D = some (.lst ys) ∧ j ≤ xs.length ∧ Same H8 H9) ⟨⟨_, _, _, _, _, _, _, none, rfl⟩, rfl, upd_same, Nat.zero_le _, same_new hD _⟩ (fun _ _ _ _ h => SqL.of (h.2.2.2.2 _ _ htl8)) ?_ ?_
    · rintro j x ys σ H9 hx ⟨⟨w6', w7, w8, w9, w10, w11, w12, w13, rfl⟩, rfl, hD9, _, s9⟩
      obtain ⟨t, ht, hv⟩ := hT8.at hx
      have hjl := (List.getElem?_eq_some_iff.mp hx).1
      obtain ⟨o1, o2, o3⟩ := fit t (List.mem_of_getElem? ht)
      refine ⟨_, rfl, _, rfl, sz, ms, x, t, rfl, SqL.of (s9 _ _ hs8), by omega, fun v hv => by have := hms v hv; omega, hv.mono (same_tup s9), o1, by omega, by omega, fun H10 s10 => ?_⟩
      have hD10 := s10 _ _ hD9
      refine ⟨hD10, by rw [List.length_map, List.length_map, List.length_take, sizeLine_eq]; omega, ⟨_, _, _, _, _, _, _, _, rfl⟩, ?_, upd_same, hjl, fun x o hx => ?_⟩
      · rw [List.take_add_one, ht, List.map_append, List.map_append]; rfl
      · rw [upd_ne (ne_of_none hx hD)]; exact s10 _ _ (s9 x o hx)
    rintro ys σ H9 ⟨⟨w6', w7, w8, w9, w10, w11, w12, w13, rfl⟩, rfl, hD9, _, s9⟩
    rw [lX, List.take_of_length_le (Nat.le_refl _)] at hD9
    have hs9 := s9 _ _ hs8
    refine ⟨_, rfl, _, rfl, sz, ms, wn, rfl, SqL.of hs9, m1, by omega, hms, by omega, by omega, fun r x C t H10 hr0 hr10 hx10 g s10 => ?_⟩
    obtain ⟨g1, g2, g3, g4, g5, g6⟩ := gr_fit (by omega) g
    have htin : t ∈ ts := (hN t).mpr ⟨g1, g2⟩
    refine ⟨r, _, rfl, SqT.of hr10, rfl, _, _, rfl, _, _, rfl, rfl, ?_⟩
    have hs10 := s10 _ _ hs9
    refine ⟨_, rfl, _, rfl, sz, ms, wn, rfl, SqL.of hs10, m1, by omega, hms, by omega, by omega, fun pr us pf H11 hpr0 hpr11 hau hEu hP s11 => ?_⟩
    have s911 := s10.trans s11
    have hs11 := s11 _ _ hs10
    have hx11 := hx10.mono (same_tup s11)
    have hD11 := s911 _ _ hD9
    have htl11 := s911 _ _ (s9 _ _ htl8)
    have hT11 := hT8.mono (same_tup (s9.trans s911))
    have hpr : PrL H11 pr ms.length pf := ⟨us, hpr11, hau, hEu⟩
    have hne : (ts.map (tCo ms)) ≠ [] := by
      have : tCo ms t ∈ ts.map (tCo ms) := List.mem_map.mpr ⟨t, htin, rfl⟩
      exact fun z => by rw [z] at this; cases this
    have s011 := (s08.trans s9).trans s911
    refine ⟨_, rfl, _, rfl, D, _, rfl, SqL.of hD11, List.length_pos_iff.mpr hne, fun M hM hle => ?_⟩
    have eM : C = M := by
      obtain ⟨t2, ht2, rfl⟩ := List.mem_map.mp hM
      have b1 := hle _ (List.mem_map.mpr ⟨t, htin, rfl⟩)
      obtain ⟨c1, c2⟩ := (hN t2).mp ht2
      have b2 := g.le [t2] (by simp) (by simp) ⟨by show tLv t2 ++ [] = _; rw [List.append_nil]; exact c1, c2, trivial⟩
      have e1 : tCos ms [t2] = tCo ms t2 := by show tCo ms t2 + 0 = _; omega
      omega
    refine ⟨_, _, rfl, ?_, fun H12 s12 => ⟨_, rfl, iteF ?_⟩⟩
    · rw [eM]; exact flat_int _ _
    have hT12 := hT11.mono (same_tup s12)
    have hlay : PyData.canLayAll0 (toDs ts) = true := by
      have : ∀ l : List PT, (∀ t ∈ l, tOk ms.length t) → tOks ms.length l := fun l => by
        induction l with
        | nil => intro _; trivial
        | cons u l ih => intro h; exact ⟨h u (List.mem_cons_self ..), ih fun t ht => h t (List.mem_cons_of_mem _ ht)⟩
      exact (trees_fit (n := ms.length) (by omega) ts (this ts fun t ht => (fit t ht).1)).1
    obtain ⟨y1, y2, _, _, _⟩ := tree_fit (n := ms.length) (by omega) t g4
    refine ⟨_, rfl, _, rfl, tl, xs, toDs ts, toD t, rfl, SqL.of (s12 _ _ htl11), hT12.dv, (hx11.mono (same_tup s12)).dv, hlay, ?_, by rw [y2]; omega, _, rfl, ?_⟩
    · simp [SeqAt.shaped, y1, y2]; omega
    rw [any_eqv (by rw [toDs_map]; exact List.mem_map.mpr ⟨t, htin, rfl⟩) y1]
    refine iteF ?_
    have hs12 := s12 _ _ hs11
    refine ⟨_, rfl, _, rfl, _, rfl, _, rfl, sz, pr, ms, wn, x, t, pf, rfl, hs12, m1, by omega, hms, by omega, by omega, hx11.mono (same_tup s12), ⟨g1, g2⟩, hpr.same s12, hP, fun H13 s13 => ⟨_, rfl, iteF ?_⟩⟩
    have s1113 := s12.trans s13
    have htl13 := s1113 _ _ htl11
    have hD13 := s1113 _ _ hD11
    have hT13 := hT11.mono (same_tup s1113)
    have s013 := s011.trans s1113
    refine ⟨_, rfl, _, rfl, .l tl, .l D, _, _, rfl, SqL.of htl13, SqL.of hD13, ?_⟩
    have lD : ((ts.map (tCo ms)).map V.int).length = ts.length := by rw [List.length_map, List.length_map]
    refine for_zip (K := K) (S1 := .l tl) (S2 := .l D) (xs := xs) (ys := (ts.map (tCo ms)).map V.int) (fun j σ H14 => (∃ u1 u2 u3 : Option V, σ = [some (.ref a), some (.int (0 + (i : Int))), some (.ref p), some (.ref sz), some (.int wn), some (.ref tl), some (.ref D), some (.int C), some x, some (.ref pr), u1, u2, u3]) ∧ Same H13 H14) ⟨⟨_, _, _, rfl⟩, Same.refl _⟩ (fun _ _ _ h => ⟨SqL.of (h.2 _ _ htl13), SqL.of (h.2 _ _ hD13)⟩) ?_ ?_
    · rintro j x1 y1' σ H14 pp hx1 hy1 ⟨⟨u1, u2, u3, rfl⟩, s14⟩ hpp
      obtain ⟨t1, ht1, hv1⟩ := hT13.at hx1
      rw [List.getElem?_map, List.getElem?_map, ht1] at hy1
      cases hy1
      have ht1in := List.mem_of_getElem? ht1
      obtain ⟨z1, z2, z3⟩ := fit t1 ht1in
      obtain ⟨c1, c2⟩ := (hN t1).mp ht1in
      have s15 := same_new hpp (.tup [x1, .int (tCo ms t1)])
      have f15 : (upd H14 pp (.tup [x1, .int (tCo ms t1)])) pp = some (.tup [x1, .int (tCo ms t1)]) := upd_same
      refine ⟨pp, _, rfl, SqT.of f15, rfl, _, _, rfl, _, _, rfl, rfl, ?_⟩
      generalize upd H14 pp (.tup [x1, .int (tCo ms t1)]) = H15 at s15 f15 ⊢
      have s1315 := s14.trans s15
      refine ⟨_, rfl, _, rfl, _, rfl, _, rfl, sz, pr, ms, wn, x1, t1, pf, rfl, (s1113.trans s1315) _ _ hs11, m1, by omega, hms, by omega, by omega, hv1.mono (same_tup s1315), c2, z1, z2, c1, hpr.same (s1113.trans s1315), fun bo H16 hbo s16 => ?_⟩
      have ebo : bo = decide (tCo ms t1 = C) := by
        have hw : pf 0 ms.length = C := by
          obtain ⟨t3, g3'⟩ := hP 0 ms.length m1 (Nat.le_refl _)
          exact gr_alone g3' g
        have hall : ∀ x y, x < y → y ≤ ms.length → pf x y ≤ mostF ms pf wn x y := fun x y h1 h2 => by rw [most_gr h0 (by omega) hP h1 h2]; exact Int.le_refl _
        cases bo with
        | true =>
          have := (hbo.mp rfl).1
          rw [hw] at this
          exact (decide_eq_true this.symm).symm
        | false =>
          symm
          refine decide_eq_false fun z => ?_
          have := hbo.mpr ⟨by rw [hw, z], hall⟩
          cases this
      subst ebo
      refine ⟨_, rfl, _, "bool", _, _, rfl, .bl _, k_bl_bl K, _, rfl, iteF ⟨_, rfl, _, rfl, _, rfl, rfl, rfl, _, rfl, ?_⟩⟩
      refine iteNE ?_ ⟨⟨_, _, _, rfl⟩, s1315.trans s16⟩
      have e9 : decide (tCo ms t1 = C) = decide (V.int (tCo ms t1) = V.int C) := decide_eq_decide.mpr ⟨fun h => by rw [h], fun h => by injection h⟩
      rw [e9]
    · rintro σ H14 ⟨⟨u1, u2, u3, rfl⟩, s14⟩
      exact ⟨⟨_, _, _, _, _, _, _, _, _, _, _, _, rfl⟩, s013.trans s14⟩
  · rintro σ H2 ⟨⟨v1, v2, v3, v4, v5, v6, v7, v8, v9, v10, v11, v12, rfl⟩, s2⟩
    exact q H2
end
theorem top_mk {K : PySem.W.Frag} {h : Heap} {mg : Str → Option Value} {x : Str} {st : Stmt} {ps : List Str} {f : Addr} {od an : Option Addr} {sl : Array (Option Value)} {oc kV dc pm cd ct : Value} (X : K.In h) (G : h.Ns mainGlobals mg)
    (a : PySem.W.nsIn K mainGlobals x = some (some (.ref f))) (l : K.lookup f = some ⟨oc, od, .func (PySem.W.fnOf x x (defArgs st) (defBody st) (defScope st) .none kV dc pm an cd ct), sl⟩) (c : PySem.W.codeIn K cd x = true) (k : PySem.W.keepIn K (.ref f) = true)
    (hb : ∀ (kV doc pm : Value) (an : Option Addr) (cdv ct : Value) (us : List Value), us.length = ps.length → bindArgs (PySem.W.fnOf x x (defArgs st) (defBody st) (defScope st) .none kV doc pm an cdv ct) ⟨us, []⟩ = pure (ps.zip us)) : Top K mg x st ps :=
  ⟨_, _, fun_mk (st := st) l c k, PySem.W.mg_of X G a, (fun_mk (st := st) l c k).binds hb⟩
theorem us_c {n : Nat} {us : List Value} (h : us.length = n + 1) : ∃ a r, us = a :: r ∧ r.length = n := by
  obtain ⟨a, r, rfl⟩ := List.exists_cons_of_length_eq_add_one h
  exact ⟨a, r, rfl, Nat.succ.inj h⟩
theorem us_1 (us : List Value) (h : us.length = 1) : ∃ a0, us = [a0] := List.length_eq_one_iff.mp h
theorem us_2 (us : List Value) (h : us.length = 2) : ∃ a0 a1, us = [a0, a1] := by
  obtain ⟨a, r, rfl, g⟩ := us_c h
  obtain ⟨b0, rfl⟩ := us_1 r g
  exact ⟨a, b0, rfl⟩
theorem us_3 (us : List Value) (h : us.length = 3) : ∃ a0 a1 a2, us = [a0, a1, a2] := by
  obtain ⟨a, r, rfl, g⟩ := us_c h
  obtain ⟨b0, b1, rfl⟩ := us_2 r g
  exact ⟨a, b0, b1, rfl⟩
theorem us_4 (us : List Value) (h : us.length = 4) : ∃ a0 a1 a2 a3, us = [a0, a1, a2, a3] := by
  obtain ⟨a, r, rfl, g⟩ := us_c h
  obtain ⟨b0, b1, b2, rfl⟩ := us_3 r g
  exact ⟨a, b0, b1, b2, rfl⟩
theorem us_5 (us : List Value) (h : us.length = 5) : ∃ a0 a1 a2 a3 a4, us = [a0, a1, a2, a3, a4] := by
  obtain ⟨a, r, rfl, g⟩ := us_c h
  obtain ⟨b0, b1, b2, b3, rfl⟩ := us_4 r g
  exact ⟨a, b0, b1, b2, b3, rfl⟩
theorem all_mk {l : PySem.W.OpenLaw} {w : World} {K : PySem.W.Frag} {h : Heap} {mg : Str → Option Value} {fa : Addr} (X : K.In h) (G : h.Ns mainGlobals mg) (hfa : mg "law" = some (.ref fa))
    {f0 : Addr} {od0 an0 : Option Addr} {sl0 : Array (Option Value)} {oc0 kV0 dc0 pm0 cd0 ct0 : Value}
    {f1 : Addr} {od1 an1 : Option Addr} {sl1 : Array (Option Value)} {oc1 kV1 dc1 pm1 cd1 ct1 : Value}
    {f2 : Addr} {od2 an2 : Option Addr} {sl2 : Array (Option Value)} {oc2 kV2 dc2 pm2 cd2 ct2 : Value}
    {f3 : Addr} {od3 an3 : Option Addr} {sl3 : Array (Option Value)} {oc3 kV3 dc3 pm3 cd3 ct3 : Value}
    {f4 : Addr} {od4 an4 : Option Addr} {sl4 : Array (Option Value)} {oc4 kV4 dc4 pm4 cd4 ct4 : Value}
    {f5 : Addr} {od5 an5 : Option Addr} {sl5 : Array (Option Value)} {oc5 kV5 dc5 pm5 cd5 ct5 : Value}
    {f6 : Addr} {od6 an6 : Option Addr} {sl6 : Array (Option Value)} {oc6 kV6 dc6 pm6 cd6 ct6 : Value}
    {f7 : Addr} {od7 an7 : Option Addr} {sl7 : Array (Option Value)} {oc7 kV7 dc7 pm7 cd7 ct7 : Value}
    {f8 : Addr} {od8 an8 : Option Addr} {sl8 : Array (Option Value)} {oc8 kV8 dc8 pm8 cd8 ct8 : Value}
    {f9 : Addr} {od9 an9 : Option Addr} {sl9 : Array (Option Value)} {oc9 kV9 dc9 pm9 cd9 ct9 : Value}
    {f10 : Addr} {od10 an10 : Option Addr} {sl10 : Array (Option Value)} {oc10 kV10 dc10 pm10 cd10 ct10 : Value}
    {f11 : Addr} {od11 an11 : Option Addr} {sl11 : Array (Option Value)} {oc11 kV11 dc11 pm11 cd11 ct11 : Value}
    {f12 : Addr} {od12 an12 : Option Addr} {sl12 : Array (Option Value)} {oc12 kV12 dc12 pm12 cd12 ct12 : Value}
    {f13 : Addr} {od13 an13 : Option Addr} {sl13 : Array (Option Value)} {oc13 kV13 dc13 pm13 cd13 ct13 : Value}
    {f14 : Addr} {od14 an14 : Option Addr} {sl14 : Array (Option Value)} {oc14 kV14 dc14 pm14 cd14 ct14 : Value}
    {f15 : Addr} {od15 an15 : Option Addr} {sl15 : Array (Option Value)} {oc15 kV15 dc15 pm15 cd15 ct15 : Value}
    {f16 : Addr} {od16 an16 : Option Addr} {sl16 : Array (Option Value)} {oc16 kV16 dc16 pm16 cd16 ct16 : Value}
    {f17 : Addr} {od17 an17 : Option Addr} {sl17 : Array (Option Value)} {oc17 kV17 dc17 pm17 cd17 ct17 : Value}
    {f18 : Addr} {od18 an18 : Option Addr} {sl18 : Array (Option Value)} {oc18 kV18 dc18 pm18 cd18 ct18 : Value}
    {f19 : Addr} {od19 an19 : Option Addr} {sl19 : Array (Option Value)} {oc19 kV19 dc19 pm19 cd19 ct19 : Value}
    {f20 : Addr} {od20 an20 : Option Addr} {sl20 : Array (Option Value)} {oc20 kV20 dc20 pm20 cd20 ct20 : Value}
    {f21 : Addr} {od21 an21 : Option Addr} {sl21 : Array (Option Value)} {oc21 kV21 dc21 pm21 cd21 ct21 : Value}
    {f22 : Addr} {od22 an22 : Option Addr} {sl22 : Array (Option Value)} {oc22 kV22 dc22 pm22 cd22 ct22 : Value}
    {f23 : Addr} {od23 an23 : Option Addr} {sl23 : Array (Option Value)} {oc23 kV23 dc23 pm23 cd23 ct23 : Value}
    {f24 : Addr} {od24 an24 : Option Addr} {sl24 : Array (Option Value)} {oc24 kV24 dc24 pm24 cd24 ct24 : Value}
    {f25 : Addr} {od25 an25 : Option Addr} {sl25 : Array (Option Value)} {oc25 kV25 dc25 pm25 cd25 ct25 : Value}
    {f26 : Addr} {od26 an26 : Option Addr} {sl26 : Array (Option Value)} {oc26 kV26 dc26 pm26 cd26 ct26 : Value}
    {f27 : Addr} {od27 an27 : Option Addr} {sl27 : Array (Option Value)} {oc27 kV27 dc27 pm27 cd27 ct27 : Value}
    {f28 : Addr} {od28 an28 : Option Addr} {sl28 : Array (Option Value)} {oc28 kV28 dc28 pm28 cd28 ct28 : Value}
    {f29 : Addr} {od29 an29 : Option Addr} {sl29 : Array (Option Value)} {oc29 kV29 dc29 pm29 cd29 ct29 : Value}
    {f30 : Addr} {od30 an30 : Option Addr} {sl30 : Array (Option Value)} {oc30 kV30 dc30 pm30 cd30 ct30 : Value}
    {f31 : Addr} {od31 an31 : Option Addr} {sl31 : Array (Option Value)} {oc31 kV31 dc31 pm31 cd31 ct31 : Value}
    (a0 : PySem.W.nsIn K mainGlobals "near_plan" = some (some (.ref f0))) (l0 : K.lookup f0 = some ⟨oc0, od0, .func (PySem.W.fnOf "near_plan" "near_plan" (defArgs st_near_plan) (defBody st_near_plan) (defScope st_near_plan) .none kV0 dc0 pm0 an0 cd0 ct0), sl0⟩) (c0 : PySem.W.codeIn K cd0 "near_plan" = true) (k0 : PySem.W.keepIn K (.ref f0) = true)
    (a1 : PySem.W.nsIn K mainGlobals "prices_for" = some (some (.ref f1))) (l1 : K.lookup f1 = some ⟨oc1, od1, .func (PySem.W.fnOf "prices_for" "prices_for" (defArgs st_prices_for) (defBody st_prices_for) (defScope st_prices_for) .none kV1 dc1 pm1 an1 cd1 ct1), sl1⟩) (c1 : PySem.W.codeIn K cd1 "prices_for" = true) (k1 : PySem.W.keepIn K (.ref f1) = true)
    (a2 : PySem.W.nsIn K mainGlobals "least_groves" = some (some (.ref f2))) (l2 : K.lookup f2 = some ⟨oc2, od2, .func (PySem.W.fnOf "least_groves" "least_groves" (defArgs st_least_groves) (defBody st_least_groves) (defScope st_least_groves) .none kV2 dc2 pm2 an2 cd2 ct2), sl2⟩) (c2 : PySem.W.codeIn K cd2 "least_groves" = true) (k2 : PySem.W.keepIn K (.ref f2) = true)
    (a3 : PySem.W.nsIn K mainGlobals "least_tree" = some (some (.ref f3))) (l3 : K.lookup f3 = some ⟨oc3, od3, .func (PySem.W.fnOf "least_tree" "least_tree" (defArgs st_least_tree) (defBody st_least_tree) (defScope st_least_tree) .none kV3 dc3 pm3 an3 cd3 ct3), sl3⟩) (c3 : PySem.W.codeIn K cd3 "least_tree" = true) (k3 : PySem.W.keepIn K (.ref f3) = true)
    (a4 : PySem.W.nsIn K mainGlobals "least_grove" = some (some (.ref f4))) (l4 : K.lookup f4 = some ⟨oc4, od4, .func (PySem.W.fnOf "least_grove" "least_grove" (defArgs st_least_grove) (defBody st_least_grove) (defScope st_least_grove) .none kV4 dc4 pm4 an4 cd4 ct4), sl4⟩) (c4 : PySem.W.codeIn K cd4 "least_grove" = true) (k4 : PySem.W.keepIn K (.ref f4) = true)
    (a5 : PySem.W.nsIn K mainGlobals "least_cut" = some (some (.ref f5))) (l5 : K.lookup f5 = some ⟨oc5, od5, .func (PySem.W.fnOf "least_cut" "least_cut" (defArgs st_least_cut) (defBody st_least_cut) (defScope st_least_cut) .none kV5 dc5 pm5 an5 cd5 ct5), sl5⟩) (c5 : PySem.W.codeIn K cd5 "least_cut" = true) (k5 : PySem.W.keepIn K (.ref f5) = true)
    (a6 : PySem.W.nsIn K mainGlobals "is_number" = some (some (.ref f6))) (l6 : K.lookup f6 = some ⟨oc6, od6, .func (PySem.W.fnOf "is_number" "is_number" (defArgs st_is_number) (defBody st_is_number) (defScope st_is_number) .none kV6 dc6 pm6 an6 cd6 ct6), sl6⟩) (c6 : PySem.W.codeIn K cd6 "is_number" = true) (k6 : PySem.W.keepIn K (.ref f6) = true)
    (a7 : PySem.W.nsIn K mainGlobals "is_triple" = some (some (.ref f7))) (l7 : K.lookup f7 = some ⟨oc7, od7, .func (PySem.W.fnOf "is_triple" "is_triple" (defArgs st_is_triple) (defBody st_is_triple) (defScope st_is_triple) .none kV7 dc7 pm7 an7 cd7 ct7), sl7⟩) (c7 : PySem.W.codeIn K cd7 "is_triple" = true) (k7 : PySem.W.keepIn K (.ref f7) = true)
    (a8 : PySem.W.nsIn K mainGlobals "finds_rows" = some (some (.ref f8))) (l8 : K.lookup f8 = some ⟨oc8, od8, .func (PySem.W.fnOf "finds_rows" "finds_rows" (defArgs st_finds_rows) (defBody st_finds_rows) (defScope st_finds_rows) .none kV8 dc8 pm8 an8 cd8 ct8), sl8⟩) (c8 : PySem.W.codeIn K cd8 "finds_rows" = true) (k8 : PySem.W.keepIn K (.ref f8) = true)
    (a9 : PySem.W.nsIn K mainGlobals "cost_of" = some (some (.ref f9))) (l9 : K.lookup f9 = some ⟨oc9, od9, .func (PySem.W.fnOf "cost_of" "cost_of" (defArgs st_cost_of) (defBody st_cost_of) (defScope st_cost_of) .none kV9 dc9 pm9 an9 cd9 ct9), sl9⟩) (c9 : PySem.W.codeIn K cd9 "cost_of" = true) (k9 : PySem.W.keepIn K (.ref f9) = true)
    (a10 : PySem.W.nsIn K mainGlobals "size_and_cost" = some (some (.ref f10))) (l10 : K.lookup f10 = some ⟨oc10, od10, .func (PySem.W.fnOf "size_and_cost" "size_and_cost" (defArgs st_size_and_cost) (defBody st_size_and_cost) (defScope st_size_and_cost) .none kV10 dc10 pm10 an10 cd10 ct10), sl10⟩) (c10 : PySem.W.codeIn K cd10 "size_and_cost" = true) (k10 : PySem.W.keepIn K (.ref f10) = true)
    (a11 : PySem.W.nsIn K mainGlobals "shows_near" = some (some (.ref f11))) (l11 : K.lookup f11 = some ⟨oc11, od11, .func (PySem.W.fnOf "shows_near" "shows_near" (defArgs st_shows_near) (defBody st_shows_near) (defScope st_shows_near) .none kV11 dc11 pm11 an11 cd11 ct11), sl11⟩) (c11 : PySem.W.codeIn K cd11 "shows_near" = true) (k11 : PySem.W.keepIn K (.ref f11) = true)
    (a12 : PySem.W.nsIn K mainGlobals "is_near" = some (some (.ref f12))) (l12 : K.lookup f12 = some ⟨oc12, od12, .func (PySem.W.fnOf "is_near" "is_near" (defArgs st_is_near) (defBody st_is_near) (defScope st_is_near) .none kV12 dc12 pm12 an12 cd12 ct12), sl12⟩) (c12 : PySem.W.codeIn K cd12 "is_near" = true) (k12 : PySem.W.keepIn K (.ref f12) = true)
    (a13 : PySem.W.nsIn K mainGlobals "are_prices" = some (some (.ref f13))) (l13 : K.lookup f13 = some ⟨oc13, od13, .func (PySem.W.fnOf "are_prices" "are_prices" (defArgs st_are_prices) (defBody st_are_prices) (defScope st_are_prices) .none kV13 dc13 pm13 an13 cd13 ct13), sl13⟩) (c13 : PySem.W.codeIn K cd13 "are_prices" = true) (k13 : PySem.W.keepIn K (.ref f13) = true)
    (a14 : PySem.W.nsIn K mainGlobals "stretches_of" = some (some (.ref f14))) (l14 : K.lookup f14 = some ⟨oc14, od14, .func (PySem.W.fnOf "stretches_of" "stretches_of" (defArgs st_stretches_of) (defBody st_stretches_of) (defScope st_stretches_of) .none kV14 dc14 pm14 an14 cd14 ct14), sl14⟩) (c14 : PySem.W.codeIn K cd14 "stretches_of" = true) (k14 : PySem.W.keepIn K (.ref f14) = true)
    (a15 : PySem.W.nsIn K mainGlobals "cut_prices" = some (some (.ref f15))) (l15 : K.lookup f15 = some ⟨oc15, od15, .func (PySem.W.fnOf "cut_prices" "cut_prices" (defArgs st_cut_prices) (defBody st_cut_prices) (defScope st_cut_prices) .none kV15 dc15 pm15 an15 cd15 ct15), sl15⟩) (c15 : PySem.W.codeIn K cd15 "cut_prices" = true) (k15 : PySem.W.keepIn K (.ref f15) = true)
    (a16 : PySem.W.nsIn K mainGlobals "part_sums" = some (some (.ref f16))) (l16 : K.lookup f16 = some ⟨oc16, od16, .func (PySem.W.fnOf "part_sums" "part_sums" (defArgs st_part_sums) (defBody st_part_sums) (defScope st_part_sums) .none kV16 dc16 pm16 an16 cd16 ct16), sl16⟩) (c16 : PySem.W.codeIn K cd16 "part_sums" = true) (k16 : PySem.W.keepIn K (.ref f16) = true)
    (a17 : PySem.W.nsIn K mainGlobals "most_price" = some (some (.ref f17))) (l17 : K.lookup f17 = some ⟨oc17, od17, .func (PySem.W.fnOf "most_price" "most_price" (defArgs st_most_price) (defBody st_most_price) (defScope st_most_price) .none kV17 dc17 pm17 an17 cd17 ct17), sl17⟩) (c17 : PySem.W.codeIn K cd17 "most_price" = true) (k17 : PySem.W.keepIn K (.ref f17) = true)
    (a18 : PySem.W.nsIn K mainGlobals "_law_mix" = some (some (.ref f18))) (l18 : K.lookup f18 = some ⟨oc18, od18, .func (PySem.W.fnOf "_law_mix" "_law_mix" (defArgs st_l_mix) (defBody st_l_mix) (defScope st_l_mix) .none kV18 dc18 pm18 an18 cd18 ct18), sl18⟩) (c18 : PySem.W.codeIn K cd18 "_law_mix" = true) (k18 : PySem.W.keepIn K (.ref f18) = true)
    (a19 : PySem.W.nsIn K mainGlobals "_law_left" = some (some (.ref f19))) (l19 : K.lookup f19 = some ⟨oc19, od19, .func (PySem.W.fnOf "_law_left" "_law_left" (defArgs st_l_left) (defBody st_l_left) (defScope st_l_left) .none kV19 dc19 pm19 an19 cd19 ct19), sl19⟩) (c19 : PySem.W.codeIn K cd19 "_law_left" = true) (k19 : PySem.W.keepIn K (.ref f19) = true)
    (a20 : PySem.W.nsIn K mainGlobals "_law_pick" = some (some (.ref f20))) (l20 : K.lookup f20 = some ⟨oc20, od20, .func (PySem.W.fnOf "_law_pick" "_law_pick" (defArgs st_l_pick) (defBody st_l_pick) (defScope st_l_pick) .none kV20 dc20 pm20 an20 cd20 ct20), sl20⟩) (c20 : PySem.W.codeIn K cd20 "_law_pick" = true) (k20 : PySem.W.keepIn K (.ref f20) = true)
    (a21 : PySem.W.nsIn K mainGlobals "_law_many" = some (some (.ref f21))) (l21 : K.lookup f21 = some ⟨oc21, od21, .func (PySem.W.fnOf "_law_many" "_law_many" (defArgs st_l_many) (defBody st_l_many) (defScope st_l_many) .none kV21 dc21 pm21 an21 cd21 ct21), sl21⟩) (c21 : PySem.W.codeIn K cd21 "_law_many" = true) (k21 : PySem.W.keepIn K (.ref f21) = true)
    (a22 : PySem.W.nsIn K mainGlobals "_law_sizes" = some (some (.ref f22))) (l22 : K.lookup f22 = some ⟨oc22, od22, .func (PySem.W.fnOf "_law_sizes" "_law_sizes" (defArgs st_l_sizes) (defBody st_l_sizes) (defScope st_l_sizes) .none kV22 dc22 pm22 an22 cd22 ct22), sl22⟩) (c22 : PySem.W.codeIn K cd22 "_law_sizes" = true) (k22 : PySem.W.keepIn K (.ref f22) = true)
    (a23 : PySem.W.nsIn K mainGlobals "_law_ways" = some (some (.ref f23))) (l23 : K.lookup f23 = some ⟨oc23, od23, .func (PySem.W.fnOf "_law_ways" "_law_ways" (defArgs st_l_ways) (defBody st_l_ways) (defScope st_l_ways) .none kV23 dc23 pm23 an23 cd23 ct23), sl23⟩) (c23 : PySem.W.codeIn K cd23 "_law_ways" = true) (k23 : PySem.W.keepIn K (.ref f23) = true)
    (a24 : PySem.W.nsIn K mainGlobals "_law_rows_in" = some (some (.ref f24))) (l24 : K.lookup f24 = some ⟨oc24, od24, .func (PySem.W.fnOf "_law_rows_in" "_law_rows_in" (defArgs st_l_rows_in) (defBody st_l_rows_in) (defScope st_l_rows_in) .none kV24 dc24 pm24 an24 cd24 ct24), sl24⟩) (c24 : PySem.W.codeIn K cd24 "_law_rows_in" = true) (k24 : PySem.W.keepIn K (.ref f24) = true)
    (a25 : PySem.W.nsIn K mainGlobals "_law_cost" = some (some (.ref f25))) (l25 : K.lookup f25 = some ⟨oc25, od25, .func (PySem.W.fnOf "_law_cost" "_law_cost" (defArgs st_l_cost) (defBody st_l_cost) (defScope st_l_cost) .none kV25 dc25 pm25 an25 cd25 ct25), sl25⟩) (c25 : PySem.W.codeIn K cd25 "_law_cost" = true) (k25 : PySem.W.keepIn K (.ref f25) = true)
    (a26 : PySem.W.nsIn K mainGlobals "_law_same" = some (some (.ref f26))) (l26 : K.lookup f26 = some ⟨oc26, od26, .func (PySem.W.fnOf "_law_same" "_law_same" (defArgs st_l_same) (defBody st_l_same) (defScope st_l_same) .none kV26 dc26 pm26 an26 cd26 ct26), sl26⟩) (c26 : PySem.W.codeIn K cd26 "_law_same" = true) (k26 : PySem.W.keepIn K (.ref f26) = true)
    (a27 : PySem.W.nsIn K mainGlobals "_law_cuts" = some (some (.ref f27))) (l27 : K.lookup f27 = some ⟨oc27, od27, .func (PySem.W.fnOf "_law_cuts" "_law_cuts" (defArgs st_l_cuts) (defBody st_l_cuts) (defScope st_l_cuts) .none kV27 dc27 pm27 an27 cd27 ct27), sl27⟩) (c27 : PySem.W.codeIn K cd27 "_law_cuts" = true) (k27 : PySem.W.keepIn K (.ref f27) = true)
    (a28 : PySem.W.nsIn K mainGlobals "_law_trees" = some (some (.ref f28))) (l28 : K.lookup f28 = some ⟨oc28, od28, .func (PySem.W.fnOf "_law_trees" "_law_trees" (defArgs st_l_trees) (defBody st_l_trees) (defScope st_l_trees) .none kV28 dc28 pm28 an28 cd28 ct28), sl28⟩) (c28 : PySem.W.codeIn K cd28 "_law_trees" = true) (k28 : PySem.W.keepIn K (.ref f28) = true)
    (a29 : PySem.W.nsIn K mainGlobals "_law_put_beside" = some (some (.ref f29))) (l29 : K.lookup f29 = some ⟨oc29, od29, .func (PySem.W.fnOf "_law_put_beside" "_law_put_beside" (defArgs st_l_put_beside) (defBody st_l_put_beside) (defScope st_l_put_beside) .none kV29 dc29 pm29 an29 cd29 ct29), sl29⟩) (c29 : PySem.W.codeIn K cd29 "_law_put_beside" = true) (k29 : PySem.W.keepIn K (.ref f29) = true)
    (a30 : PySem.W.nsIn K mainGlobals "_law_dearer" = some (some (.ref f30))) (l30 : K.lookup f30 = some ⟨oc30, od30, .func (PySem.W.fnOf "_law_dearer" "_law_dearer" (defArgs st_l_dearer) (defBody st_l_dearer) (defScope st_l_dearer) .none kV30 dc30 pm30 an30 cd30 ct30), sl30⟩) (c30 : PySem.W.codeIn K cd30 "_law_dearer" = true) (k30 : PySem.W.keepIn K (.ref f30) = true)
    (a31 : PySem.W.nsIn K mainGlobals "law" = some (some (.ref f31))) (l31 : K.lookup f31 = some ⟨oc31, od31, .func (PySem.W.fnOf "law" "law" (defArgs st_law) (defBody st_law) (defScope st_law) .none kV31 dc31 pm31 an31 cd31 ct31), sl31⟩) (c31 : PySem.W.codeIn K cd31 "law" = true) (k31 : PySem.W.keepIn K (.ref f31) = true)
    (z0 : PySem.W.nsIn K mainGlobals "abs" = some none) (z1 : PySem.W.nsIn K mainGlobals "all" = some none) (z2 : PySem.W.nsIn K mainGlobals "bool" = some none) (z3 : PySem.W.nsIn K mainGlobals "enumerate" = some none) (z4 : PySem.W.nsIn K mainGlobals "int" = some none) (z5 : PySem.W.nsIn K mainGlobals "isinstance" = some none) (z6 : PySem.W.nsIn K mainGlobals "len" = some none) (z7 : PySem.W.nsIn K mainGlobals "list" = some none) (z8 : PySem.W.nsIn K mainGlobals "max" = some none) (z9 : PySem.W.nsIn K mainGlobals "min" = some none) (z10 : PySem.W.nsIn K mainGlobals "range" = some none) (z11 : PySem.W.nsIn K mainGlobals "str" = some none) (z12 : PySem.W.nsIn K mainGlobals "sum" = some none) (z13 : PySem.W.nsIn K mainGlobals "tuple" = some none) (z14 : PySem.W.nsIn K mainGlobals "zip" = some none) :
    ∃ fd : FuncData, (∀ (s : Shared) (v : Value), BindsTo s fd ⟨[v], []⟩ [("_law_script", v)]) ∧ ∀ base : Heap, K.In base → base.Ns mainGlobals mg → FnOk l.prog w K mg base CX0 18 fa fd ["_law_script"] (spLaw K) := by
  have e := hfa.symm.trans (PySem.W.mg_of X G a31)
  cases e
  have T : Tops K mg := ⟨⟨PySem.W.mg_none_of X G z0, PySem.W.mg_none_of X G z1, PySem.W.mg_none_of X G z2, PySem.W.mg_none_of X G z3, PySem.W.mg_none_of X G z4, PySem.W.mg_none_of X G z5, PySem.W.mg_none_of X G z6, PySem.W.mg_none_of X G z7, PySem.W.mg_none_of X G z8, PySem.W.mg_none_of X G z9, PySem.W.mg_none_of X G z10, PySem.W.mg_none_of X G z11, PySem.W.mg_none_of X G z12, PySem.W.mg_none_of X G z13, PySem.W.mg_none_of X G z14⟩, top_mk X G a0 l0 c0 k0 (fun _ _ _ _ _ _ us hl => by obtain ⟨_, _, rfl⟩ := us_2 us hl; exact rfl), top_mk X G a1 l1 c1 k1 (fun _ _ _ _ _ _ us hl => by obtain ⟨_, _, rfl⟩ := us_2 us hl; exact rfl), top_mk X G a2 l2 c2 k2 (fun _ _ _ _ _ _ us hl => by obtain ⟨_, _, rfl⟩ := us_2 us hl; exact rfl), top_mk X G a3 l3 c3 k3 (fun _ _ _ _ _ _ us hl => by obtain ⟨_, _, _, _, _, rfl⟩ := us_5 us hl; exact rfl), top_mk X G a4 l4 c4 k4 (fun _ _ _ _ _ _ us hl => by obtain ⟨_, _, _, _, _, rfl⟩ := us_5 us hl; exact rfl), top_mk X G a5 l5 c5 k5 (fun _ _ _ _ _ _ us hl => by obtain ⟨_, _, _, _, rfl⟩ := us_4 us hl; exact rfl), top_mk X G a6 l6 c6 k6 (fun _ _ _ _ _ _ us hl => by obtain ⟨_, rfl⟩ := us_1 us hl; exact rfl), top_mk X G a7 l7 c7 k7 (fun _ _ _ _ _ _ us hl => by obtain ⟨_, rfl⟩ := us_1 us hl; exact rfl), top_mk X G a8 l8 c8 k8 (fun _ _ _ _ _ _ us hl => by obtain ⟨_, _, _, _, rfl⟩ := us_4 us hl; exact rfl), top_mk X G a9 l9 c9 k9 (fun _ _ _ _ _ _ us hl => by obtain ⟨_, _, rfl⟩ := us_2 us hl; exact rfl), top_mk X G a10 l10 c10 k10 (fun _ _ _ _ _ _ us hl => by obtain ⟨_, _, rfl⟩ := us_2 us hl; exact rfl), top_mk X G a11 l11 c11 k11 (fun _ _ _ _ _ _ us hl => by obtain ⟨_, _, _, _, rfl⟩ := us_4 us hl; exact rfl), top_mk X G a12 l12 c12 k12 (fun _ _ _ _ _ _ us hl => by obtain ⟨_, _, _, rfl⟩ := us_3 us hl; exact rfl), top_mk X G a13 l13 c13 k13 (fun _ _ _ _ _ _ us hl => by obtain ⟨_, _, rfl⟩ := us_2 us hl; exact rfl), top_mk X G a14 l14 c14 k14 (fun _ _ _ _ _ _ us hl => by obtain ⟨_, rfl⟩ := us_1 us hl; exact rfl), top_mk X G a15 l15 c15 k15 (fun _ _ _ _ _ _ us hl => by obtain ⟨_, _, rfl⟩ := us_2 us hl; exact rfl), top_mk X G a16 l16 c16 k16 (fun _ _ _ _ _ _ us hl => by obtain ⟨_, _, _, _, rfl⟩ := us_4 us hl; exact rfl), top_mk X G a17 l17 c17 k17 (fun _ _ _ _ _ _ us hl => by obtain ⟨_, _, _, _, _, rfl⟩ := us_5 us hl; exact rfl), top_mk X G a18 l18 c18 k18 (fun _ _ _ _ _ _ us hl => by obtain ⟨_, _, rfl⟩ := us_2 us hl; exact rfl), top_mk X G a19 l19 c19 k19 (fun _ _ _ _ _ _ us hl => by obtain ⟨_, _, rfl⟩ := us_2 us hl; exact rfl), top_mk X G a20 l20 c20 k20 (fun _ _ _ _ _ _ us hl => by obtain ⟨_, _, rfl⟩ := us_2 us hl; exact rfl), top_mk X G a21 l21 c21 k21 (fun _ _ _ _ _ _ us hl => by obtain ⟨_, rfl⟩ := us_1 us hl; exact rfl), top_mk X G a22 l22 c22 k22 (fun _ _ _ _ _ _ us hl => by obtain ⟨_, _, rfl⟩ := us_2 us hl; exact rfl), top_mk X G a23 l23 c23 k23 (fun _ _ _ _ _ _ us hl => by obtain ⟨_, rfl⟩ := us_1 us hl; exact rfl), top_mk X G a24 l24 c24 k24 (fun _ _ _ _ _ _ us hl => by obtain ⟨_, rfl⟩ := us_1 us hl; exact rfl), top_mk X G a25 l25 c25 k25 (fun _ _ _ _ _ _ us hl => by obtain ⟨_, _, rfl⟩ := us_2 us hl; exact rfl), top_mk X G a26 l26 c26 k26 (fun _ _ _ _ _ _ us hl => by obtain ⟨_, _, rfl⟩ := us_2 us hl; exact rfl), top_mk X G a27 l27 c27 k27 (fun _ _ _ _ _ _ us hl => by obtain ⟨_, _, _, rfl⟩ := us_3 us hl; exact rfl), top_mk X G a28 l28 c28 k28 (fun _ _ _ _ _ _ us hl => by obtain ⟨_, _, rfl⟩ := us_2 us hl; exact rfl), top_mk X G a29 l29 c29 k29 (fun _ _ _ _ _ _ us hl => by obtain ⟨_, _, _, rfl⟩ := us_3 us hl; exact rfl), top_mk X G a30 l30 c30 k30 (fun _ _ _ _ _ _ us hl => by obtain ⟨_, _, _, _, rfl⟩ := us_4 us hl; exact rfl)⟩
  exact ⟨PySem.W.fnOf "law" "law" (defArgs st_law) (defBody st_law) (defScope st_law) .none kV31 dc31 pm31 an31 cd31 ct31, fun s v => .of_eq rfl, fun base _ _ => ok_law (fun_mk (st := st_law) l31 c31 k31) T⟩
theorem walk {l : PySem.W.OpenLaw} {q : Program} {loose : List Str} {XP : (Str → Option Value) → Heap → Prop} {YP : World → Heap → Prop} {d : DefRec} {K : Params → PySem.W.Frag} (hn : l.most = some 63) (hdf : d.params.defaults = [])
    (hY : ∀ (w : World) (h : Heap), YP w h → (K w.params).In h)
    (F : ∀ (w : World) (mg : Str → Option Value) (fa : Addr) (h : Heap), (K w.params).In h → h.Ns mainGlobals mg → mg d.name = some (.ref fa) →
      ∃ fd : FuncData, (∀ (s : Shared) (u : Value), BindsTo s fd ⟨[u], []⟩ [("_law_script", u)]) ∧ ∀ base : Heap, (K w.params).In base → base.Ns mainGlobals mg → FnOk l.prog w (K w.params) mg base CX0 18 fa fd ["_law_script"] (spLaw (K w.params))) :
    PySem.W.WalkO q loose XP YP l.row.toRowW d [] (fun f vs => PySem.call f vs) :=
  L2.walk_of (n := 63) (k := 18) (x := "_law_script") (CX := fun _ => CX0) (sp := fun w => spLaw (K w.params)) hn (by decide) hdf ⟨rfl, by decide, by decide, rfl⟩ hY F (fun _ _ a ns hl _ hS => ⟨a, ns, rfl, hS, hl, fun _ => rfl⟩) fun _ _ _ _ _ z => z
end My
open PySem PySem.W PyProof.Rows
set_option maxRecDepth 100000 in
set_option maxHeartbeats 0 in
theorem PySem.Challenge.cw_mergetree_k70_whole_near_beside_all_near_holds : PySem.Challenge.rw_mergetree_k70_whole_near_beside_all_near.Holds := by
  w_on; o_law; k_head; (case hw => w_witness2)
  k_fill
  refine My.walk (l := PySem.Challenge.rw_mergetree_k70_whole_near_beside_all_near) rfl rfl (fun w h Y => PySem.W.kIn_of Y) ?F
  case F =>
    intro w mg fa h KX G hmg
    refine' My.all_mk KX G hmg ?a0 ?l0 ?c0 ?k0 ?a1 ?l1 ?c1 ?k1 ?a2 ?l2 ?c2 ?k2 ?a3 ?l3 ?c3 ?k3 ?a4 ?l4 ?c4 ?k4 ?a5 ?l5 ?c5 ?k5 ?a6 ?l6 ?c6 ?k6 ?a7 ?l7 ?c7 ?k7 ?a8 ?l8 ?c8 ?k8 ?a9 ?l9 ?c9 ?k9 ?a10 ?l10 ?c10 ?k10 ?a11 ?l11 ?c11 ?k11 ?a12 ?l12 ?c12 ?k12 ?a13 ?l13 ?c13 ?k13 ?a14 ?l14 ?c14 ?k14 ?a15 ?l15 ?c15 ?k15 ?a16 ?l16 ?c16 ?k16 ?a17 ?l17 ?c17 ?k17 ?a18 ?l18 ?c18 ?k18 ?a19 ?l19 ?c19 ?k19 ?a20 ?l20 ?c20 ?k20 ?a21 ?l21 ?c21 ?k21 ?a22 ?l22 ?c22 ?k22 ?a23 ?l23 ?c23 ?k23 ?a24 ?l24 ?c24 ?k24 ?a25 ?l25 ?c25 ?k25 ?a26 ?l26 ?c26 ?k26 ?a27 ?l27 ?c27 ?k27 ?a28 ?l28 ?c28 ?k28 ?a29 ?l29 ?c29 ?k29 ?a30 ?l30 ?c30 ?k30 ?a31 ?l31 ?c31 ?k31 ?z0 ?z1 ?z2 ?z3 ?z4 ?z5 ?z6 ?z7 ?z8 ?z9 ?z10 ?z11 ?z12 ?z13 ?z14
    (case a0 => k_is); (case l0 => k_is); (case c0 => k_is); (case k0 => k_is)
    (case a1 => k_is); (case l1 => k_is); (case c1 => k_is); (case k1 => k_is)
    (case a2 => k_is); (case l2 => k_is); (case c2 => k_is); (case k2 => k_is)
    (case a3 => k_is); (case l3 => k_is); (case c3 => k_is); (case k3 => k_is)
    (case a4 => k_is); (case l4 => k_is); (case c4 => k_is); (case k4 => k_is)
    (case a5 => k_is); (case l5 => k_is); (case c5 => k_is); (case k5 => k_is)
    (case a6 => k_is); (case l6 => k_is); (case c6 => k_is); (case k6 => k_is)
    (case a7 => k_is); (case l7 => k_is); (case c7 => k_is); (case k7 => k_is)
    (case a8 => k_is); (case l8 => k_is); (case c8 => k_is); (case k8 => k_is)
    (case a9 => k_is); (case l9 => k_is); (case c9 => k_is); (case k9 => k_is)
    (case a10 => k_is); (case l10 => k_is); (case c10 => k_is); (case k10 => k_is)
    (case a11 => k_is); (case l11 => k_is); (case c11 => k_is); (case k11 => k_is)
    (case a12 => k_is); (case l12 => k_is); (case c12 => k_is); (case k12 => k_is)
    (case a13 => k_is); (case l13 => k_is); (case c13 => k_is); (case k13 => k_is)
    (case a14 => k_is); (case l14 => k_is); (case c14 => k_is); (case k14 => k_is)
    (case a15 => k_is); (case l15 => k_is); (case c15 => k_is); (case k15 => k_is)
    (case a16 => k_is); (case l16 => k_is); (case c16 => k_is); (case k16 => k_is)
    (case a17 => k_is); (case l17 => k_is); (case c17 => k_is); (case k17 => k_is)
    (case a18 => k_is); (case l18 => k_is); (case c18 => k_is); (case k18 => k_is)
    (case a19 => k_is); (case l19 => k_is); (case c19 => k_is); (case k19 => k_is)
    (case a20 => k_is); (case l20 => k_is); (case c20 => k_is); (case k20 => k_is)
    (case a21 => k_is); (case l21 => k_is); (case c21 => k_is); (case k21 => k_is)
    (case a22 => k_is); (case l22 => k_is); (case c22 => k_is); (case k22 => k_is)
    (case a23 => k_is); (case l23 => k_is); (case c23 => k_is); (case k23 => k_is)
    (case a24 => k_is); (case l24 => k_is); (case c24 => k_is); (case k24 => k_is)
    (case a25 => k_is); (case l25 => k_is); (case c25 => k_is); (case k25 => k_is)
    (case a26 => k_is); (case l26 => k_is); (case c26 => k_is); (case k26 => k_is)
    (case a27 => k_is); (case l27 => k_is); (case c27 => k_is); (case k27 => k_is)
    (case a28 => k_is); (case l28 => k_is); (case c28 => k_is); (case k28 => k_is)
    (case a29 => k_is); (case l29 => k_is); (case c29 => k_is); (case k29 => k_is)
    (case a30 => k_is); (case l30 => k_is); (case c30 => k_is); (case k30 => k_is)
    (case a31 => k_is); (case l31 => k_is); (case c31 => k_is); (case k31 => k_is)
    (case z0 => k_is)
    (case z1 => k_is)
    (case z2 => k_is)
    (case z3 => k_is)
    (case z4 => k_is)
    (case z5 => k_is)
    (case z6 => k_is)
    (case z7 => k_is)
    (case z8 => k_is)
    (case z9 => k_is)
    (case z10 => k_is)
    (case z11 => k_is)
    (case z12 => k_is)
    (case z13 => k_is)
    (case z14 => k_is)
