import PyProof.Rows.All
import Wide.All
import OpenK.AllK
import Wide.FinOn
import Lean
import PyProof.EqAt
import PyProof.EqKinds
import PyProof.TupleCall
import PyProof.AttrMissHeap
import KE.KEqDict
import KE.KItemsList
import PyProof.WalksMore
import PySem.Challenge.RW_mergetree_k66_whole_letters_put_ahead_of
set_option maxHeartbeats 4000000
set_option maxRecDepth 100000
set_option Elab.async false
set_option linter.all false
abbrev Qa:=@List.length_map
abbrev Qb:=@List.getElem?_eq_getElem
abbrev Qc:=@List.mem_map_of_mem
abbrev Qd:=@Nat.le_refl
abbrev Qe:=@Option.some.inj
abbrev Qf:=@List.map_append
abbrev Qg:=@List.map_cons
abbrev Qh:=@List.getElem?_eq_some_iff
abbrev Qi:=@Bool.false_ne_true
abbrev Qj:=@PySem.Heap.get?_push_of_some
abbrev Qk:=@List.mem_append
abbrev Ql:=@List.mem_singleton
abbrev Qm:=@PySem.Heap.lt_size
abbrev Qn:=@List.mem_append_right
abbrev Qo:=@List.length_append
abbrev Qp:=@List.getElem?_map
abbrev Qq:=@Nat.zero_le
abbrev Qr:=@List.map_map
abbrev Qs:=@PySem.boot_len
abbrev Qt:=@List.getD_eq_getElem?_getD
abbrev Qu:=@List.mem_map
abbrev Qv:=@Nat.lt_of_lt_of_le
abbrev Qw:=@List.mem_cons_of_mem
abbrev Qx:=@List.length_take
abbrev Qy:=@List.mem_of_getElem?
abbrev Qz:=@List.size_toArray
abbrev QA:=@List.length_singleton
abbrev QB:=@Nat.ne_of_lt
abbrev QC:=@Nat.le_trans
abbrev QD:=@PySem.Heap.get?_push_size
abbrev QE:=@List.mem_cons
abbrev QF:=@List.length_cons
abbrev QG:=@List.mem_append_left
abbrev QH:=@PySem.W.mg_none_of
abbrev QI:=@PySem.F.plainAttrs_list
abbrev QJ:=@PySem.F.slot_list_append
abbrev QK:=@PySem.F.type_list_append
abbrev QL:=@List.length_drop
abbrev QM:=@List.getElem?_append_right
abbrev QN:=@List.take_of_length_le
abbrev QO:=@List.map_congr_left
abbrev QP:=@List.nodup_cons
abbrev QR:=@List.getElem?_append_left
abbrev QS:=@List.take_add_one
abbrev QT:=@PySem.mem_of_lookup
abbrev QU:=@PyProof.Rows.callWith_type1
abbrev QV:=@Bool.and_eq_true
abbrev QW:=@List.getElem_mem
abbrev QX:=@List.mem_cons_self
abbrev QY:=@List.getLastD_eq_getLast?
abbrev QZ:=@List.find?_cons
abbrev Q0:=@Int.add_zero
abbrev Q1:=@Nat.lt_irrefl
abbrev Q2:=@List.cons_append
abbrev Q3:=@List.find?_cons_of_neg
abbrev Q4:=@Nat.add_sub_cancel
abbrev Q5:=@List.sum_cons
abbrev Q6:=@List.getElem?_eq_none
abbrev Q7:=@List.reverse_cons
abbrev Q8:=@List.lookup_cons
abbrev Q9:=@List.any_cons
abbrev Qaa:=@List.getLast?_eq_getLast
abbrev Qab:=@Int.emod_lt_of_pos
abbrev Qac:=@PySem.Str.length_append
abbrev Qad:=@Option.map_eq_some_iff
abbrev Qae:=@List.length_eq_one_iff
abbrev Qaf:=@List.length_pos_of_mem
abbrev Qah:=@PySem.W.mg_of
namespace L2
open PySem PySem.Spec PyProof.Rows
abbrev Key:=Sum Int Str
def ZeN:Key→Value→Bool
 | .inl k,v=>Value.isInt k v
 | .inr x,v=>Value.isStrOf x v
def Zn6(w:World):Key→Int
 | .inl k=>hashInt k
 | .inr x=>hashStr w x
theorem Zaf:∀ {k:Key} {v:Value},ZeN k v=true→(∃i t,k=Sum.inl i∧v=Value.int i t)∨(∃x t,k=Sum.inr x∧v=Value.str x t)
 | .inl i,v,h=>by
  obtain⟨t,e⟩:=Value.isInt_shape (k:=i) (v:=v) h
  exact .inl ⟨i,t,rfl,e⟩
 | .inr x,v,h=>by
  obtain⟨t,e⟩:=Value.isStrOf_shape (x:=x) (v:=v) h
  exact .inr ⟨x,t,rfl,e⟩
theorem ZiB(i:Int)(t:Tok):ZeN (.inl i) (.int i t)=true:=by simp[ZeN,Value.isInt]
theorem ZiU(x:Str)(t:Tok):ZeN (.inr x) (.str x t)=true:=by simp[ZeN,Value.isStrOf]
theorem ZmK(a b:Int):decide ((Sum.inl a:Key)=Sum.inl b)=(a == b):=by
 by_cases e:a=b
 ·subst e;simp
 ·have h:¬ (Sum.inl a:Key)=Sum.inl b:=fun q=>e (Sum.inl.inj q)
  rw[decide_eq_false h]
  exact(beq_eq_false_iff_ne.mpr e).symm
theorem Zmo(a b:Str):decide ((Sum.inr a:Key)=Sum.inr b)=decide (a=b):=by
 by_cases e:a=b
 ·subst e;simp
 ·have h:¬ (Sum.inr a:Key)=Sum.inr b:=fun q=>e (Sum.inr.inj q)
  rw[decide_eq_false h,decide_eq_false e]
theorem ZlR(a:Int)(b:Str):decide ((Sum.inl a:Key)=Sum.inr b)=false:=decide_eq_false (fun q=>nomatch q)
theorem Zmx(a:Str)(b:Int):decide ((Sum.inr a:Key)=Sum.inl b)=false:=decide_eq_false (fun q=>nomatch q)
def ZX(prog:Program)(w:World):PySem.KeyKind prog w Key where
 is:=ZeN
 hash:=Zn6 w
 inj:=fun v a b ha hb=>by
  rcases Zaf ha with⟨i,t,rfl,rfl⟩|⟨x,t,rfl,rfl⟩
  ·rcases Zaf hb with⟨j,u,rfl,e⟩|⟨y,u,rfl,e⟩
   ·injection e with e1 _;rw[e1]
   ·exact nomatch e
  ·rcases Zaf hb with⟨j,u,rfl,e⟩|⟨y,u,rfl,e⟩
   ·exact nomatch e
   ·injection e with e1 _;rw[e1]
 byValue:=fun k v h=>by
  rcases Zaf h with⟨i,t,rfl,rfl⟩|⟨x,t,rfl,rfl⟩<;>rfl
 pyHash:=fun hv h=>by
  rcases Zaf hv with⟨i,t,rfl,rfl⟩|⟨x,t,rfl,rfl⟩
  ·exact wpAny_pyHash_int h
  ·exact wpAny_pyHash_str h
 eqBool:=fun hu hv h=>by
  rcases Zaf hu with⟨i,t,rfl,rfl⟩|⟨x,t,rfl,rfl⟩
  ·rcases Zaf hv with⟨j,u,rfl,rfl⟩|⟨y,u,rfl,rfl⟩
   ·rw[ZmK]at h;exact wpAny_eqBool_int h
   ·rw[ZlR]at h;exact SeqAt.EqAt.int_str i t y u _ _ _ _ h
  ·rcases Zaf hv with⟨j,u,rfl,rfl⟩|⟨y,u,rfl,rfl⟩
   ·rw[Zmx]at h;exact SeqAt.EqAt.str_int x t j u _ _ _ _ h
   ·rw[Zmo]at h;exact wpAny_eqBool_str h
 «strs»:=fun k x t v h=>by
  rcases Zaf h with⟨i,u,rfl,e⟩|⟨y,u,rfl,e⟩
  ·exact nomatch e
  ·injection e with e1 _
   subst e1
   cases v<;>rfl
theorem Zhv(prog:Program)(w:World)(k:Key)(v:Value):(ZX prog w).is k v=ZeN k v:=rfl
theorem Zg5(prog:Program)(w:World)(i:Int)(t:Tok):(ZX prog w).is (.inl i) (.int i t)=true:=ZiB i t
theorem ZgK(prog:Program)(w:World)(x:Str)(t:Tok):(ZX prog w).is (.inr x) (.str x t)=true:=ZiU x t
inductive V where
 | non|bl (b:Bool)|int (i:Int)|str (x:Str)|byt (b:Array UInt8)|flt (b:UInt64)|ref (a:Addr)|ty (n:String)
 deriving DecidableEq
def Zy:V→Value→Prop
 | .non,u=>u=Value.none
 | .bl b,u=>u=Value.bool b
 | .int i,u=>∃t,u=Value.int i t
 | .str x,u=>∃t,u=Value.str x t
 | .byt b,u=>∃t,u=Value.bytes b t
 | .flt b,u=>∃t,u=Value.float b t
 | .ref a,u=>u=Value.ref a
 | .ty n,u=>u=Value.type n
abbrev ZB:List V→List Value→Prop:=Paired Zy
theorem ZB.length{xs:List V}{us:List Value}(r:ZB xs us):xs.length=us.length:=Paired.length r
theorem ZB.get:∀ {xs:List V} {us:List Value} {i:Nat} {x:V},ZB xs us→xs[i]? = some x→∃u,us[i]? = some u∧Zy x u
 | _,_,_,_,.nil,e=>by simp at e
 | _,_,0,_,.cons r _,e=>by simp at e;subst e;exact⟨_,rfl,r⟩
 | _,_,i+1,x,.cons _ t,e=>by
  obtain⟨u,h1,h2⟩:=ZB.get (i:=i) (x:=x) t (by simpa using e)
  exact⟨u,by simpa using h1,h2⟩
theorem ZB.set{x:V}{u:Value}(r:Zy x u):∀ {xs:List V} {us:List Value} (i:Nat),ZB xs us→ZB (xs.set i x) (us.set i u)
 | _,_,_,.nil=>.nil
 | _,_,0,.cons _ t=>.cons r t
 | _,_,i+1,.cons q t=>.cons q (ZB.set r i t)
theorem ZB.append:∀ {xs ys:List V} {us ws:List Value},ZB xs us→ZB ys ws→ZB (xs++ys) (us++ws)
 | _,_,_,_,.nil,s=>s
 | _,_,_,_,.cons r t,s=>.cons r (ZB.append t s)
theorem ZB.take:∀ {xs:List V} {us:List Value} (n:Nat),ZB xs us→ZB (xs.take n) (us.take n)
 | _,_,0,_=>.nil
 | _,_,_+1,.nil=>.nil
 | _,_,n+1,.cons r t=>.cons r (ZB.take n t)
theorem ZB.drop:∀ {xs:List V} {us:List Value} (n:Nat),ZB xs us→ZB (xs.drop n) (us.drop n)
 | _,_,0,r=>r
 | _,_,_+1,.nil=>.nil
 | _,_,n+1,.cons _ t=>ZB.drop n t
def Zcr:Option V→Option Value→Prop
 | some v,some u=>Zy v u
 | none,none=>True
 | _,_=>False
def KV{κ:Type}:List (κ×V)→List (κ×Value)→Prop:=Paired fun (p:κ×V) (q:κ×Value)=>p.1=q.1∧Zy p.2 q.2
def kV:Key→V
 | .inl i=>.int i
 | .inr x=>.str x
inductive HO where
 /-- a list -/
 | lst (xs:List V)
 /-- a tuple (never changes) -/
 | tup (xs:List V)
 /-- a dict whose keys are ints and texts;one whose keys are tuples of ints and texts (the empty one is both) -/
 | dK (kvs:List (Key×V))|dT (kvs:List (List Key×V))
 /-- a set of ints: its members,its size -/
 | set (S:Int→Bool) (n:Nat)
 /-- an instance of the class at C,its dict at dx,its attributes -/
 | ins (C dx:Addr) (fs:List (Str×V))
 /-- the dict of the instance at x -/
 | own (x:Addr)
 /-- the dict of an exception -/
 | xd (fs:List (Str×V))
 /-- a bound method,f of x -/
 | met (f x:Addr)
 /-- a range object lo,lo+1,.. below hi -/
 | rng (lo hi:Int)
 /-- a thing that is known to the object (the script;a dict while a loop walks it): read,never written while it is so -/
 | frz (o:Obj) (u:HO)
 /-- a code object's table -/
 | tbl (ps:Array Value)
 /-- any other thing,by what is true of its one object (a def of one's own: SetO a S n:=HO.ext fun h=>..) -/
 | ext (φ:Heap→Prop)
abbrev Hp:=Addr→Option HO
def upd(H:Hp)(a:Addr)(o:HO):Hp:=fun b=>if b=a then some o else H b
theorem Zg{H:Hp}{a:Addr}{o:HO}:upd H a o a=some o:=by unfold upd;rw[if_pos rfl]
theorem Zc{H:Hp}{a b:Addr}{o:HO}(h:b≠a):upd H a o b=H b:=by unfold upd;rw[if_neg h]
theorem ZkV{H:Hp}{a:Addr}{o u:HO}:upd (upd H a o) a u=upd H a u:=by
 funext b;unfold upd;split<;>rfl
theorem Zke{H:Hp}{a b:Addr}{o u:HO}(h:H a=some o)(h':H b=some u)(d:o≠u):a≠b:=by
 intro e;subst e;rw[h]at h';exact d (Qe h')
theorem Zb{H:Hp}{a b:Addr}{o:HO}(h:H a=some o)(h':H b=none):a≠b:=by
 intro e;subst e;rw[h]at h';cases h'
section
variable (P:Program) (w:World)
def Zay(H:Hp)(h:Heap)(a:Addr):HO→Prop
 | .lst xs=>xs.length≤sizeLine∧∃ (its:List Value) (n:Nat),ZB xs its∧h.get? a=some { cls:=.type "list",data:=.seq its.toArray n }
 | .tup xs=>xs.length≤sizeLine∧∃its:List Value,ZB xs its∧IsTup h a its.toArray
 | .dK kvs=>kvs.length≤sizeLine∧(a == sysModules)=false∧∃vs,KV kvs vs∧h.DictOf (ZX P w) a vs
 | .dT kvs=>kvs.length≤sizeLine∧(a == sysModules)=false∧∃xs:List (List Key×Addr×Value),
   Paired (fun (p:List Key×V) (q:List Key×Addr×Value)=>p.1=q.1∧H q.2.1=some (.tup (p.1.map kV))∧Zy p.2 q.2.2) kvs xs ∧
   ∃o es ep,h.get? a=some o∧o.ExactDict∧o.data=.dict es ep∧es.toList=xs.map (entryOfKey (tupleKind (ZX P w)))∧(xs.map (·.1)).Nodup
 | .set S n=>h.SetOf (intKind P w) a S n
 | .ins C dx fs=>H dx=some (.own a)∧fs.length≤1000∧dx≠a∧h.get? a=some (PySem.W.instObj C dx) ∧
   ∃mA,h.Ns1 dx mA∧(∀f,Zcr (fs.lookup f) (mA f))∧PySem.Within mA (fs.map (·.1))
 | .own _=>∃o,h.get? a=some o
 | .xd fs=>∃mA,h.Ns1 a mA∧∀f,Zcr (fs.lookup f) (mA f)
 | .rng lo hi=>∃t u v,h.get? a=some { cls:=.type "range",data:=.fields #[.int lo t,.int hi u,.int 1 v] }
 | .frz o u=>h.get? a=some o∧Zay H h a u
 | .tbl ps=>h.get? a=some { cls:=.none,data:=.fields ps }
 | .met f x=>h.get? a=some (PySem.W.methodObj (.ref f) (.ref x))
 | .ext φ=>φ h∧(∃o,h.get? a=some o)∧∀h1 h2:Heap,φ h1→(∀o,h1.get? a=some o→h2.get? a=some o)→φ h2
def HOk(H:Hp)(h:Heap):Prop:=∀a o,H a=some o→Zay P w H h a o
end
section
variable {P:Program} {w:World} {H H':Hp} {h h':Heap} {a:Addr} {o:HO}
theorem Zay.lt(x:Zay P w H h a o):a<h.objs.size:=by
 cases o with
 | lst xs=>obtain⟨_,_,_,_,e⟩:=x;exact Qm e
 | tup xs=>obtain⟨_,_,_,p⟩:=x;exact p.lt
 | dK kvs=>obtain⟨_,_,_,_,o,_,_,e,_⟩:=x;exact Qm e
 | dT kvs=>obtain⟨_,_,_,_,o,_,_,e,_⟩:=x;exact Qm e
 | set S n=>obtain⟨o,_,_,_,e,_⟩:=x;exact Qm e
 | ins C dx fs=>obtain⟨_,_,_,e,_⟩:=x;exact Qm e
 | own y=>obtain⟨_,e⟩:=x;exact Qm e
 | xd fs=>obtain⟨_,⟨_,_,_,e,_⟩,_⟩:=x;exact Qm e
 | rng lo hi=>obtain⟨_,_,_,e⟩:=x;exact Qm e
 | frz ob u=>obtain⟨e,_⟩:=x;exact Qm e
 | tbl ps=>exact Qm (show h.get? a=some _ from x)
 | met f y=>exact Qm (show h.get? a=some _ from x)
 | ext φ=>obtain⟨_,⟨_,e⟩,_⟩:=x;exact Qm e
theorem Paired.mapP{α β:Type}{F G:α→β→Prop}:∀ {l₁:List α} {l₂:List β},Paired F l₁ l₂→(∀a b,F a b→G a b)→Paired G l₁ l₂
 | _,_,.nil,_=>.nil
 | _,_,.cons r t,f=>.cons (f _ _ r) (Paired.mapP t f)
theorem Zay.stay(x:Zay P w H h a o)(k:∀b u,(b=a∨H b=some (.own a))→h.get? b=some u→h'.get? b=some u)
  (ho:∀b,H b=some (.own a)→H' b=some (.own a)) (ht:∀b xs,H b=some (.tup xs)→H' b=some (.tup xs)):Zay P w H' h' a o:=by
 induction o with
 | lst xs=>obtain⟨z,its,n,r,e⟩:=x;exact⟨z,its,n,r,k _ _ (.inl rfl) e⟩
 | tup xs=>obtain⟨z,its,r,ob,e,c⟩:=x;exact⟨z,its,r,ob,k _ _ (.inl rfl) e,c⟩
 | dK kvs=>obtain⟨z,y,vs,r,ob,es,ep,e,c⟩:=x;exact⟨z,y,vs,r,ob,es,ep,k _ _ (.inl rfl) e,c⟩
 | dT kvs =>
  obtain⟨z,y,xs,r,ob,es,ep,e,c⟩:=x
  exact⟨z,y,xs,Paired.mapP r fun p q z=>⟨z.1,ht _ _ z.2.1,z.2.2⟩,ob,es,ep,k _ _ (.inl rfl) e,c⟩
 | set S n=>obtain⟨ob,es,ep,t,e,c⟩:=x;exact⟨ob,es,ep,t,k _ _ (.inl rfl) e,c⟩
 | ins C dx fs =>
  obtain⟨d,z,ne,e,mA,⟨od,es,ep,e2,c⟩,r⟩:=x
  exact⟨ho _ d,z,ne,k _ _ (.inl rfl) e,mA,⟨od,es,ep,k _ _ (.inr d) e2,c⟩,r⟩
 | own y=>obtain⟨ob,e⟩:=x;exact⟨ob,k _ _ (.inl rfl) e⟩
 | xd fs=>obtain⟨mA,⟨od,es,ep,e,c⟩,r⟩:=x;exact⟨mA,⟨od,es,ep,k _ _ (.inl rfl) e,c⟩,r⟩
 | rng lo hi=>obtain⟨t,u,v,e⟩:=x;exact⟨t,u,v,k _ _ (.inl rfl) e⟩
 | frz ob u ih=>obtain⟨e,q⟩:=x;exact⟨k _ _ (.inl rfl) e,ih q⟩
 | tbl ps =>
  have e:h.get? a=some { cls:=.none,data:=.fields ps }:=x
  show h'.get? a=some { cls:=.none,data:=.fields ps }
  exact k a _ (.inl rfl) e
 | met f y =>
  have e:h.get? a=some (PySem.W.methodObj (.ref f) (.ref y)):=x
  show h'.get? a=some (PySem.W.methodObj (.ref f) (.ref y))
  exact k a _ (.inl rfl) e
 | ext φ=>obtain⟨p,⟨o,e⟩,st⟩:=x;exact⟨st _ _ p fun o q=>k _ _ (.inl rfl) q,⟨o,k _ _ (.inl rfl) e⟩,st⟩
theorem HOk.lt(x:HOk P w H h)(e:H a=some o):a<h.objs.size:=(x a o e).lt
theorem HOk.fresh(x:HOk P w H h)(e:h.objs.size≤a):H a=none:=by
 cases q:H a with
 | none=>rfl
 | some u=>exact absurd (Qv (x.lt q) e) (Q1 _)
theorem HOk.kept(x:HOk P w H h)(k:∀b u,h.get? b=some u→h'.get? b=some u):HOk P w H h':=fun a o e =>
 (x a o e).stay (fun b u _ q=>k b u q) (fun _ q=>q) fun _ _ q=>q
theorem HOk.laid(x:HOk P w H h)(k:∀b u,h.get? b=some u→h'.get? b=some u)(hp:h.objs.size≤a)(new:Zay P w (upd H a o) h' a o):HOk P w (upd H a o) h':=fun b u e=>by
 have hn:=x.fresh hp
 by_cases hb:b=a
 ·subst hb;rw[Zg]at e;cases e;exact new
 ·rw[Zc hb]at e
  exact(x b u e).stay (fun c v _ q=>k c v q) (fun c q=>by rw[Zc (Zb q hn)];exact q) fun c xs q=>by rw[Zc (Zb q hn)];exact q
end
def Rd(H:Hp)(a:Addr)(u:HO):Prop:=H a=some u∨∃o,H a=some (.frz o u)
theorem Rd.ok{P:Program}{w:World}{H:Hp}{h:Heap}{a:Addr}{u:HO}(r:Rd H a u)(x:HOk P w H h):Zay P w H h a u:=by
 rcases r with r|⟨o,r⟩
 ·exact x a u r
 ·obtain⟨_,q⟩:=x a _ r
  exact q
def Mut:Option HO→Prop
 | some (.lst _)=>True
 | some (.dK _)=>True
 | some (.dT _)=>True
 | some (.set _ _)=>True
 | some (.ins _ _ _)=>True
 | some (.ext _)=>True
 | _=>False
section
variable {P:Program} {w:World} {H:Hp} {h h':Heap} {x e:Addr} {o':HO}
theorem HOk.write(ok:HOk P w H h)(mu:Mut (H x))(he:e=x∨H e=some (.own x))(k:∀b u,b≠e→h.get? b=some u→h'.get? b=some u)(heo:∃u,h'.get? e=some u)
  (new:Zay P w (upd H x o') h' x o'):HOk P w (upd H x o') h':=fun b u q=>by
 have nown:∀c y,H c=some (.own y)→c≠x:=fun c y r z=>by subst z;rw[r]at mu;exact mu
 have ntup:∀c xs,H c=some (.tup xs)→c≠x:=fun c xs r z=>by subst z;rw[r]at mu;exact mu
 by_cases hb:b=x
 ·subst hb;rw[Zg]at q;cases q;exact new
 ·rw[Zc hb]at q
  by_cases hbe:b=e
  ·have q':H b=some (.own x):=by
    rcases he with z|z
    ·exact absurd (hbe.trans z) hb
    ·rw[hbe];exact z
   rw[q]at q';cases q'
   obtain⟨v,hv⟩:=heo
   exact⟨v,by rw[hbe];exact hv⟩
  ·refine(ok b u q).stay (fun c v hc r=>k c v ?_ r) (fun c r=>by rw[Zc (nown c b r)];exact r) fun c xs r=>by rw[Zc (ntup c xs r)];exact r
   rcases hc with rfl|hc
   ·exact hbe
   ·rintro rfl
    rcases he with z|z
    ·exact nown c b hc z
    ·rw[hc]at z;cases z;exact hb rfl
end
structure Un (fs ex:List Addr) (H H':Hp) (h h':Heap):Prop where
 keep:∀b o,h.get? b=some o→H b=none→b ∉ fs→b ∉ ex→h'.get? b=some o
 slot:∀b o,h.get? b=some o→H b=none→b∈fs→b ∉ ex→∃sl,h'.get? b=some { o with slots:=sl }
 free:∀b o,h.get? b=some o→H b=none→b ∉ ex→H' b=none
 there:∀b o,h.get? b=some o→b ∉ ex→∃o',h'.get? b=some o'
 tups:∀b xs,H b=some (.tup xs)→H' b=some (.tup xs)
 frzs:∀b o u,H b=some (.frz o u)→H' b=some (.frz o u)
 tbls:∀b ps,H b=some (.tbl ps)→∃more,H' b=some (.tbl (ps++more))
section
variable {fs fs' ex ex':List Addr} {H H1 H2:Hp} {h h1 h2 h':Heap} {a x e:Addr} {o:HO}
theorem Un.any(u:Un fs ex H H1 h h1){b:Addr}{ob:Obj}(q:h.get? b=some ob)(n:H b=none)(hx:b ∉ ex):∃sl,h1.get? b=some { ob with slots:=sl }:=by
 by_cases hb:b∈fs
 ·exact u.slot b ob q n hb hx
 ·exact⟨ob.slots,u.keep b ob q n hb hx⟩
theorem Un.kept(k:∀b u,h.get? b=some u→h'.get? b=some u):Un fs ex H H h h' :=
 ⟨fun b ob q _ _ _=>k b ob q,fun b ob q _ _ _=>⟨ob.slots,k b ob q⟩,fun _ _ _ n _=>n,fun b ob q _=>⟨ob,k b ob q⟩,fun _ _ q=>q,fun _ _ _ q=>q,fun _ ps q=>⟨#[],by rw[q];simp⟩⟩
theorem Un.refl:Un fs ex H H h h:=Un.kept fun _ _ q=>q
theorem Un.laid(k:∀b u,h.get? b=some u→h'.get? b=some u)(hp:h.objs.size≤a)(hn:H a=none):Un fs ex H (upd H a o) h h' where
 keep:=fun b u q _ _ _=>k b u q
 slot:=fun b u q _ _ _=>⟨u.slots,k b u q⟩
 free:=fun b u q n _=>by rw[Zc (QB (Qv (Qm q) hp))];exact n
 there:=fun b u q _=>⟨u,k b u q⟩
 tups:=fun b xs q=>by rw[Zc (Zb q hn)];exact q
 frzs:=fun b u xs q=>by rw[Zc (Zb q hn)];exact q
 tbls:=fun b ps q=>⟨#[],by rw[Zc (Zb q hn),q];simp⟩
theorem Un.write(mu:Mut (H x))(he:e=x∨H e=some (.own x))(k:∀b u,b≠e→h.get? b=some u→h'.get? b=some u)(heo:∃u,h'.get? e=some u):Un fs ex H (upd H x o) h h':=by
 have hx:∀b,H b=none→b≠x:=fun b n z=>by subst z;rw[n]at mu;exact mu
 have hb:∀b,H b=none→b≠e:=fun b n z=>by
  subst z
  rcases he with r|r
  ·exact hx b n r
  ·rw[n]at r;cases r
 have hm:∀b u,H b=some u→¬ Mut (some u)→b≠x:=fun b u q nm z=>by subst z;rw[q]at mu;exact nm mu
 refine⟨fun b u q n _ _=>k b u (hb b n) q,fun b u q n _ _=>⟨u.slots,k b u (hb b n) q⟩,fun b u q n _=>by rw[Zc (hx b n)];exact n,fun b u q _=>?_,
  fun b xs q=>by rw[Zc (hm b _ q fun z=>z)];exact q,fun b u xs q=>by rw[Zc (hm b _ q fun z=>z)];exact q,fun b ps q=>⟨#[],by rw[Zc (hm b _ q fun z=>z),q];simp⟩⟩
 by_cases hbe:b=e
 ·subst hbe;exact heo
 ·exact⟨u,k b u hbe q⟩
end
def trk(h:Heap)(H:Hp):List Addr:=(List.range h.objs.size).filter fun a=>(H a).isSome
def Zf6(h:Heap)(H:Hp):Heap:=PySem.W.hideAll h (trk h H)
theorem ZiT(h:Heap)(H:Hp):(Zf6 h H).objs.size=h.objs.size:=PySem.W.hideAll_size _ _
theorem Zjr{h:Heap}{H:Hp}{b:Addr}{o:Obj}(e:h.get? b=some o)(n:H b=none):(Zf6 h H).get? b=some o :=
 PySem.W.hideAll_get _ e fun hm=>by
  have q:(H b).isSome=true:=(List.mem_filter.mp hm).2
  rw[n]at q;simp at q
theorem Zle{h:Heap}{H:Hp}{b:Addr}{o:Obj}(e:(Zf6 h H).get? b=some o):h.get? b=some o∧H b=none:=by
 have e':h.get? b=some o:=PySem.W.of_hideAll (trk h H) e
 refine⟨e',?_⟩
 cases q:H b with
 | none=>rfl
 | some x =>
  have hm:b∈trk h H:=List.mem_filter.mpr ⟨List.mem_range.mpr (Qm e'),by simp[q]⟩
  have z:(Zf6 h H).get? b=none:=PySem.W.hideAll_none (trk h H) hm
  rw[z]at e;cases e
def Zly(g h:Heap)(L:Addr):List (Addr×Obj):=(List.range h.objs.size).filterMap fun a=>if a=L∨(g.get? a).isSome=true then none else (h.get? a).map fun o=>(a,o)
def Zd6(g h:Heap)(L d:Addr):List (Addr×Obj):=(Zly g h L).filter fun p=>decide (p.1≠d)
structure Mod (K:PySem.W.Frag) (mg:Str→Option Value) (base:Heap):Prop where
 kin:K.In base
 glob:base.Ns mainGlobals mg
 blt:∃mb,base.Ns builtinsNs mb∧∀x:Str,x ≠ "__name__"→mb x=bootBuiltins x
 nolimit:base.NoLimit
structure Cx where
 prog:Program
 w:World
 K:PySem.W.Frag
 mg:Str→Option Value
 base:Heap
 A:Around
 N:List Str
 s₀:Shared
 H₀:Hp
 env:Env
 outer:List Env
 stack:List Env
 ex:List Addr
 fn:Str→Bool
 calm:Bool
 pn:List (Addr×Obj)
 xe:Value→Shared→Prop
def frs(l:List Env):List Addr:=l.filterMap (·.frame)
abbrev Cx.fs(X:Cx):List Addr:=frs X.outer
def Vis(sc:Scope)(x:Str):Prop:=sc.names.lookup x=some .local∨sc.names.lookup x=some .cell∨sc.names.lookup x=some .free
def Loc(sc:Scope)(x:Str):Prop:=sc.names.lookup x=some .local∨sc.names.lookup x=some .cell
def ZnU(env:Env)(h:Heap)(m:Str→Option Value)(x:Str)(u:Value):Prop :=
 (env.kindOf x=some .local∧m x=some u)∨((env.kindOf x=some .cell∨env.kindOf x=some .free)∧∃c,env.cells.lookup x=some c∧h.IsCell c (some u))
structure Cx.Ok (X:Cx):Prop where
 mod:Mod X.K X.mg X.base
 kind:X.env.scope.kind=.function
 glob:X.env.globals=mainGlobals
 blt:X.env.builtins=builtinsNs
 above:X.s₀.heap.objs.size≤X.env.locals
 inj:∀x y c,X.env.cells.lookup x=some c→X.env.cells.lookup y=some c→x=y
 has:∀x,(X.env.kindOf x=some .cell∨X.env.kindOf x=some .free)→∃c,X.env.cells.lookup x=some c
 cab:∀x c,X.fn x=true→X.env.cells.lookup x=some c→X.s₀.heap.objs.size≤c
 hd:X.calm=true→X.A.handled=none
 frames:X.A.frames=some X.stack
 stk:X.stack=X.outer∨(X.stack=X.env::X.outer∧X.env.frame=some X.env.locals)
 exf:∀b∈X.ex,b≠X.env.locals∧∀x c,X.env.cells.lookup x=some c→c≠b
 bs:∀b o,X.base.get? b=some o→X.s₀.heap.get? b=some o∧X.H₀ b=none
 bsz:X.base.objs.size≤X.s₀.heap.objs.size
 noex:∀b o,X.base.get? b=some o→b ∉ X.ex
 exfs:∀b∈X.ex,b ∉ X.fs
 funs:X.s₀.heap.FunFrames X.base X.outer
 frf:∀b∈X.fs,X.H₀ b=none
structure Inv (X:Cx) (pins:List (Addr×Obj)) (σ:List (Option V)) (H:Hp) (s:Shared):Prop where
 ok:X.Ok
 os:s.os=X.s₀.os
 bare:AllBare s.gens
 base:Un X.fs X.ex X.H₀ H X.s₀.heap s.heap
 loc:∃m,s.heap.Ns X.env.locals m∧∀ (i:Nat) (x:Str) (v:V),X.N[i]? = some x→σ[i]? = some (some v)→Vis X.env.scope x→∃u,Zy v u∧ZnU X.env s.heap m x u
 cell:∀x c,X.env.cells.lookup x=some c→∃v,s.heap.IsCell c v
 free:H X.env.locals=none
 freeC:∀x c,X.env.cells.lookup x=some c→H c=none
 pin:∀p∈X.pn++pins,s.heap.get? p.1=some p.2∧H p.1=none∧p.1≠X.env.locals∧p.1 ∉ X.fs∧∀v,p.2.data≠.cell v
 hok:HOk X.prog X.w H s.heap
 len:σ.length=X.N.length
section
variable {X:Cx} {pins:List (Addr×Obj)} {σ:List (Option V)} {H H':Hp} {s:Shared} {h':Heap}
theorem Cx.Ok.nofr(ok:X.Ok){b:Addr}{o:Obj}(e:X.base.get? b=some o):b ∉ X.fs:=fun hb=>by
 have:=(ok.funs.mem hb).1
 rw[e]at this;cases this
theorem Inv.bs(I:Inv X pins σ H s):∀b o,X.base.get? b=some o→s.heap.get? b=some o∧H b=none:=fun b o e =>
 ⟨I.base.keep b o (I.ok.bs b o e).1 (I.ok.bs b o e).2 (I.ok.nofr e) (I.ok.noex b o e),I.base.free b o (I.ok.bs b o e).1 (I.ok.bs b o e).2 (I.ok.noex b o e)⟩
theorem Inv.bk(I:Inv X pins σ H s):∀b o,X.base.get? b=some o→s.heap.get? b=some o:=fun b o e=>(I.bs b o e).1
theorem Inv.mod(I:Inv X pins σ H s):Mod X.K X.mg X.base:=I.ok.mod
theorem Inv.kIn(I:Inv X pins σ H s):X.K.In s.heap:=I.ok.mod.kin.keeps I.bk
theorem Inv.lt(I:Inv X pins σ H s):X.env.locals<s.heap.objs.size:=let ⟨_,hn,_⟩:=I.loc;hn.lt
theorem Inv.sz(I:Inv X pins σ H s):X.s₀.heap.objs.size≤s.heap.objs.size:=QC I.ok.above (Nat.le_of_lt I.lt)
theorem Inv.nofs(I:Inv X pins σ H s){a:Addr}(h:s.heap.objs.size≤a):a ∉ X.fs:=fun hb=>by
 obtain⟨_,o,ho,_⟩:=I.ok.funs.mem hb
 exact absurd (Qv (Qm ho) (QC I.sz h)) (Q1 _)
theorem Inv.cne(I:Inv X pins σ H s):∀x c,X.env.cells.lookup x=some c→c≠X.env.locals:=fun x c e z=>by
 obtain⟨v,o,ho,hd⟩:=I.cell x c e
 obtain⟨m,⟨o',es,ep,ho',hd',_⟩,_⟩:=I.loc
 rw[z,ho']at ho;cases ho;rw[hd']at hd;cases hd
theorem Inv.funs(I:Inv X pins σ H s):s.heap.FunFrames X.base X.outer:=by
 have all:∀ (l:List Env),(∀b∈frs l,b∈X.fs)→X.s₀.heap.FunFrames X.base l→s.heap.FunFrames X.base l:=by
  intro l
  induction l with
  | nil=>intro _ _;trivial
  | cons env r ih =>
   intro hs hl
   obtain⟨hk,⟨L,o,hf,hn,ho,hd⟩,hr⟩:=hl
   have hL:L∈X.fs:=hs L (by unfold frs;rw[List.filterMap_cons,hf];exact QX)
   obtain⟨sl,e⟩:=I.base.slot L o ho (I.ok.frf L hL) hL fun z=>I.ok.exfs L z hL
   exact⟨hk,⟨L,_,hf,hn,e,hd⟩,ih (fun b hb=>hs b (by unfold frs;rw[List.filterMap_cons,hf];exact Qw _ hb)) hr⟩
 exact all X.outer (fun _ hb=>hb) I.ok.funs
theorem Inv.stack(I:Inv X pins σ H s):s.heap.FunFrames X.base X.stack:=by
 rcases I.ok.stk with e|⟨e,hf⟩
 ·rw[e];exact I.funs
 ·rw[e]
  obtain⟨m,hn,_⟩:=I.loc
  refine .cons (by rw[I.ok.kind];decide) hf hn ?_ I.funs
  exact Heap.get?_none_of_le (QC I.ok.bsz I.ok.above)
theorem Inv.stkSub(I:Inv X pins σ H s):∀b∈frs X.stack,b∈X.env.locals::X.fs:=fun b hb=>by
 rcases I.ok.stk with e|⟨e,hf⟩
 ·rw[e]at hb;exact Qw _ hb
 ·rw[e]at hb
  unfold frs at hb
  rw[List.filterMap_cons,hf]at hb
  exact hb
theorem Inv.stkFree(I:Inv X pins σ H s):∀b∈frs X.stack,H b=none:=fun b hb=>by
 rcases QE.mp (I.stkSub b hb) with e|hb
 ·rw[e];exact I.free
 ·obtain⟨_,o,ho,_⟩:=I.ok.funs.mem hb
  exact I.base.free b o ho (I.ok.frf b hb) fun z=>I.ok.exfs b z hb
theorem Inv.step{g':Array GenState}{t':Nat}{d':Drawn}{ch:List Addr}(I:Inv X pins σ H s)
  (hch:∀b∈ch,(b∈X.ex∨X.s₀.heap.objs.size≤b)∧b≠X.env.locals∧(∀x c,X.env.cells.lookup x=some c→c≠b)∧∀p∈X.pn++pins,p.1≠b)
  (keep:∀b o,b≠X.env.locals→b ∉ X.fs→b ∉ ch→s.heap.get? b=some o→H b=none→h'.get? b=some o)
  (slot:∀b o,b≠X.env.locals→b∈X.fs→b ∉ ch→s.heap.get? b=some o→H b=none→∃sl,h'.get? b=some { o with slots:=sl }) (free:∀b o,b ∉ ch→s.heap.get? b=some o→H b=none→H' b=none)
  (there:∀b o,b ∉ ch→s.heap.get? b=some o→∃o',h'.get? b=some o')
  (tups:∀b xs,H b=some (.tup xs)→H' b=some (.tup xs)) (frzs:∀b o u,H b=some (.frz o u)→H' b=some (.frz o u)) (tbls:∀b ps,H b=some (.tbl ps)→∃more,H' b=some (.tbl (ps++more)))
  (ns:∀m,s.heap.Ns X.env.locals m→h'.Ns X.env.locals m) (hok:HOk X.prog X.w H' h') (hg:AllBare g') :
  Inv X pins σ H' { s with heap:=h',gens:=g',drawn:=d',toks:=t' }:=by
 have neL:∀b o,X.s₀.heap.get? b=some o→b≠X.env.locals:=fun b o e=>QB (Qv (Qm e) I.ok.above)
 have neC:∀b o,X.s₀.heap.get? b=some o→b ∉ X.ex→b ∉ ch:=fun b o e hx hb=>by
  rcases(hch b hb).1 with z|z
  ·exact hx z
  ·exact absurd (Qv (Qm e) z) (Q1 _)
 have cellK:∀x c,X.env.cells.lookup x=some c→∀v,s.heap.IsCell c v→h'.IsCell c v:=fun x c e v ⟨o,ho,hd⟩=>by
  have nch:c ∉ ch:=fun z=>(hch c z).2.2.1 x c e rfl
  by_cases hc:c∈X.fs
  ·obtain⟨sl,q⟩:=slot c o (I.cne x c e) hc nch ho (I.freeC x c e)
   exact⟨_,q,hd⟩
  ·exact⟨o,keep c o (I.cne x c e) hc nch ho (I.freeC x c e),hd⟩
 refine⟨I.ok,I.os,hg,⟨fun b o e n hb hx=>?_,fun b o e n hb hx=>?_,fun b o e n hx=>?_,fun b o e hx=>?_,fun b xs e=>tups b xs (I.base.tups b xs e),fun b o xs e=>frzs b o xs (I.base.frzs b o xs e),fun b ps e=>?_⟩,?_,fun x c e=>?_,?_,fun x c e=>?_,fun p hp=>?_,hok,I.len⟩
 ·exact keep b o (neL b o e) hb (neC b o e hx) (I.base.keep b o e n hb hx) (I.base.free b o e n hx)
 ·obtain⟨sl,e1⟩:=I.base.slot b o e n hb hx
  obtain⟨sl',e2⟩:=slot b _ (neL b o e) hb (neC b o e hx) e1 (I.base.free b o e n hx)
  exact⟨sl',e2⟩
 ·obtain⟨o',e1⟩:=I.base.there b o e hx
  exact free b o' (neC b o e hx) e1 (I.base.free b o e n hx)
 ·obtain⟨o',e1⟩:=I.base.there b o e hx
  exact there b o' (neC b o e hx) e1
 ·obtain⟨m1,e1⟩:=I.base.tbls b ps e
  obtain⟨m2,e2⟩:=tbls b _ e1
  exact⟨m1++m2,by rw[e2,Array.append_assoc]⟩
 ·obtain⟨m,hn,hl⟩:=I.loc
  refine⟨m,ns m hn,fun i x v e1 e2 e3=>?_⟩
  obtain⟨u,r,l⟩:=hl i x v e1 e2 e3
  refine⟨u,r,?_⟩
  rcases l with l|⟨k,c,e,z⟩
  ·exact .inl l
  ·exact .inr ⟨k,c,e,cellK x c e _ z⟩
 ·obtain⟨v,z⟩:=I.cell x c e
  exact⟨v,cellK x c e v z⟩
 ·obtain⟨m,⟨o,_,_,ho,_⟩,_⟩:=I.loc
  exact free _ o (fun z=>(hch _ z).2.1 rfl) ho I.free
 ·obtain⟨v,o,ho,hd⟩:=I.cell x c e
  exact free c o (fun z=>(hch c z).2.2.1 x c e rfl) ho (I.freeC x c e)
 ·obtain⟨e,n,ne,nf,d⟩:=I.pin p hp
  have nch:p.1 ∉ ch:=fun z=>(hch p.1 z).2.2.2 p hp rfl
  exact⟨keep p.1 p.2 ne nf nch e n,free p.1 p.2 nch e n,ne,nf,d⟩
theorem Inv.un{t':Nat}(I:Inv X pins σ H s)(u:Un X.fs [] H H' s.heap h')(hok:HOk X.prog X.w H' h'):Inv X pins σ H' { s with heap:=h',toks:=t' }:=by
 obtain⟨m,⟨o,es,ep,ho,r⟩,_⟩:=id I.loc
 obtain⟨sl,hL⟩:=u.any ho I.free (by simp)
 exact I.step (g':=s.gens) (d':=s.drawn) (ch:=[]) (fun _ z=>nomatch z) (fun b o _ hb _ e n=>u.keep b o e n hb (by simp)) (fun b o _ hb _ e n=>u.slot b o e n hb (by simp)) (fun b o _ e n=>u.free b o e n (by simp)) (fun b o _ e=>u.there b o e (by simp)) u.tups u.frzs u.tbls (fun m' hm=>by
  obtain⟨o',es',ep',ho',r'⟩:=hm
  rw[ho]at ho';cases ho'
  exact⟨_,es',ep',hL,r'⟩) hok I.bare
theorem Inv.call{g':Array GenState}{t':Nat}{d':Drawn}{ch:List Addr}(I:Inv X pins σ H s)(u:Un (frs X.stack) ch H H' s.heap h')(hok:HOk X.prog X.w H' h')(hg:AllBare g')
  (hch:∀b∈ch,(b∈X.ex∨X.s₀.heap.objs.size≤b)∧b≠X.env.locals∧(∀x c,X.env.cells.lookup x=some c→c≠b)∧∀p∈X.pn++pins,p.1≠b) :
  Inv X pins σ H' { s with heap:=h',gens:=g',drawn:=d',toks:=t' }:=by
 obtain⟨m,⟨o,es,ep,ho,r⟩,_⟩:=id I.loc
 obtain⟨sl,hL⟩:=u.any ho I.free fun z=>(hch _ z).2.1 rfl
 exact I.step (ch:=ch) hch (fun b o hL hb hc e n=>u.keep b o e n (fun z=>(QE.mp (I.stkSub b z)).elim hL hb) hc) (fun b o _ _ hc e n=>u.any e n hc) (fun b o hc e n=>u.free b o e n hc) (fun b o hc e=>u.there b o e hc) u.tups u.frzs u.tbls (fun m' hm=>by
  obtain⟨o',es',ep',ho',r'⟩:=hm
  rw[ho]at ho';cases ho'
  exact⟨_,es',ep',hL,r'⟩) hok hg
theorem Inv.turned{t':Nat}{it:Addr}(I:Inv X pins σ H s)(k:∀b o,b≠it→s.heap.get? b=some o→h'.get? b=some o)(hn:H it=none)(hL:it≠X.env.locals)
  (h1:it∈X.ex∨X.s₀.heap.objs.size≤it) (h2:∀x c,X.env.cells.lookup x=some c→c≠it) (h3:∀p∈X.pn++pins,p.1≠it):Inv X pins σ H { s with heap:=h',toks:=t' }:=by
 have nit:∀b u,H b=some u→b≠it:=fun b u e z=>by rw[z,hn]at e;cases e
 refine I.step (g':=s.gens) (d':=s.drawn) (ch:=[it]) (fun b hb=>?_) (fun b o _ _ hc e _=>k b o (fun z=>hc (by simp[z])) e) (fun b o _ _ hc e _=>⟨o.slots,k b o (fun z=>hc (by simp[z])) e⟩) (fun _ _ _ _ n=>n)
  (fun b o hc e=>⟨o,k b o (fun z=>hc (by simp[z])) e⟩) (fun _ _ e=>e) (fun _ _ _ e=>e) (fun b ps e=>⟨#[],by rw[e];simp⟩) (fun m hm=>?_) (fun b u e=>?_) I.bare
 ·have e:b=it:=by simpa using hb
  subst e
  exact⟨h1,hL,h2,h3⟩
 ·obtain⟨o,es,ep,ho,r⟩:=hm
  exact⟨o,es,ep,k _ o (Ne.symm hL) ho,r⟩
 ·refine(I.hok b u e).stay (fun c v hc q=>k c v ?_ q) (fun _ q=>q) fun _ _ q=>q
  rcases hc with z|z
  ·rw[z];exact nit b u e
  ·exact nit c _ z
theorem Inv.tok(I:Inv X pins σ H s)(t:Nat):Inv X pins σ H { s with toks:=t }:=I.un (h':=s.heap) (t':=t) Un.refl I.hok
theorem Inv.kept{t':Nat}(I:Inv X pins σ H s)(k:∀b u,s.heap.get? b=some u→h'.get? b=some u):Inv X pins σ H { s with heap:=h',toks:=t' }:=I.un (Un.kept k) (I.hok.kept k)
theorem Inv.laid{a:Addr}{o:HO}{t':Nat}(I:Inv X pins σ H s)(k:∀b u,s.heap.get? b=some u→h'.get? b=some u)(hp:s.heap.objs.size≤a)(new:Zay X.prog X.w (upd H a o) h' a o) :
  Inv X pins σ (upd H a o) { s with heap:=h',toks:=t' }:=I.un (Un.laid k hp (I.hok.fresh hp)) (I.hok.laid k hp new)
theorem Inv.write{x e:Addr}{o:HO}{t':Nat}(I:Inv X pins σ H s)(mu:Mut (H x))(he:e=x∨H e=some (.own x))(k:∀b u,b≠e→s.heap.get? b=some u→h'.get? b=some u)(heo:∃u,h'.get? e=some u)
  (new:Zay X.prog X.w (upd H x o) h' x o):Inv X pins σ (upd H x o) { s with heap:=h',toks:=t' }:=I.un (Un.write mu he k heo) (I.hok.write mu he k heo new)
theorem Inv.pins_of{pins':List (Addr×Obj)}(I:Inv X pins σ H s)(h:∀p∈pins',s.heap.get? p.1=some p.2∧H p.1=none∧p.1≠X.env.locals∧p.1 ∉ X.fs∧∀v,p.2.data≠.cell v):Inv X pins' σ H s :=
 ⟨I.ok,I.os,I.bare,I.base,I.loc,I.cell,I.free,I.freeC,fun p hp=>(Qk.mp hp).elim (fun z=>I.pin p (QG _ z)) (h p),I.hok,I.len⟩
theorem ZgH{N:List Str}(hN:N.Nodup){i j:Nat}{x:Str}(a:N[i]? = some x)(b:N[j]? = some x):i=j:=by
 obtain⟨h1,e1⟩:=Qh.mp a
 obtain⟨h2,e2⟩:=Qh.mp b
 exact(List.getElem_inj hN).mp (e1.trans e2.symm)
theorem ZiX{M:Model}{A:Around}{E:Value→Shared→Prop}{i:Nat}{x:Str}{v:V}{u:Value}{Q:Unit→Shared→Prop}(I:Inv X pins σ H s)(hN:X.N.Nodup)(hi:X.N[i]? = some x)(hx:Loc X.env.scope x)(r:Zy v u)
  (h:∀s',Inv X pins (σ.set i (some v)) H s'→(∃a,Heap.SameBut a s.heap s'.heap∧(a=X.env.locals∨X.env.cells.lookup x=some a))→Q () s') (hf:X.fn x=true∨X.env.scope.names.lookup x=some .local:=by first|exact .inl rfl|exact .inr rfl|assumption):wpAny M A (storeName X.env x u) Q E s:=by
 obtain⟨m,hn,hl⟩:=id I.loc
 have hcls:(X.env.scope.kind == .class||(X.env.scope.kind == .module&&X.env.locals != X.env.globals))=false:=by rw[I.ok.kind];rfl
 have hiσ:i<σ.length:=by rw[I.len];exact(Qh.mp hi).1
 have cne:=I.cne
 have tracked:∀ {a:Addr} {h':Heap},(∃o,s.heap.get? a=some o∧H a=none)→Heap.SameBut a s.heap h'→HOk X.prog X.w H h':=fun {a h'} ha hs b ob e=>by
  obtain⟨_,_,hfree⟩:=ha
  refine(I.hok b ob e).stay (fun c w' hc q=>(hs.2 c ?_).trans q) (fun _ q=>q) fun _ _ q=>q
  rintro rfl
  rcases hc with rfl|hc
  ·rw[hfree]at e;cases e
  ·rw[hfree]at hc;cases hc
 rcases hx with hk|hk
 ·refine wpAny_storeName_local hk hn (fun h' hn' hs=>?_) hcls
  obtain⟨oL,_,_,hoL,_⟩:=id hn
  refine h _ ⟨I.ok,I.os,I.bare,⟨fun b o e n hb hx=>?_,fun b o e n hb hx=>?_,I.base.free,fun b o e hx=>?_,I.base.tups,I.base.frzs,I.base.tbls⟩,⟨_,hn',fun j y v' e1 e2 e3=>?_⟩,fun y c e=>?_,I.free,I.freeC,fun p hp=>?_,tracked ⟨oL,hoL,I.free⟩ hs,by simpa using I.len⟩ ⟨_,hs,.inl rfl⟩
  ·exact(hs.2 b (QB (Qv (Qm e) I.ok.above))).trans (I.base.keep b o e n hb hx)
  ·obtain⟨sl,e1⟩:=I.base.slot b o e n hb hx
   exact⟨sl,(hs.2 b (QB (Qv (Qm e) I.ok.above))).trans e1⟩
  ·obtain⟨o',e1⟩:=I.base.there b o e hx
   exact⟨o',(hs.2 b (QB (Qv (Qm e) I.ok.above))).trans e1⟩
  ·by_cases hj:j=i
   ·subst hj
    rw[hi]at e1;cases e1
    rw[List.getElem?_set_self hiσ]at e2
    cases e2
    exact⟨u,r,.inl ⟨hk,by simp⟩⟩
   ·rw[List.getElem?_set_ne (Ne.symm hj)]at e2
    obtain⟨u',r',q⟩:=hl j y v' e1 e2 e3
    refine⟨u',r',?_⟩
    rcases q with⟨k,e⟩|⟨k,c,e,z⟩
    ·refine .inl ⟨k,?_⟩
     have:y≠x:=fun e=>hj (ZgH hN e1 (e ▸ hi))
     simp[this,e]
    ·exact .inr ⟨k,c,e,z.sameBut hs (cne y c e)⟩
  ·obtain⟨w',z⟩:=I.cell y c e
   exact⟨w',z.sameBut hs (cne y c e)⟩
  ·obtain⟨e,n,ne,nf,d⟩:=I.pin p hp
   exact⟨(hs.2 p.1 ne).trans e,n,ne,nf,d⟩
 ·have hfn:X.fn x=true:=by
   rcases hf with z|z
   ·exact z
   ·rw[z]at hk;cases hk
  obtain⟨c,hc⟩:=I.ok.has x (.inl hk)
  obtain⟨w',z⟩:=I.cell x c hc
  refine wpAny_storeName_cell I.ok.kind hk hc z (fun h' hc' hs=>?_)
  obtain⟨oc,hoc,hocd⟩:=id z
  refine h { s with heap:=h' } ⟨I.ok,I.os,I.bare,⟨fun b o e n hb hx=>?_,fun b o e n hb hx=>?_,I.base.free,fun b o e hx=>?_,I.base.tups,I.base.frzs,I.base.tbls⟩,⟨m,hn.sameBut hs (Ne.symm (cne x c hc)),fun j y v' e1 e2 e3=>?_⟩,fun y c' e=>?_,I.free,I.freeC,fun p hp=>?_,tracked ⟨oc,hoc,I.freeC x c hc⟩ hs,by simpa using I.len⟩ ⟨c,hs,.inr hc⟩
  ·exact(hs.2 b (QB (Qv (Qm e) (I.ok.cab x c hfn hc)))).trans (I.base.keep b o e n hb hx)
  ·obtain⟨sl,e1⟩:=I.base.slot b o e n hb hx
   exact⟨sl,(hs.2 b (QB (Qv (Qm e) (I.ok.cab x c hfn hc)))).trans e1⟩
  ·obtain⟨o',e1⟩:=I.base.there b o e hx
   exact⟨o',(hs.2 b (QB (Qv (Qm e) (I.ok.cab x c hfn hc)))).trans e1⟩
  ·by_cases hj:j=i
   ·subst hj
    rw[hi]at e1;cases e1
    rw[List.getElem?_set_self hiσ]at e2
    cases e2
    exact⟨u,r,.inr ⟨.inl hk,c,hc,hc'⟩⟩
   ·rw[List.getElem?_set_ne (Ne.symm hj)]at e2
    obtain⟨u',r',q⟩:=hl j y v' e1 e2 e3
    refine⟨u',r',?_⟩
    rcases q with q|⟨k,c',e,z'⟩
    ·exact .inl q
    ·refine .inr ⟨k,c',e,z'.sameBut hs ?_⟩
     rintro rfl
     exact hj (ZgH hN e1 (I.ok.inj _ _ _ e hc ▸ hi))
  ·by_cases hcc:c'=c
   ·subst hcc;exact⟨_,hc'⟩
   ·obtain⟨w2,z2⟩:=I.cell y c' e
    exact⟨w2,z2.sameBut hs hcc⟩
  ·obtain⟨e,n,ne,nf,d⟩:=I.pin p hp
   refine⟨(hs.2 p.1 ?_).trans e,n,ne,nf,d⟩
   intro q
   rw[q,hoc]at e
   have q':oc=p.2:=Qe e
   exact d w' (by rw[← q'];exact hocd)
theorem Zct{M:Model}{A:Around}{E:Value→Shared→Prop}{i:Nat}{x:Str}{v:V}{u:Value}{Q:Unit→Shared→Prop}(I:Inv X pins σ H s)(hN:X.N.Nodup)(hi:X.N[i]? = some x)(hx:Loc X.env.scope x)(r:Zy v u)
  (h:∀s',Inv X pins (σ.set i (some v)) H s'→Q () s') (hf:X.fn x=true∨X.env.scope.names.lookup x=some .local:=by first|exact .inl rfl|exact .inr rfl|assumption):wpAny M A (storeName X.env x u) Q E s :=
 ZiX I hN hi hx r (fun s' I' _=>h s' I') hf
theorem Inv.call'{s':Shared}{ch:List Addr}(I:Inv X pins σ H s)(ho:s'.os=s.os)(u:Un (frs X.stack) ch H H' s.heap s'.heap)(hok:HOk X.prog X.w H' s'.heap)(hg:AllBare s'.gens)
  (hch:∀b∈ch,(b∈X.ex∨X.s₀.heap.objs.size≤b)∧b≠X.env.locals∧(∀x c,X.env.cells.lookup x=some c→c≠b)∧∀p∈X.pn++pins,p.1≠b):Inv X pins σ H' s':=by
 obtain⟨h',g',d',t',o'⟩:=s'
 have e:o'=s.os:=ho
 subst e
 exact I.call (g':=g') (t':=t') (d':=d') u hok hg hch
end
abbrev XK:=Value→Option Addr→Hp→Prop
abbrev St:=List (Option V)
abbrev VK:=V→Hp→Prop
abbrev TE:=St→Hp→VK→Prop
abbrev TT:=St→Hp→(Bool→Hp→Prop)→Prop
abbrev TA:=St→Hp→(List V→Hp→Prop)→Prop
structure ZbJ where
 nx:St→Hp→Prop
 rt:VK
 bk:St→Hp→Prop:=fun _ _=>False
 ct:St→Hp→Prop:=fun _ _=>False
abbrev TS:=ZbJ→St→Hp→Prop
def EP(X:Cx)(pins:List (Addr×Obj))(σ:St)(Q:VK)(u:Value)(s':Shared):Prop:=∃v H',Inv X pins σ H' s'∧Zy v u∧Q v H'
def TP(X:Cx)(pins:List (Addr×Obj))(σ:St)(Q:Bool→Hp→Prop)(b:Bool)(s':Shared):Prop:=∃H',Inv X pins σ H' s'∧Q b H'
def AP(X:Cx)(pins:List (Addr×Obj))(σ:St)(Q:List V→Hp→Prop)(us:List Value)(s':Shared):Prop:=∃vs H',Inv X pins σ H' s'∧ZB vs us∧Q vs H'
def SP(X:Cx)(pins:List (Addr×Obj))(D:ZbJ)(f:Flow)(s':Shared):Prop :=
 match f with
 | .next=>∃σ' H',Inv X pins σ' H' s'∧D.nx σ' H'
 | .brk=>∃σ' H',Inv X pins σ' H' s'∧D.bk σ' H'
 | .cont=>∃σ' H',Inv X pins σ' H' s'∧D.ct σ' H'
 | .ret u=>∃v σ' H',Inv X pins σ' H' s'∧Zy v u∧D.rt v H'
def PE(X:Cx)(e:Expr)(t:TE):Prop :=
 ∀ (pins:List (Addr×Obj)) (s:Shared) (σ:St) (H:Hp) (Q:VK),Inv X pins σ H s→t σ H Q→wpAny (model X.prog X.w) X.A (eval e X.env) (EP X pins σ Q) X.xe s
def PT(X:Cx)(e:Expr)(t:TT):Prop :=
 ∀ (pins:List (Addr×Obj)) (s:Shared) (σ:St) (H:Hp) (Q:Bool→Hp→Prop),Inv X pins σ H s→t σ H Q→wpAny (model X.prog X.w) X.A (isTrue e X.env (eval e X.env)) (TP X pins σ Q) X.xe s
def PW(X:Cx)(e:Expr)(t:TT):Prop :=
 ∀ (whole:Sem Value) (pins:List (Addr×Obj)) (s:Shared) (σ:St) (H:Hp) (Q:Bool→Hp→Prop),Inv X pins σ H s→t σ H Q→wpAny (model X.prog X.w) X.A (isTrue e X.env whole) (TP X pins σ Q) X.xe s
theorem PW.pt{X:Cx}{e:Expr}{t:TT}(h:PW X e t):PT X e t:=h _
def PA(X:Cx)(es:List Expr)(t:TA):Prop :=
 ∀ (pos:Pos) (pins:List (Addr×Obj)) (s:Shared) (σ:St) (H:Hp) (Q:List V→Hp→Prop),Inv X pins σ H s→t σ H Q→wpAny (model X.prog X.w) X.A (spliced (backTo pos (starEach es X.env))) (AP X pins σ Q) X.xe s
def PS(X:Cx)(st:Stmt)(t:TS):Prop :=
 ∀ (pins:List (Addr×Obj)) (s:Shared) (σ:St) (H:Hp) (D:ZbJ),Inv X pins σ H s→t D σ H→wpAny (model X.prog X.w) X.A (exec st X.env) (SP X pins D) X.xe s
def PSs(X:Cx)(st:List Stmt)(t:TS):Prop :=
 ∀ (pins:List (Addr×Obj)) (s:Shared) (σ:St) (H:Hp) (D:ZbJ),Inv X pins σ H s→t D σ H→wpAny (model X.prog X.w) X.A (execs st X.env) (SP X pins D) X.xe s
theorem thn{α:Type}{t:Sem α}{Q Q':α→Shared→Prop}{M:Model}{A:Around}{E:Value→Shared→Prop}{s:Shared}(h:wpAny M A t Q E s)(hQ:∀a s,Q a s→Q' a s):wpAny M A t Q' E s:=wpAny_mono h hQ fun _ _ x=>x
section
variable {X:Cx}
def ZkN(i:Nat):TE:=fun σ H Q=>∃v,σ[i]? = some (some v)∧Q v H
def tC(v:V):TE:=fun _ H Q=>Q v H
theorem Zg6{i:Nat}{x:Str}{pos:Pos}(hN:X.N[i]? = some x)(hv:Vis X.env.scope x)(hd:(x == ("__debug__" : Str))=false:=by decide)(hcd:(x == ("__classdict__" : Str))=false:=by decide):PE X (.Name x pos) (ZkN i):=by
 intro pins s σ H Q I h
 obtain⟨v,e,h⟩:=h
 obtain⟨m,hn,hl⟩:=I.loc
 obtain⟨u,r,l⟩:=hl i x v hN e hv
 have fin:EP X pins σ Q u s:=⟨v,H,I,r,h⟩
 rcases l with⟨hk,hm⟩|⟨hk,c,hc,hcell⟩
 ·exact wpAny_Name (wpAny_loadName_local I.ok.kind hk hn hm fin) hd
 ·rcases hk with hk|hk
  ·exact wpAny_Name (wpAny_loadName_cell I.ok.kind hk hc hcell fin) hd
  ·exact wpAny_Name (wpAny_loadName_free I.ok.kind hk hc hcell fin hcd) hd
theorem Zh{i j pos}:PE X (.Constant (.int i) j pos) (tC (.int i)):=fun _ _ _ H _ I h=>wpAny_Constant_int ⟨.int i,H,I.tok _,⟨_,rfl⟩,h⟩
theorem Zef{b j pos}:PE X (.Constant (.bool b) j pos) (tC (.bl b)):=fun _ _ _ H _ I h=>Constant_bool ⟨.bl b,H,I,rfl,h⟩
theorem Zae{j pos}:PE X (.Constant .none j pos) (tC .non):=fun _ _ _ H _ I h=>Constant_none ⟨.non,H,I,rfl,h⟩
theorem ZaB{x j pos}:PE X (.Constant (.str x) j pos) (tC (.str x)):=fun _ _ _ H _ I h=>Calls.Constant_str ⟨.str x,H,I.tok _,⟨_,rfl⟩,h⟩
def Gl(X:Cx)(x:Str):Prop:=X.env.kindOf x=some .globalImplicit
theorem Zf7{E:Value→Shared→Prop}{pins:List (Addr×Obj)}{s:Shared}{σ:St}{H:Hp}{x:Str}{u:Value}{pos:Pos}{Q:Value→Shared→Prop}(I:Inv X pins σ H s)(hg:Gl X x)(hm:X.mg x=some u)(h:Q u s)
  (hd:(x == ("__debug__" : Str))=false:=by decide):wpAny (model X.prog X.w) X.A (eval (.Name x pos) X.env) Q E s :=
 Calls.Name_function_global I.ok.kind hg (Calls.loadGlobal_global (by rw[I.ok.glob];exact I.mod.glob.keeps I.bk) hm h) hd
theorem Zer{E:Value→Shared→Prop}{pins:List (Addr×Obj)}{s:Shared}{σ:St}{H:Hp}{x:Str}{u:Value}{pos:Pos}{Q:Value→Shared→Prop}(I:Inv X pins σ H s)(hg:Gl X x)(hm:X.mg x=none)(hv:bootBuiltins x=some u)(h:Q u s)
  (hn:x ≠ "__name__":=by decide) (hd:(x == ("__debug__" : Str))=false:=by decide):wpAny (model X.prog X.w) X.A (eval (.Name x pos) X.env) Q E s:=by
 obtain⟨mb,h1,h2⟩:=I.mod.blt
 exact Calls.Name_function_global I.ok.kind hg (Calls.loadGlobal_builtin (by rw[I.ok.glob];exact I.mod.glob.keeps I.bk) hm (by rw[I.ok.blt];exact h1.keeps I.bk) ((h2 x hn).trans hv) h) hd
theorem Zk5{x:Str}{v:V}{u:Value}{pos:Pos}(hg:Gl X x)(hm:X.mg x=some u)(r:Zy v u)(hd:(x == ("__debug__" : Str))=false:=by decide):PE X (.Name x pos) (tC v) :=
 fun _ _ _ H _ I h=>Zf7 I hg hm ⟨v,H,I,r,h⟩ hd
def t2I(ta tb:TE)(k:Int→Int→Hp→Prop):St→Hp→Prop:=fun σ H=>ta σ H fun x H1=>tb σ H1 fun y H2=>∃i j,x=.int i∧y=.int j∧k i j H2
def tAdd(ta tb:TE):TE:=fun σ H Q=>t2I ta tb (fun i j H2=>Q (.int (i+j)) H2) σ H
def tSub(ta tb:TE):TE:=fun σ H Q=>t2I ta tb (fun i j H2=>Q (.int (i-j)) H2) σ H
def tMul(ta tb:TE):TE:=fun σ H Q=>t2I ta tb (fun i j H2=>(-(2 ^ 64)<i∧i<2 ^ 64)∧Q (.int (i*j)) H2) σ H
variable {a b:Expr} {ta tb:TE} {pos:Pos}
def PC(X:Cx)(op:CmpOp)(a b:Expr)(t:TE):Prop :=
 ∀ (pins:List (Addr×Obj)) (s:Shared) (σ:St) (H:Hp) (Q:VK),Inv X pins σ H s→t σ H Q →
  wpAny (model X.prog X.w) X.A (eval a X.env) (fun v s₁=>wpAny (model X.prog X.w) X.A (eval b X.env) (fun u s₂=>wpAny (model X.prog X.w) X.A (compareOp op v u) (EP X pins σ Q) X.xe s₂) X.xe s₁) X.xe s
def Zi0(p:Int→Int→Bool)(ta tb:TE):TE:=fun σ H Q=>t2I ta tb (fun i j H2=>Q (.bl (p i j)) H2) σ H
abbrev tLt:TE→TE→TE:=Zi0 fun i j=>decide (i<j)
abbrev tLe:TE→TE→TE:=Zi0 fun i j=>decide (i≤j)
abbrev tGt:TE→TE→TE:=Zi0 fun i j=>decide (j<i)
abbrev tGe:TE→TE→TE:=Zi0 fun i j=>decide (j≤i)
abbrev tEqI:TE→TE→TE:=Zi0 fun i j=>decide (i=j)
abbrev tNeI:TE→TE→TE:=Zi0 fun i j=>!decide (i=j)
def tIsN(ta:TE):TE:=fun σ H Q=>ta σ H fun x H1=>Q (.bl (decide (x=.non))) H1
def tNotN(ta:TE):TE:=fun σ H Q=>ta σ H fun x H1=>Q (.bl (!decide (x=.non))) H1
def tB(t:TE):TT:=fun σ H Q=>t σ H fun x H1=>∃c,x=.bl c∧Q c H1
theorem Zj9{e:Expr}{t:TE}(h:PE X e t)(he:∀whole,isTrue e X.env whole=(do let v ← whole;standAt e.pos;holding [v] (truthy v)):=by intro _;rfl):PT X e (tB t):=by
 intro pins s σ H Q I hw
 refine isTrue_plain (thn (h pins s σ H _ I hw) fun v s1 ⟨x,H1,I1,r1,q1⟩=>?_) (he _)
 obtain⟨d,rfl,q⟩:=q1
 cases r1
 exact wpAny_truthy_bool ⟨H1,I1,q⟩
variable {tA tB':TT} {Zd6:List Expr}
def Zoo(t u:TT):TT:=fun σ H Q=>t σ H fun c H1=>if c=true then u σ H1 Q else Q false H1
def tOr(t u:TT):TT:=fun σ H Q=>t σ H fun c H1=>if c=true then Q true H1 else u σ H1 Q
def Zoe(t:TT):TT:=fun σ H Q=>t σ H fun c H1=>Q (!c) H1
theorem Zcc(ha:PT X a tA):PW X (.BoolOp .And [a] pos) tA:=by
 intro wh pins s σ H Q I h
 refine isTrue_and (thn (ha pins s σ H Q I h) fun c s1 e=>?_)
 cases c with
 | true=>exact isTrue_and_nil e
 | false=>exact e
theorem Zge(ha:PT X a tA):PW X (.BoolOp .Or [a] pos) tA:=by
 intro wh pins s σ H Q I h
 refine isTrue_or (thn (ha pins s σ H Q I h) fun c s1 e=>?_)
 cases c with
 | false=>exact isTrue_or_nil e
 | true=>exact e
theorem ZcM(ha:PT X a tA)(hb:PW X (.BoolOp .And (b::Zd6) pos) tB'):PW X (.BoolOp .And (a::b::Zd6) pos) (Zoo tA tB'):=by
 intro wh pins s σ H Q I h
 refine isTrue_and (thn (ha pins s σ H _ I h) fun c s1 ⟨H1,I1,q1⟩=>?_)
 cases c with
 | true=>exact hb wh pins s1 σ H1 Q I1 q1
 | false=>exact⟨H1,I1,q1⟩
theorem Zii(ha:PT X a tA)(hb:PW X (.BoolOp .Or (b::Zd6) pos) tB'):PW X (.BoolOp .Or (a::b::Zd6) pos) (tOr tA tB'):=by
 intro wh pins s σ H Q I h
 refine isTrue_or (thn (ha pins s σ H _ I h) fun c s1 ⟨H1,I1,q1⟩=>?_)
 cases c with
 | true=>exact⟨H1,I1,q1⟩
 | false=>exact hb wh pins s1 σ H1 Q I1 q1
theorem Zjj(ha:PT X a tA):PT X (.UnaryOp .Not a pos) (Zoe tA):=by
 intro pins s σ H Q I h
 exact isTrue_not (ha pins s σ H (fun c H1=>Q (!c) H1) I h)
def tAndV(ta tb:TE):TE:=fun σ H Q=>ta σ H fun x H1=>∃c,x=.bl c∧if c=true then tb σ H1 Q else Q (.bl false) H1
def Zn0(ta tb:TE):TE:=fun σ H Q=>ta σ H fun x H1=>∃c,x=.bl c∧if c=true then Q (.bl true) H1 else tb σ H1 Q
def tNotV(ta:TE):TE:=fun σ H Q=>ta σ H fun x H1=>∃c,x=.bl c∧Q (.bl (!c)) H1
theorem Zmm{op}{t:TE}(h:PE X a t):PE X (.BoolOp op [a] pos) t:=fun pins s σ H Q I hw=>BoolOp_one (h pins s σ H Q I hw)
theorem Znc(ha:PE X a ta)(hb:PE X (.BoolOp .Or (b::Zd6) pos) tb):PE X (.BoolOp .Or (a::b::Zd6) pos) (Zn0 ta tb):=by
 intro pins s σ H Q I h
 refine BoolOp_or (thn (ha pins s σ H _ I h) fun v s1 ⟨x,H1,I1,r1,q1⟩=>?_)
 obtain⟨c,rfl,q1⟩:=q1
 cases r1
 refine wpAny_truthy_bool ?_
 cases c with
 | false=>exact hb pins s1 σ H1 Q I1 q1
 | true=>exact⟨.bl true,H1,I1,rfl,q1⟩
def tIf(t:TT)(ta tb:TE):TE:=fun σ H Q=>t σ H fun c H1=>if c=true then ta σ H1 Q else tb σ H1 Q
theorem ZaY{c:Expr}(hc:PT X c tA)(ha:PE X a ta)(hb:PE X b tb):PE X (.IfExp c a b pos) (tIf tA ta tb):=by
 intro pins s σ H Q I h
 refine wpAny_IfExp (thn (hc pins s σ H _ I h) fun d s1 ⟨H1,I1,q1⟩=>?_)
 cases d with
 | true=>exact ha pins s1 σ H1 Q I1 q1
 | false=>exact hb pins s1 σ H1 Q I1 q1
end
def SqL(K:PySem.W.Frag)(H:Hp)(a:Addr)(xs:List V):Prop :=
 Rd H a (.lst xs) ∨
  ∃ (o:Obj) (its:Array Value) (n:Nat),K.lookup a=some o∧o.cls=.type "list"∧o.dict=none∧o.data=.seq its n∧its.size≤sizeLine∧ZB xs its.toList
def SqT(K:PySem.W.Frag)(H:Hp)(a:Addr)(xs:List V):Prop :=
 Rd H a (.tup xs) ∨
  ∃ (o:Obj) (its:Array Value) (n:Nat),K.lookup a=some o∧o.cls=.type "tuple"∧o.data=.seq its n∧its.size≤sizeLine∧ZB xs its.toList
def Zoa:Value→Option V
 | .none=>some .non
 | .bool b=>some (.bl b)
 | .int i _=>some (.int i)
 | .str x _=>some (.str x)
 | .bytes b _=>some (.byt b)
 | .float b _=>some (.flt b)
 | .ref a=>some (.ref a)
 | .type n=>some (.ty n)
 | _=>none
theorem Zy.abs{x:V}{u:Value}(r:Zy x u):Zoa u=some x:=by
 cases x with
 | non=>cases r;rfl
 | bl _=>cases r;rfl
 | int _=>obtain⟨t,rfl⟩:=r;rfl
 | str _=>obtain⟨t,rfl⟩:=r;rfl
 | byt _=>obtain⟨t,rfl⟩:=r;rfl
 | flt _=>obtain⟨t,rfl⟩:=r;rfl
 | ref _=>cases r;rfl
 | ty _=>cases r;rfl
theorem Zy.inj{x y:V}{u:Value}(r:Zy x u)(q:Zy y u):x=y:=Qe (r.abs.symm.trans q.abs)
theorem ZB.inj:∀ {xs ys:List V} {us:List Value},ZB xs us→ZB ys us→xs=ys
 | _,_,_,.nil,.nil=>rfl
 | _,_,_,.cons r t,.cons r' t'=>by rw[r.inj r',ZB.inj t t']
section
variable {X:Cx} {pins:List (Addr×Obj)} {σ:St} {H:Hp} {s:Shared} {a:Addr} {xs ys:List V}
theorem SqL.of{K:PySem.W.Frag}(h:H a=some (.lst xs)):SqL K H a xs:=.inl (.inl h)
theorem SqT.of{K:PySem.W.Frag}(h:H a=some (.tup xs)):SqT K H a xs:=.inl (.inl h)
theorem Inv.list(I:Inv X pins σ H s)(h:SqL X.K H a xs):∃its:List Value,ZB xs its∧PlainL s.heap a its.toArray∧xs.length≤sizeLine:=by
 rcases h with h|⟨o,its,n,hk,hc,hd,hs,hz,r⟩
 ·obtain⟨z,its,n,r,e⟩:=h.ok I.hok
  exact⟨its,r,⟨_,n,e,rfl,rfl,rfl⟩,z⟩
 ·refine⟨its.toList,r,⟨o,n,I.kIn a o hk,hc,hd,by simpa using hs⟩,?_⟩
  have e:=r.length
  simp only[Array.length_toList]at e
  omega
theorem Inv.tuple(I:Inv X pins σ H s)(h:SqT X.K H a xs):∃its:List Value,ZB xs its∧IsTup s.heap a its.toArray∧xs.length≤sizeLine:=by
 rcases h with h|⟨o,its,n,hk,hc,hs,hz,r⟩
 ·obtain⟨z,its,r,p⟩:=h.ok I.hok
  exact⟨its,r,p,z⟩
 ·refine⟨its.toList,r,⟨o,I.kIn a o hk,hc,n,by simpa using hs⟩,?_⟩
  have e:=r.length
  simp only[Array.length_toList]at e
  omega
theorem Inv.list_inj(I:Inv X pins σ H s)(h:SqL X.K H a xs)(h':SqL X.K H a ys):xs=ys:=by
 obtain⟨its,r,⟨o,n,e,_,_,d⟩,_⟩:=I.list h
 obtain⟨its',r',⟨o',n',e',_,_,d'⟩,_⟩:=I.list h'
 rw[e]at e';cases e'
 rw[d]at d'
 injection d' with d1 _
 have:its=its':=by simpa using congrArg Array.toList d1
 subst this
 exact r.inj r'
end
abbrev Cx.wish(X:Cx)(E:Value→Shared→Prop):Cx:={ X with xe:=E }
abbrev Cx.nox(X:Cx):Cx:=X.wish fun _ _=>False
theorem Cx.Ok.wish{X:Cx}(ok:X.Ok)(E:Value→Shared→Prop):(X.wish E).Ok :=
 ⟨ok.mod,ok.kind,ok.glob,ok.blt,ok.above,ok.inj,ok.has,ok.cab,ok.hd,ok.frames,ok.stk,ok.exf,ok.bs,ok.bsz,ok.noex,ok.exfs,ok.funs,ok.frf⟩
theorem Cx.Ok.unwish{X:Cx}{E:Value→Shared→Prop}(ok:(X.wish E).Ok):X.Ok :=
 ⟨ok.mod,ok.kind,ok.glob,ok.blt,ok.above,ok.inj,ok.has,ok.cab,ok.hd,ok.frames,ok.stk,ok.exf,ok.bs,ok.bsz,ok.noex,ok.exfs,ok.funs,ok.frf⟩
section
variable {X:Cx} {pins:List (Addr×Obj)} {σ:St} {H:Hp} {s:Shared} {E:Value→Shared→Prop}
theorem Inv.wish(I:Inv X pins σ H s)(E:Value→Shared→Prop):Inv (X.wish E) pins σ H s:=⟨I.ok.wish E,I.os,I.bare,I.base,I.loc,I.cell,I.free,I.freeC,I.pin,I.hok,I.len⟩
theorem Inv.unwish(I:Inv (X.wish E) pins σ H s):Inv X pins σ H s:=⟨I.ok.unwish,I.os,I.bare,I.base,I.loc,I.cell,I.free,I.freeC,I.pin,I.hok,I.len⟩
theorem SP.unwish{D:ZbJ}{f:Flow}{s':Shared}(h:SP (X.wish E) pins D f s'):SP X pins D f s':=by
 cases f with
 | next=>obtain⟨σ',H',I,q⟩:=h;exact⟨σ',H',I.unwish,q⟩
 | brk=>obtain⟨σ',H',I,q⟩:=h;exact⟨σ',H',I.unwish,q⟩
 | cont=>obtain⟨σ',H',I,q⟩:=h;exact⟨σ',H',I.unwish,q⟩
 | ret u=>obtain⟨v,σ',H',I,r,q⟩:=h;exact⟨v,σ',H',I.unwish,r,q⟩
theorem PSs.nox{st:List Stmt}{t:TS}(h:PSs X.nox st t):PSs X st t:=fun pins s σ H D I hw =>
 wpAny_mono (h pins s σ H D (I.wish _) hw) (fun _ _ q=>q.unwish) fun _ _ z=>False.elim z
end
section
variable {X:Cx} {st:Stmt} {Zd6:List Stmt} {t u:TS} {e:Expr} {te:TE} {pos:Pos}
def Zns:TS:=fun D σ H=>D.nx σ H
def Zor(t u:TS):TS:=fun D σ H=>t { D with nx:=u D } σ H
theorem ZM:PSs X [] Zns:=fun _ _ σ H _ I h=>wpAny_execs_nil ⟨σ,H,I,h⟩
theorem Ze(h1:PS X st t)(h2:PSs X Zd6 u):PSs X (st::Zd6) (Zor t u):=by
 intro pins s σ H D I h
 refine wpAny_execs_cons (thn (h1 pins s σ H { D with nx:=u D } I h) fun f s1 q=>?_)
 cases f with
 | next =>
  obtain⟨σ',H',I',q⟩:=q
  exact h2 pins s1 σ' H' D I' q
 | ret v=>exact q
 | brk=>exact q
 | cont=>exact q
theorem Zi(h1:PS X st t):PSs X [st] t:=by
 intro pins s σ H D I h
 refine wpAny_execs_cons (thn (h1 pins s σ H D I h) fun f s1 q=>?_)
 cases f with
 | next=>exact wpAny_execs_nil q
 | ret v=>exact q
 | brk=>exact q
 | cont=>exact q
def tBreak:TS:=fun D σ H=>D.bk σ H
def tCont:TS:=fun D σ H=>D.ct σ H
theorem Inv.quiet{pins:List (Addr×Obj)}{σ:St}{H:Hp}{s:Shared}(I:Inv X pins σ H s):interactive X.env=false:=by simp[interactive,I.ok.kind]
def Znw(te:TE):TS:=fun D σ H=>te σ H fun _ H1=>D.nx σ H1
theorem ZaJ(he:PE X e te)(hs:swapsWith e none pos.line X.env=pure false:=by rfl):PS X (.Expr e pos) (Znw te):=by
 intro pins s σ H D I h
 exact wpAny_Expr_any (thn (he pins s σ H _ I h) fun v s1 ⟨x,H1,I1,r1,q1⟩=>⟨σ,H1,I1,q1⟩) I.quiet hs
def Zoq(te:TE):TS:=fun D σ H=>te σ H D.rt
theorem Zs(he:PE X e te):PS X (.Return (some e) pos) (Zoq te):=by
 intro pins s σ H D I h
 exact wpAny_Return_some (thn (he pins s σ H _ I h) fun v s1 ⟨x,H1,I1,r1,q1⟩=>⟨x,σ,H1,I1,r1,q1⟩)
def tRetN:TS:=fun D _ H=>D.rt .non H
def Zn1(c:TT)(t u:TS):TS:=fun D σ H=>c σ H fun b H1=>if b=true then t D σ H1 else u D σ H1
theorem Zat{c:Expr}{a b:List Stmt}{tc:TT}(hc:PT X c tc)(ha:PSs X a t)(hb:PSs X b u):PS X (.If c a b pos) (Zn1 tc t u):=by
 intro pins s σ H D I h
 refine wpAny_If (thn (hc pins s σ H _ I h) fun d s1 ⟨H1,I1,q1⟩=>?_)
 cases d with
 | true=>exact ha pins s1 σ H1 D I1 q1
 | false=>exact hb pins s1 σ H1 D I1 q1
def tNever:TS:=fun _ _ _=>False
end
abbrev TG:=V→St→Hp→(St→Hp→Prop)→Prop
abbrev TGs:=List V→St→Hp→(St→Hp→Prop)→Prop
def PG(X:Cx)(target:Expr)(t:TG):Prop :=
 ∀ (pins:List (Addr×Obj)) (s:Shared) (σ:St) (H:Hp) (v:V) (u:Value) (Q:St→Hp→Prop),Inv X pins σ H s→Zy v u→t v σ H Q →
  wpAny (model X.prog X.w) X.A (assign target X.env u) (fun _ s'=>∃σ' H',Inv X pins σ' H' s'∧Q σ' H') X.xe s
def PGs(X:Cx)(ts:List Expr)(t:TGs):Prop :=
 ∀ (pins:List (Addr×Obj)) (s:Shared) (σ:St) (H:Hp) (vs:List V) (us:List Value) (Q:St→Hp→Prop),Inv X pins σ H s→ZB vs us→t vs σ H Q →
  wpAny (model X.prog X.w) X.A (assignInOrder ((assignEach ts X.env).map (·.2)) us) (fun _ s'=>∃σ' H',Inv X pins σ' H' s'∧Q σ' H') X.xe s
abbrev ZiP:=V→V→V→Hp→(Hp→Prop)→Prop
def ZlV(X:Cx)(t:ZiP):Prop :=
 ∀ (pins:List (Addr×Obj)) (s:Shared) (σ:St) (H:Hp) (o i v:V) (ov iv u:Value) (Q:Hp→Prop),Inv X pins σ H s→Zy o ov→Zy i iv→Zy v u→t o i v H Q →
  wpAny (model X.prog X.w) X.A (setItem ov iv u) (fun _ s'=>∃H',Inv X pins σ H' s'∧Q H') X.xe s
abbrev TIp:=V→V→Hp→VK→Prop
def PIp(X:Cx)(op:Operator)(t:TIp):Prop :=
 ∀ (pins:List (Addr×Obj)) (s:Shared) (σ:St) (H:Hp) (x y:V) (v u:Value) (Q:VK),Inv X pins σ H s→Zy x v→Zy y u→t x y H Q →
  wpAny (model X.prog X.w) X.A (inplaceOp op v u) (EP X pins σ Q) X.xe s
section
variable {X:Cx} {pos:Pos}
def ZjW(i:Nat):TG:=fun v σ H Q=>Q (σ.set i (some v)) H
theorem ZR{i:Nat}{x:Str}(hN:X.N.Nodup)(hi:X.N[i]? = some x)(hx:Loc X.env.scope x)(hf:X.fn x=true∨X.env.scope.names.lookup x=some .local:=by first|exact .inl rfl|exact .inr rfl|assumption):PG X (.Name x pos) (ZjW i):=by
 intro pins s σ H v u Q I r h
 exact wpAny_assign_Name (Zct I hN hi hx r (fun s' I'=>⟨_,H,I',h⟩) hf)
def ZnV:TGs:=fun vs σ H Q=>vs=[]∧Q σ H
def ZnD(t:TG)(u:TGs):TGs:=fun vs σ H Q=>∃v r,vs=v::r∧t v σ H fun σ' H'=>u r σ' H' Q
theorem ZbC:PGs X [] ZnV:=by
 intro pins s σ H vs us Q I r h
 obtain⟨e,h⟩:=h
 subst e
 cases r
 exact assignInOrder_nil ⟨σ,H,I,h⟩
theorem ZV{e:Expr}{es:List Expr}{t:TG}{u:TGs}(h1:PG X e t)(h2:PGs X es u)
  (hs:(assignEach (e::es) X.env).map (·.2)=assign e X.env::(assignEach es X.env).map (·.2):=by rfl):PGs X (e::es) (ZnD t u):=by
 intro pins s σ H vs us Q I r h
 obtain⟨v,vr,e1,h⟩:=h
 subst e1
 cases r with
 | cons r rr =>
  rw[hs]
  refine assignInOrder_cons (thn (h1 pins s σ H _ _ _ I r h) fun _ s1 ⟨σ1,H1,I1,q1⟩=>?_)
  exact h2 pins s1 σ1 H1 _ _ Q I1 rr q1
def Znb(K:PySem.W.Frag)(n:Nat)(t:TGs):TG:=fun v σ H Q=>∃a xs,v=.ref a∧SqT K H a xs∧xs.length=n∧t xs σ H Q
theorem Zmy{es:List Expr}{k:Nat}{t:TGs}{n:Nat}(hc:X.calm=true)(h:PGs X es t)
  (hn:(assignEach es X.env).length=n:=by rfl) (hst:(assignEach es X.env).findIdx? (·.1)=none:=by rfl):PG X (.Tuple es k pos) (Znb X.K n t):=by
 intro pins s σ H v u Q I r hw
 obtain⟨a,xs,e1,hq,hl,hw⟩:=hw
 subst e1
 cases r
 obtain⟨its,rv,ht,hz⟩:=I.tuple hq
 refine assign_Tuple_tuple (I.ok.hd hc) ht (by simp[hn,← hl,rv.length]) hst fun h' hx=>?_
 have I1:Inv X pins σ H { s with heap:=h' }:=I.kept (t':=s.toks) fun b o e=>hx b o (QB (Qm e)) e
 exact h pins _ σ H xs _ Q I1 (by simpa using rv) hw
def Zol(to ti:TE)(t:ZiP):TG:=fun v σ H Q=>to σ H fun o H1=>ti σ H1 fun i H2=>t o i v H2 fun H3=>Q σ H3
theorem Zcv{o i:Expr}{to ti:TE}{t:ZiP}(ho:PE X o to)(hi:PE X i ti)(hs:ZlV X t)
  (ha:∀v,assign (.Subscript o i pos) X.env v=(do
   let ov ← holding [v] (eval o X.env)
   let iv ← holding [v,ov] (eval i X.env)
   standAt pos
   holding [v,ov,iv] (setItem ov iv v)
   release [v,ov,iv] []):=by intro _;rfl):PG X (.Subscript o i pos) (Zol to ti t):=by
 intro pins s σ H v u Q I r h
 rw[ha]
 refine wpAny_bind (wpAny_holding (thn (ho pins s σ H _ I h) fun ov s1 ⟨x,H1,I1,r1,q1⟩=>?_))
 refine wpAny_bind (wpAny_holding (thn (hi pins s1 σ H1 _ I1 q1) fun iv s2 ⟨y,H2,I2,r2,q2⟩=>?_))
 refine wpAny_bind (wpAny_standAt (wpAny_bind (wpAny_holding (thn (hs pins s2 σ H2 x y v ov iv u _ I2 r1 r2 r q2) fun _ s3 ⟨H3,I3,q3⟩=>?_))))
 exact wpAny_release ⟨σ,H3,I3,q3⟩
def Zno(te:TE)(g:TG):TS:=fun D σ H=>te σ H fun x H1=>g x σ H1 D.nx
theorem Za8{tg e:Expr}{te:TE}{g:TG}(he:PE X e te)(hg:PG X tg g)(hs:swapsWithSole [tg] e pos.line X.env=pure false:=by rfl)(hw:swappedStores [tg] e X.env=pure none:=by rfl)
  (h1:(assignEach [tg] X.env).map (·.2)=[assign tg X.env]:=by rfl):PS X (.Assign [tg] e pos) (Zno te g):=by
 intro pins s σ H D I h
 refine wpAny_Assign_stores (thn (he pins s σ H _ I h) fun v s1 ⟨x,H1,I1,r1,q1⟩=>?_) hs hw
 rw[h1]
 exact thn (hg pins s1 σ H1 x v _ I1 r1 q1) fun _ s2 q=>q
theorem Zv{i:Nat}{x:Str}{e:Expr}{te:TE}{pos':Pos}(hN:X.N.Nodup)(hi:X.N[i]? = some x)(hx:Loc X.env.scope x)(he:PE X e te)(hs:swapsWith e (some (.Name x pos')) pos.line X.env=pure false:=by rfl)(hf:X.fn x=true∨X.env.scope.names.lookup x=some .local:=by first|exact .inl rfl|exact .inr rfl|assumption) :
  PS X (.Assign [.Name x pos'] e pos) (Zno te (ZjW i)):=by
 intro pins s σ H D I h
 refine wpAny_Assign_Name (thn (he pins s σ H _ I h) fun v s1 ⟨y,H1,I1,r1,q1⟩=>?_) hs
 exact Zct I1 hN hi hx r1 (fun s2 I2=>⟨_,H1,I2,q1⟩) hf
def Zn4(i j:Nat)(ta:TA):TS:=fun D σ H=>ta σ H fun vs H1=>∃v w,vs=[v,w]∧D.nx ((σ.set i (some v)).set j (some w)) H1
theorem Zhh{i j:Nat}{x y:Str}{a b:Expr}{ta:TA}{px py pt:Pos}{kt k2 pt2}(hc:X.calm=true)(hN:X.N.Nodup)(hi:X.N[i]? = some x)(hj:X.N[j]? = some y)(hij:i≠j)
  (hx:X.env.scope.names.lookup x=some .local) (hy:X.env.scope.names.lookup y=some .local) (ha:PA X [a,b] ta)
  (hw:swappedStores [.Tuple [.Name x px,.Name y py] kt pt] (.Tuple [a,b] k2 pt2) X.env=pure (some [x,y]))
  (hs:swapsWithSole [.Tuple [.Name x px,.Name y py] kt pt] (.Tuple [a,b] k2 pt2) pos.line X.env=pure false:=by rfl) :
  PS X (.Assign [.Tuple [.Name x px,.Name y py] kt pt] (.Tuple [a,b] k2 pt2) pos) (Zn4 i j ta):=by
 intro pins s σ H D I h
 rw[exec_Assign_arm]
 refine wpAny_bind (wpAny_standAt ?_)
 rw[hs]
 refine wpAny_bind (wpAny_pure ?_)
 rw[if_neg (by decide)]
 refine wpAny_bind (Tuple_ (thn (ha _ pins s σ H _ I h) fun us s1 ⟨vs,H1,I1,r1,q1⟩=>?_))
 obtain⟨v,w,e1,q1⟩:=q1
 subst e1
 obtain⟨u1,u2,rfl,rv,rw'⟩:∃u1 u2,us=[u1,u2]∧Zy v u1∧Zy w u2:=by
  cases r1 with
  | cons p q =>
   cases q with
   | cons p' q' =>
    cases q'
    exact⟨_,_,rfl,p,p'⟩
 refine wpAny_newObj_type ?_ (by show 2≤sizeLine;decide)
 have I2:Inv X pins σ H1 { s1 with heap:=s1.heap.push { cls:=.type "tuple",data:=.seq [u1,u2].toArray } }:=I1.kept (t':=s1.toks) fun b o e=>Qj _ e
 rw[hw]
 refine wpAny_bind (wpAny_pure ?_)
 show wpAny (model X.prog X.w) X.A (do rule "assign.swapped-stores";let items ← unpackItems (.ref s1.heap.objs.size) 2 none;assignInOrder [fun v=>bindName X.env y v,fun v=>bindName X.env x v] items.reverse;pure Flow.next) _ _ _
 refine wpAny_bind (wpAny_rule (wpAny_bind (unpackItems_tuple (items:=#[u1,u2]) (I.ok.hd hc) (IsTup.new s1.heap _) fun h' hx'=>?_)))
 have I3:=I2.kept (h':=h') (t':=s1.toks) fun b o e=>hx' b o (QB (Qm e)) e
 show wpAny _ _ (assignInOrder [fun v=>bindName X.env y v,fun v=>bindName X.env x v] [u2,u1] >>= fun _=>pure Flow.next) _ _ _
 refine wpAny_bind (assignInOrder_cons (wpAny_bindName (Zct I3 hN hj (.inl hy) rw' (fun s2 I4=>?_) (.inr hy))))
 refine assignInOrder_cons (wpAny_bindName (Zct I4 hN hi (.inl hx) rv (fun s3 I5=>assignInOrder_nil (wpAny_pure ?_)) (.inr hx)))
 rw[List.set_comm _ _ (Ne.symm hij)]at I5
 exact⟨_,H1,I5,q1⟩
def ZnZ(i:Nat)(te:TE)(ti:TIp):TS:=fun D σ H=>∃x,σ[i]? = some (some x)∧te σ H fun y H1=>ti x y H1 fun z H2=>D.nx (σ.set i (some z)) H2
theorem Zl0{i:Nat}{x:Str}{e:Expr}{te:TE}{op:Operator}{ti:TIp}{pos':Pos}(hN:X.N.Nodup)(hi:X.N[i]? = some x)(hx:Loc X.env.scope x)(he:PE X e te)(ho:PIp X op ti)(hf:X.fn x=true∨X.env.scope.names.lookup x=some .local:=by first|exact .inl rfl|exact .inr rfl|assumption) :
  PS X (.AugAssign (.Name x pos') op e pos) (ZnZ i te ti):=by
 intro pins s σ H D I h
 obtain⟨v,e1,h⟩:=h
 obtain⟨m,hn,hl⟩:=I.loc
 have vis:Vis X.env.scope x:=by rcases hx with k|k;exact .inl k;exact .inr (.inl k)
 obtain⟨u,r,l⟩:=hl i x v hi e1 vis
 refine wpAny_AugAssign_Name ?_
 have go:wpAny (model X.prog X.w) X.A (eval e X.env) (fun w s₂=>wpAny (model X.prog X.w) X.A (inplaceOp op u w) (fun r s₃=>wpAny (model X.prog X.w) X.A (storeName X.env x r) (fun _=>SP X pins D .next) X.xe s₃) X.xe s₂) X.xe s:=by
  refine thn (he pins s σ H _ I h) fun w s1 ⟨y,H1,I1,r1,q1⟩=>?_
  refine thn (ho pins s1 σ H1 v y u w _ I1 r r1 q1) fun z s2 ⟨zv,H2,I2,r2,q2⟩=>?_
  exact Zct I2 hN hi hx r2 (fun s3 I3=>⟨_,H2,I3,q2⟩) hf
 rcases l with⟨hk,hm⟩|⟨hk,c,hc,hcell⟩
 ·exact wpAny_loadName_local I.ok.kind hk hn hm go
 ·rcases hk with hk|hk
  ·exact wpAny_loadName_cell I.ok.kind hk hc hcell go
  ·rcases hx with k|k
   ·have:X.env.scope.names.lookup x=some .free:=hk
    rw[k]at this;cases this
   ·have:X.env.scope.names.lookup x=some .free:=hk
    rw[k]at this;cases this
def tAugS(to ti te:TE)(tget:V→V→Hp→VK→Prop)(tip:TIp)(tset:ZiP):TS:=fun D σ H=>to σ H fun o H1=>ti σ H1 fun i H2=>tget o i H2 fun x H3=>te σ H3 fun y H4=>tip x y H4 fun z H5=>tset o i z H5 fun H6=>D.nx σ H6
def PGet(X:Cx)(t:V→V→Hp→VK→Prop):Prop :=
 ∀ (pins:List (Addr×Obj)) (s:Shared) (σ:St) (H:Hp) (o i:V) (ov iv:Value) (Q:VK),Inv X pins σ H s→Zy o ov→Zy i iv→t o i H Q →
  wpAny (model X.prog X.w) X.A (getItem ov iv) (EP X pins σ Q) X.xe s
def ipI(f:Int→Int→Int):TIp:=fun x y H Q=>∃i j,x=.int i∧y=.int j∧Q (.int (f i j)) H
theorem ZmG:PIp X .Add (ipI fun i j=>i+j):=by
 intro pins s σ H x y v u Q I r1 r2 h
 obtain⟨i,j,e1,e2,q⟩:=h
 subst e1;subst e2
 obtain⟨t,rfl⟩:=r1
 obtain⟨t',rfl⟩:=r2
 exact iadd_int ⟨.int _,H,I.tok _,⟨_,rfl⟩,q⟩
end
section
variable {X:Cx} {pos:Pos}
def Zl9(c:TT)(tb:TS):TS:=fun D σ H=>∃W:Nat→St→Hp→Prop,(∃m,W m σ H)∧∀m σ H,W m σ H →
 c σ H fun b H1=>if b=true then ∃N:St→Hp→Prop,(∀σ' H',N σ' H'→∃m',m'<m∧W m' σ' H')∧tb { D with nx:=N,ct:=N,bk:=D.nx } σ H1 else D.nx σ H1
theorem Zdv{c:Expr}{body:List Stmt}{tc:TT}{tb:TS}(hp:PassesOwn (model X.prog X.w) X.A X.env X.xe)(hc:PT X c tc)(hb:PSs X body tb):PS X (.While c body [] pos) (Zl9 tc tb):=by
 intro pins s σ H D I h
 obtain⟨W,⟨m0,w0⟩,turn⟩:=h
 refine wpAny_While (codeAny_whileLoop (fun n s'=>∃σ' H',Inv X pins σ' H' s'∧W n σ' H') ?_ m0 ⟨σ,H,I,w0⟩)
 rintro n s1 ⟨σ1,H1,I1,w1⟩
 refine wpAny_passesOwn hp (thn (hc pins s1 σ1 H1 _ I1 (turn n σ1 H1 w1)) fun b s2 ⟨H2,I2,q2⟩=>?_)
 cases b with
 | true =>
  obtain⟨N,hN,q2⟩:=q2
  rw[if_pos rfl]
  refine wpAny_passesOwn hp (thn (hb pins s2 σ1 H2 _ I2 q2) fun f s3 q3=>?_)
  cases f with
  | next =>
   obtain⟨σ3,H3,I3,n3⟩:=q3
   obtain⟨m',hm,w3⟩:=hN σ3 H3 n3
   exact⟨m',hm,σ3,H3,I3,w3⟩
  | cont =>
   obtain⟨σ3,H3,I3,n3⟩:=q3
   obtain⟨m',hm,w3⟩:=hN σ3 H3 n3
   exact⟨m',hm,σ3,H3,I3,w3⟩
  | brk=>exact q3
  | ret v=>exact q3
 | false =>
  rw[if_neg Qi]
  exact wpAny_execs_nil ⟨σ1,H2,I2,q2⟩
end
structure It where
 go:Nat→Hp→Prop
 yld:Nat→Hp→V→Hp→Prop
 stop:Nat→Hp→Prop
def Zet(X:Cx)(pins:List (Addr×Obj))(H:Hp)(b:Addr):Prop :=
 H b=none∧b≠X.env.locals∧b ∉ X.fs∧(b∈X.ex∨X.s₀.heap.objs.size≤b)∧(∀x c,X.env.cells.lookup x=some c→c≠b)∧∀p∈X.pn++pins,p.1≠b
theorem Inv.fpOk{X:Cx}{pins:List (Addr×Obj)}{σ:St}{H H':Hp}{s:Shared}{b:Addr}(I:Inv X pins σ H s)(hb:s.heap.objs.size≤b)(hn:H' b=none):Zet X pins H' b:=by
 refine⟨hn,Nat.ne_of_gt (Qv I.lt hb),I.nofs hb,.inr (QC I.sz hb),fun x c e z=>?_,fun p hp z=>?_⟩
 ·obtain⟨v,q⟩:=I.cell x c e
  exact absurd (Qv q.lt (by rw[z];exact hb)) (Q1 _)
 ·exact absurd (Qv (Qm (I.pin p hp).1) (by rw[z];exact hb)) (Q1 _)
structure ZjO (P:Program) (w:World) (K:PySem.W.Frag) (tg:Expr) (J:It) (fp:List Addr) (it:Addr) (tn:Nat→Heap→Prop):Prop where
 mem:it∈fp
 obj:∀i h,tn i h→∀b∈fp,∃o,h.get? b=some o∧∀v,o.data≠.cell v
 keep:∀i h h',tn i h→(∀b∈fp,∀o,h.get? b=some o→h'.get? b=some o)→tn i h'
 item:∀ (X:Cx),X.prog=P→X.w=w→X.K=K→X.calm=true→∀ (i:Nat) (pins:List (Addr×Obj)) (s:Shared) (σ:St) (H:Hp) (E:Value→Shared→Prop),Inv X pins σ H s→(∀b∈fp,Zet X pins H b)→tn i s.heap→J.go i H →
  wpAny (model P w) X.A (pyNext (.ref it)) (fun r s1=>∃u,r=some u ∧
   wpAny (model P w) X.A (letOwnedTupleGo tg (.ref it) u) (fun _ s2=>∃x H',Inv X pins σ H' s2∧Zy x u∧J.yld i H x H'∧tn (i+1) s2.heap∧∀b∈fp,H' b=none) E s1) E s
 done:∀ (X:Cx),X.prog=P→X.w=w→X.K=K→X.calm=true→∀ (i:Nat) (pins:List (Addr×Obj)) (s:Shared) (σ:St) (H:Hp) (E:Value→Shared→Prop),Inv X pins σ H s→(∀b∈fp,Zet X pins H b)→tn i s.heap→J.stop i H →
  wpAny (model P w) X.A (pyNext (.ref it)) (fun r s1=>r=none∧Inv X pins σ H s1) E s
 self:∀ (A:Around) (i:Nat) (s:Shared) (Q:Value→Shared→Prop) (E:Value→Shared→Prop),tn i s.heap→Q (.ref it) s→wpAny (model P w) A (pyIter (.ref it)) Q E s
abbrev TI:=St→Hp→(It→Hp→Prop)→Prop
def PIE(X:Cx)(pins:List (Addr×Obj))(σ:St)(tg:Expr)(R:It→Hp→Prop)(itv:Value)(s2:Shared):Prop :=
 ∃ (it:Addr) (fp:List Addr) (tn:Nat→Heap→Prop) (J:It) (H':Hp),itv=.ref it∧Inv X pins σ H' s2∧ZjO X.prog X.w X.K tg J fp it tn∧tn 0 s2.heap∧(∀b∈fp,Zet X pins H' b)∧R J H'
def PI(X:Cx)(tg iter:Expr)(wi:TI):Prop :=
 ∀ (pins:List (Addr×Obj)) (s:Shared) (σ:St) (H:Hp) (R:It→Hp→Prop),Inv X pins σ H s→wi σ H R →
  wpAny (model X.prog X.w) X.A (eval iter X.env) (fun v s1=>wpAny (model X.prog X.w) X.A (pyIter v) (PIE X pins σ tg R) X.xe s1) X.xe s
theorem ZlL{M:Model}{A:Around}{E:Value→Shared→Prop}{s:Shared}{tg:Expr}{it:Addr}{u:Value}{o:Obj}{n:String}{vs:Array Value}{Q:Unit→Shared→Prop}(ho:s.heap.get? it=some o)(hc:o.cls=.type n)(hd:o.data=.fields vs)
  (hn:["enumerate", "zip", "dict_itemiterator", "dict_reverseitemiterator", "odict_iterator", "itertools.zip_longest", "itertools.pairwise"].contains n=false) (hQ:Q () s):wpAny M A (letOwnedTupleGo tg (.ref it) u) Q E s:=by
 unfold letOwnedTupleGo
 cases tg<;>first
  | exact wpAny_pure hQ
  | (cases u<;>first
    | exact wpAny_pure hQ
    | (refine wpAny_bind (wpAny_load ho ?_);rw[hc,hd];show wpAny M A (if (["enumerate", "zip", "dict_itemiterator", "dict_reverseitemiterator", "odict_iterator", "itertools.zip_longest", "itertools.pairwise"].contains n&&vs[0]? == some (rawInt _))=true then _ else _) Q E s;rw[if_neg (by intro h;rw[hn,Bool.false_and]at h;cases h)];exact wpAny_pure hQ))
def Itl(K:PySem.W.Frag)(a:Addr):It :=
 ⟨fun i H=>∃xs x,SqL K H a xs∧xs[i]? = some x,fun i H x H'=>H'=H∧∀xs,SqL K H a xs→xs[i]? = some x,fun i H=>∃xs,SqL K H a xs∧xs.length≤i⟩
def Itt(K:PySem.W.Frag)(a:Addr):It :=
 ⟨fun i H=>∃xs x,SqT K H a xs∧xs[i]? = some x,fun i H x H'=>H'=H∧∀xs,SqT K H a xs→xs[i]? = some x,fun i H=>∃xs,SqT K H a xs∧xs.length≤i⟩
def Itr(lo:Int)(n:Nat):It:=⟨fun i _=>i<n,fun i H x H'=>H'=H∧x=.int (lo+i),fun i _=>n≤i⟩
theorem ZiJ{P:Program}{w:World}{K:PySem.W.Frag}{tg:Expr}(a it:Addr):ZjO P w K tg (Itl K a) [it] it (fun i h=>h.IsListIter it a i) where
 mem:=by simp
 obj:=fun i h st b hb=>by
  have e:b=it:=by simpa using hb
  subst e
  obtain⟨o,e,c,d⟩:=st
  exact⟨o,e,fun v z=>by rw[d]at z;cases z⟩
 keep:=fun i h h' st k=>st.at fun o e=>k it (by simp) o e
 item:=by
  intro X hP hw hK hc i pins s σ H E I hf st hg
  subst hP hw hK
  obtain⟨xs,x,hq,hx⟩:=hg
  obtain⟨its,rv,p,hz⟩:=I.list hq
  obtain⟨u,hu,ru⟩:=rv.get hx
  obtain⟨f0,f1,f2,f3,f4,f5⟩:=hf it (by simp)
  refine wpAny_pyNext_list_item st p.isList (x:=u) (by simpa using hu) fun h' st' sb=>?_
  have I1:Inv X pins σ H { s with heap:=h' }:=I.turned (t':=s.toks) (fun b o hb e=>(sb.2 b hb).trans e) f0 f1 f3 f4 f5
  obtain⟨o,e,c,d⟩:=id st'
  exact⟨u,rfl,ZlL (s:={ s with heap:=h' }) e c d (by decide) ⟨x,H,I1,ru,⟨rfl,fun ys hy=>by rw[I.list_inj hy hq];exact hx⟩,st',fun b hb=>(hf b hb).1⟩⟩
 done:=by
  intro X hP hw hK hc i pins s σ H E I hf st hg
  subst hP hw hK
  obtain⟨xs,hq,hx⟩:=hg
  obtain⟨its,rv,p,hz⟩:=I.list hq
  obtain⟨f0,f1,f2,f3,f4,f5⟩:=hf it (by simp)
  have hl:=rv.length
  exact wpAny_pyNext_list_end (I.ok.hd hc) st p.isList (by simp;omega) fun h' eb=>⟨rfl,I.turned (t':=s.toks) (fun b o hb e=>eb b o hb e) f0 f1 f3 f4 f5⟩
 self:=fun _ _ _ _ _ st h=>wpAny_pyIter_listiter st h
theorem Zhu{P:Program}{w:World}{K:PySem.W.Frag}{tg:Expr}(it:Addr)(lo:Int)(n:Nat):ZjO P w K tg (Itr lo n) [it] it (fun i h=>IsRangeIter h it (lo+(i:Nat)*1) ((n:Int)-(i:Nat)) 1) where
 mem:=by simp
 obj:=fun i h st b hb=>by
  have e:b=it:=by simpa using hb
  subst e
  exact⟨_,st,fun v z=>by
   have z':Data.fields _=Data.cell v:=z
   cases z'⟩
 keep:=fun i h h' st k=>k it (by simp) _ st
 item:=by
  intro X hP hw hK hc i pins s σ H E I hf st hg
  subst hP hw hK
  obtain⟨f0,f1,f2,f3,f4,f5⟩:=hf it (by simp)
  have W:=Walks.range (prog:=X.prog) (w:=X.w) (I.ok.hd hc) it lo 1 n
  refine W.item i s _ _ hg st fun v h' tk hv st' kk=>?_
  obtain⟨t,rfl⟩:=hv
  have I1:Inv X pins σ H { s with heap:=h',toks:=tk }:=I.turned (fun b o hb e=>kk b o (by simpa using hb) e) f0 f1 f3 f4 f5
  refine⟨_,rfl,ZlL (s:={ s with heap:=h',toks:=tk }) (n := "range_iterator") st' rfl rfl (by decide) ⟨.int (lo+i),H,I1,⟨t,?_⟩,⟨rfl,rfl⟩,st',fun b hb=>(hf b hb).1⟩⟩
  rw[Int.mul_one]
 done:=by
  intro X hP hw hK hc i pins s σ H E I hf st hg
  subst hP hw hK
  obtain⟨f0,f1,f2,f3,f4,f5⟩:=hf it (by simp)
  exact wpAny_pyNext_range_end (I.ok.hd hc) st (by have:n≤i:=hg;omega) fun h' eb=>⟨rfl,I.turned (t':=s.toks) (fun b o hb e=>eb b o hb e) f0 f1 f3 f4 f5⟩
 self:=fun _ _ _ _ _ st h=>wpAny_pyIter_rangeiter st h
section
variable {X:Cx} {tg:Expr}
def ZlC(K:PySem.W.Frag)(tl:TE):TI:=fun σ H R=>tl σ H fun x H1=>∃a,x=.ref a∧(∃xs,SqL K H1 a xs)∧R (Itl K a) H1
def iTup(K:PySem.W.Frag)(tl:TE):TI:=fun σ H R=>tl σ H fun x H1=>∃a,x=.ref a∧(∃xs,SqT K H1 a xs)∧R (Itt K a) H1
theorem Zk6{l:Expr}{tl:TE}(hl:PE X l tl):PI X tg l (ZlC X.K tl):=by
 intro pins s σ H R I h
 refine thn (hl pins s σ H _ I h) fun v s1 ⟨x,H1,I1,r1,q1⟩=>?_
 obtain⟨a,e,⟨xs,hq⟩,q⟩:=q1
 subst e
 cases r1
 obtain⟨its,rv,p,hz⟩:=I1.list hq
 refine wpAny_pyIter_list p.isList ?_
 refine⟨s1.heap.objs.size,[s1.heap.objs.size],_,_,H1,rfl,I1.kept (t':=s1.toks) fun b o e=>Qj _ e,ZiJ a _,⟨_,QD _ rfl,rfl,rfl⟩,fun b hb=>?_,q⟩
 have e:b=s1.heap.objs.size:=by simpa using hb
 subst e
 exact I1.fpOk (Qd _) (I1.hok.fresh (Qd _))
theorem ZgF{pins:List (Addr×Obj)}{σ:St}{H:Hp}{s:Shared}{R:It→Hp→Prop}{E:Value→Shared→Prop}{lo hi:Int}{t u v:Tok}{tk:Nat}(I:Inv X pins σ H s)(h1:-(2 ^ 62)≤lo)(h2:lo<2 ^ 62)(h3:-(2 ^ 62)≤hi)(h4:hi<2 ^ 62)
  (q:R (Itr lo (hi-lo).toNat) H):wpAny (model X.prog X.w) X.A (pyIter (.ref s.heap.objs.size)) (PIE X pins σ tg R) E { s with heap:=s.heap.push { cls:=.type "range",data:=.fields #[.int lo t,.int hi u,.int 1 v] },toks:=tk }:=by
 refine wpAny_pyIter_range (IsRange.new ..) (small_one h1 h2 h3 h4) ?_
 have I1:Inv X pins σ H { s with heap:=s.heap.push { cls:=.type "range",data:=.fields #[.int lo t,.int hi u,.int 1 v] },toks:=tk }:=I.kept fun b o e=>Qj _ e
 refine⟨(s.heap.push { cls:=.type "range",data:=.fields #[.int lo t,.int hi u,.int 1 v] }).objs.size,[(s.heap.push { cls:=.type "range",data:=.fields #[.int lo t,.int hi u,.int 1 v] }).objs.size],_,_,H,rfl,
  I1.kept (t':=tk) fun b o e=>Qj _ e,Zhu _ lo (hi-lo).toNat,?_,fun b hb=>?_,q⟩
 ·have e1:lo+((0:Nat):Int)*1=lo:=by simp
  have e2:(((hi-lo).toNat:Nat):Int)-((0:Nat):Int)=Builtin.Range.rangeSize lo hi 1:=by rw[rangeSize_one];split<;>omega
  show IsRangeIter _ _ (lo+((0:Nat):Int)*1) ((((hi-lo).toNat:Nat):Int)-((0:Nat):Int)) 1
  rw[e1,e2]
  exact QD _ rfl
 ·have e:b=(s.heap.push { cls:=.type "range",data:=.fields #[.int lo t,.int hi u,.int 1 v] }).objs.size:=by simpa using hb
  subst e
  exact I1.fpOk (Qd _) (I1.hok.fresh (Qd _))
def ZnE(ta:TA):TI:=fun σ H R=>ta σ H fun vs H1=>∃j:Int,vs=[.int j] ∧ -(2 ^ 62)≤j∧j<2 ^ 62∧R (Itr 0 j.toNat) H1
def Znt(ta:TA):TI:=fun σ H R=>ta σ H fun vs H1=>∃i j:Int,vs=[.int i,.int j]∧(-(2 ^ 62)≤i∧i<2 ^ 62 ∧ -(2 ^ 62)≤j∧j<2 ^ 62)∧R (Itr i (j-i).toNat) H1
theorem ZbN{a:Expr}{ta:TA}{p pos:Pos}(hg:Gl X "range")(hm:X.mg "range" = none)(ha:PA X [a] ta)(hs:starEach [a] X.env=[(false,eval a X.env)]:=by rfl):PI X tg (.Call (.Name "range" p) [a] [] pos) (ZnE ta):=by
 intro pins s σ H R I h
 refine Call_ (Zer I hg hm boot_range (QU (thn (ha pos pins s σ H _ I h) fun us s1 ⟨vs,H1,I1,r1,q1⟩=>?_) hs rfl))
 obtain⟨j,e,q1,q2,q⟩:=q1
 subst e
 cases r1 with
 | cons r rr =>
  cases rr
  obtain⟨t,rfl⟩:=r
  exact call_range_1 (ZgF I1 (by omega) (by omega) q1 q2 (by simpa using q))
theorem Ziv{a b:Expr}{ta:TA}{p pos:Pos}(hg:Gl X "range")(hm:X.mg "range" = none)(ha:PA X [a,b] ta)(hs:starEach [a,b] X.env=[(false,eval a X.env),(false,eval b X.env)]:=by rfl)(hs2:starEach [b] X.env=[(false,eval b X.env)]:=by rfl) :
  PI X tg (.Call (.Name "range" p) [a,b] [] pos) (Znt ta):=by
 intro pins s σ H R I h
 refine Call_ (Zer I hg hm boot_range (QU (thn (ha pos pins s σ H _ I h) fun us s1 ⟨vs,H1,I1,r1,q1⟩=>?_) (by rw[hs,hs2]) (by rw[hs2];rfl)))
 obtain⟨i,j,e,⟨q1,q2,q3,q4⟩,q⟩:=q1
 subst e
 cases r1 with
 | cons r rr =>
  cases rr with
  | cons r' rr =>
   cases rr
   obtain⟨t,rfl⟩:=r
   obtain⟨t',rfl⟩:=r'
   exact call_range_2 (ZgF I1 q1 q2 q3 q4 q)
def Zon(wi:TI)(g:TG)(tb:TS):TS:=fun D σ H=>wi σ H fun J H1=>∃W:Nat→Nat→St→Hp→Prop,(∃m,W 0 m σ H1)∧∀i m σ H,W i m σ H →
 (J.stop i H∧D.nx σ H)∨(J.go i H∧∃N:St→Hp→Prop,(∀σ' H',N σ' H'→∃m',m'<m∧W (i+1) m' σ' H')∧∀x H',J.yld i H x H'→g x σ H' fun σ2 H2=>tb { D with nx:=N,ct:=N,bk:=D.nx } σ2 H2)
def ZeM(fp:List Addr)(h:Heap):List (Addr×Obj):=fp.filterMap fun b=>(h.get? b).map fun o=>(b,o)
theorem Zch{fp:List Addr}{h:Heap}{b:Addr}{o:Obj}(hb:b∈fp)(e:h.get? b=some o):(b,o)∈ZeM fp h:=List.mem_filterMap.mpr ⟨b,hb,by rw[e];rfl⟩
theorem ZiR{fp:List Addr}{h:Heap}{p:Addr×Obj}(hp:p∈ZeM fp h):p.1∈fp∧h.get? p.1=some p.2:=by
 obtain⟨b,hb,e⟩:=List.mem_filterMap.mp hp
 cases q:h.get? b with
 | none=>rw[q]at e;cases e
 | some o =>
  rw[q]at e
  have e':(b,o)=p:=Qe e
  subst e'
  exact⟨hb,q⟩
theorem Inv.pinned{pins:List (Addr×Obj)}{σ:St}{H:Hp}{s:Shared}{fp:List Addr}(I:Inv X pins σ H s)(hf:∀b∈fp,Zet X pins H b)(ho:∀b∈fp,∃o,s.heap.get? b=some o∧∀v,o.data≠.cell v):Inv X (pins++ZeM fp s.heap) σ H s :=
 I.pins_of fun p hp=>(Qk.mp hp).elim (fun z=>I.pin p (Qn _ z)) fun z=>by
  obtain⟨hb,e⟩:=ZiR z
  obtain⟨f0,f1,f2,_⟩:=hf p.1 hb
  obtain⟨o,e',d⟩:=ho p.1 hb
  rw[e]at e';cases e'
  exact⟨e,f0,f1,f2,d⟩
theorem Inv.unpinned{pins pl:List (Addr×Obj)}{σ:St}{H:Hp}{s:Shared}(I:Inv X (pins++pl) σ H s):Inv X pins σ H s:=I.pins_of fun p hp=>I.pin p (Qn _ (QG _ hp))
theorem Zdi{iter:Expr}{body:List Stmt}{wi:TI}{g:TG}{tb:TS}{pos:Pos}(hp:PassesOwn (model X.prog X.w) X.A X.env X.xe)(hc:X.calm=true)(hi:PI X tg iter wi)(hg:PG X tg g)(hb:PSs X body tb)
  (hs:∀x,foldedSetIterable iter X.env x=pure x:=by intro _;rfl):PS X (.For tg iter body [] pos) (Zon wi g tb):=by
 intro pins s σ H D I h
 refine wpAny_For (thn (hi pins s σ H _ I h) fun v s1 h1=>thn h1 fun itv s2 h2=>?_) hs
 obtain⟨it,fp,tn,J,H2,e,I2,T,st2,f2,W,⟨m0,w0⟩,turn⟩:=h2
 subst e
 have stat:∀ {H':Hp},(∀b∈fp,H' b=none)→∀b∈fp,Zet X pins H' b:=fun hn b hb=>⟨hn b hb,(f2 b hb).2⟩
 refine codeAny_forLoop_any (fun n s'=>∃i σ' H',Inv X pins σ' H' s'∧tn i s'.heap∧(∀b∈fp,H' b=none)∧W i n σ' H') ?_ m0 ⟨0,σ,H2,I2,st2,fun b hb=>(f2 b hb).1,w0⟩
 rintro n s3 ⟨i,σ3,H3,I3,st3,fr3,w3⟩
 rcases turn i n σ3 H3 w3 with⟨stop,qn⟩|⟨go,N,hN,step⟩
 ·refine wpAny_passesOwn hp (thn (T.done X rfl rfl rfl hc i pins s3 σ3 H3 X.xe I3 (stat fr3) st3 stop) fun r s4 ⟨hr,I4⟩=>?_)
  subst hr
  exact wpAny_execs_nil ⟨σ3,H3,I4,qn⟩
 ·refine wpAny_passesOwn hp (thn (T.item X rfl rfl rfl hc i pins s3 σ3 H3 X.xe I3 (stat fr3) st3 go) fun r s4 ⟨u,hr,h4⟩=>?_)
  subst hr
  refine wpAny_passesOwn hp (thn h4 fun _ s5 ⟨x,H5,I5,r5,y5,st5,fr5⟩=>?_)
  have I5':=I5.pinned (stat fr5) (T.obj _ _ st5)
  refine wpAny_passesOwn hp (thn (hg _ s5 σ3 H5 x u _ I5' r5 (step x H5 y5)) fun _ s6 ⟨σ6,H6,I6,q6⟩=>?_)
  refine wpAny_passesOwn hp (thn (hb _ s6 σ6 H6 _ I6 q6) fun f s7 q7=>?_)
  have again:∀ {σ7:St} {H7:Hp},Inv X (pins++ZeM fp s5.heap) σ7 H7 s7→N σ7 H7→∃m,m<n∧∃i σ' H',Inv X pins σ' H' s7∧tn i s7.heap∧(∀b∈fp,H' b=none)∧W i m σ' H':=fun {σ7 H7} I7 n7=>by
   obtain⟨m',hm,w7⟩:=hN σ7 H7 n7
   refine⟨m',hm,i+1,σ7,H7,I7.unpinned,T.keep _ _ _ st5 fun b hb o e=>(I7.pin (b,o) (Qn _ (Qn _ (Zch hb e)))).1,fun b hb=>?_,w7⟩
   obtain⟨o,e,d⟩:=T.obj _ _ st5 b hb
   exact(I7.pin (b,o) (Qn _ (Qn _ (Zch hb e)))).2.1
  cases f with
  | next=>obtain⟨σ7,H7,I7,n7⟩:=q7;exact again I7 n7
  | cont=>obtain⟨σ7,H7,I7,n7⟩:=q7;exact again I7 n7
  | brk=>obtain⟨σ7,H7,I7,q7⟩:=q7;exact⟨σ7,H7,I7.unpinned,q7⟩
  | ret v=>obtain⟨x7,σ7,H7,I7,r7,q7⟩:=q7;exact⟨x7,σ7,H7,I7.unpinned,r7,q7⟩
end
theorem Zgt{K:PySem.W.Frag}{a:Addr}{xs:List V}{g:TG}{tb:TS}{D:ZbJ}{σ:St}{H:Hp}(Pv:Nat→St→Hp→Prop)(h0:Pv 0 σ H)(hl:∀i σ H,i≤xs.length→Pv i σ H→SqL K H a xs)
  (hs:∀i x σ H,xs[i]? = some x→Pv i σ H→g x σ H fun σ2 H2=>tb { D with nx:=Pv (i+1),ct:=Pv (i+1),bk:=D.nx } σ2 H2) (hd:∀σ H,Pv xs.length σ H→D.nx σ H) :
  ∃W:Nat→Nat→St→Hp→Prop,(∃m,W 0 m σ H)∧∀i m σ H,W i m σ H →
   ((Itl K a).stop i H∧D.nx σ H)∨((Itl K a).go i H∧∃N:St→Hp→Prop,(∀σ' H',N σ' H'→∃m',m'<m∧W (i+1) m' σ' H')∧∀x H',(Itl K a).yld i H x H'→g x σ H' fun σ2 H2=>tb { D with nx:=N,ct:=N,bk:=D.nx } σ2 H2):=by
 refine⟨fun i m σ H=>m=xs.length-i∧i≤xs.length∧Pv i σ H,⟨xs.length,by simp,Qq _,h0⟩,?_⟩
 rintro i m σ H ⟨rfl,hi,p⟩
 have q:=hl i σ H hi p
 by_cases hlt:i<xs.length
 ·refine .inr ⟨⟨xs,xs[i],q,by simp[hlt]⟩,Pv (i+1),fun σ' H' p'=>⟨xs.length-(i+1),by omega,rfl,hlt,p'⟩,fun x H' y=>?_⟩
  obtain⟨e,y⟩:=y
  subst e
  exact hs i x σ _ (y xs q) p
 ·have e:i=xs.length:=by omega
  subst e
  exact .inl ⟨⟨xs,q,Qd _⟩,hd σ H p⟩
theorem ZdO{lo:Int}{n:Nat}{g:TG}{tb:TS}{D:ZbJ}{σ:St}{H:Hp}(Pv:Nat→St→Hp→Prop)(h0:Pv 0 σ H)
  (hs:∀i σ H,i<n→Pv i σ H→g (.int (lo+i)) σ H fun σ2 H2=>tb { D with nx:=Pv (i+1),ct:=Pv (i+1),bk:=D.nx } σ2 H2) (hd:∀σ H,Pv n σ H→D.nx σ H) :
  ∃W:Nat→Nat→St→Hp→Prop,(∃m,W 0 m σ H)∧∀i m σ H,W i m σ H →
   ((Itr lo n).stop i H∧D.nx σ H)∨((Itr lo n).go i H∧∃N:St→Hp→Prop,(∀σ' H',N σ' H'→∃m',m'<m∧W (i+1) m' σ' H')∧∀x H',(Itr lo n).yld i H x H'→g x σ H' fun σ2 H2=>tb { D with nx:=N,ct:=N,bk:=D.nx } σ2 H2):=by
 refine⟨fun i m σ H=>m=n-i∧i≤n∧Pv i σ H,⟨n,by simp,Qq _,h0⟩,?_⟩
 rintro i m σ H ⟨rfl,hi,p⟩
 by_cases hlt:i<n
 ·refine .inr ⟨hlt,Pv (i+1),fun σ' H' p'=>⟨n-(i+1),by omega,rfl,hlt,p'⟩,fun x H' y=>?_⟩
  obtain⟨e,y⟩:=y
  subst e y
  exact hs i σ _ hlt p
 ·have e:i=n:=by omega
  subst e
  exact .inl ⟨Qd _,hd σ H p⟩
abbrev R2:=V→V→Hp→VK→Prop
def OpR(X:Cx)(f:Value→Value→Sem Value)(r:R2):Prop :=
 ∀ (pins:List (Addr×Obj)) (s:Shared) (σ:St) (H:Hp) (x y:V) (v u:Value) (Q:VK),Inv X pins σ H s→Zy x v→Zy y u→r x y H Q →
  wpAny (model X.prog X.w) X.A (f v u) (EP X pins σ Q) X.xe s
def UnR(X:Cx)(f:Value→Sem Value)(r:V→Hp→VK→Prop):Prop :=
 ∀ (pins:List (Addr×Obj)) (s:Shared) (σ:St) (H:Hp) (x:V) (v:Value) (Q:VK),Inv X pins σ H s→Zy x v→r x H Q →
  wpAny (model X.prog X.w) X.A (f v) (EP X pins σ Q) X.xe s
def Za1(X:Cx)(f:Value)(r:List V→Hp→VK→Prop):Prop :=
 ∀ (pins:List (Addr×Obj)) (s:Shared) (σ:St) (H:Hp) (xs:List V) (us:List Value) (Q:VK),Inv X pins σ H s→ZB xs us→r xs H Q →
  wpAny (model X.prog X.w) X.A (call f us) (EP X pins σ Q) X.xe s
def TruR(X:Cx)(r:V→Hp→(Bool→Hp→Prop)→Prop):Prop :=
 ∀ (pins:List (Addr×Obj)) (s:Shared) (σ:St) (H:Hp) (x:V) (v:Value) (Q:Bool→Hp→Prop),Inv X pins σ H s→Zy x v→r x H Q →
  wpAny (model X.prog X.w) X.A (truthy v) (TP X pins σ Q) X.xe s
def tOp(r:R2)(ta tb:TE):TE:=fun σ H Q=>ta σ H fun x H1=>tb σ H1 fun y H2=>r x y H2 Q
def tUn(r:V→Hp→VK→Prop)(ta:TE):TE:=fun σ H Q=>ta σ H fun x H1=>r x H1 Q
def rI(C:Int→Int→Prop)(g:Int→Int→V):R2:=fun x y H Q=>∃i j,x=.int i∧y=.int j∧C i j∧Q (g i j) H
def rI0(g:Int→Int→V):R2:=fun x y H Q=>∃i j,x=.int i∧y=.int j∧Q (g i j) H
def rU(g:Int→V):V→Hp→VK→Prop:=fun x H Q=>∃i,x=.int i∧Q (g i) H
section
variable {X:Cx} {a b c:Expr} {ta tb tc:TE} {pos:Pos}
theorem Zl3(ha:PE X a ta)(hb:PE X b tb){pins:List (Addr×Obj)}{s:Shared}{σ:St}{H:Hp}{R:V→V→Hp→Prop}(I:Inv X pins σ H s)
  (h:ta σ H fun x H1=>tb σ H1 fun y H2=>R x y H2) {Q:Value→Shared→Prop} {f:Value→Value→Sem Value}
  (hf:∀v u s2 x y H2,Inv X pins σ H2 s2→Zy x v→Zy y u→R x y H2→wpAny (model X.prog X.w) X.A (f v u) Q X.xe s2) :
  wpAny (model X.prog X.w) X.A (eval a X.env) (fun v s₁=>wpAny (model X.prog X.w) X.A (eval b X.env) (fun u s₂=>wpAny (model X.prog X.w) X.A (f v u) Q X.xe s₂) X.xe s₁) X.xe s:=by
 refine thn (ha pins s σ H _ I h) fun v s1 ⟨x,H1,I1,r1,q1⟩=>?_
 refine thn (hb pins s1 σ H1 _ I1 q1) fun u s2 ⟨y,H2,I2,r2,q2⟩=>?_
 exact hf v u s2 x y H2 I2 r1 r2 q2
theorem ZP{op:Operator}{r:R2}(ho:OpR X (binaryOp op) r)(ha:PE X a ta)(hb:PE X b tb):PE X (.BinOp a op b pos) (tOp r ta tb):=by
 intro pins s σ H Q I h
 exact wpAny_BinOp (Zl3 ha hb I h fun v u s2 x y H2 I2 rx ry q=>ho pins s2 σ H2 x y v u Q I2 rx ry q)
theorem ZhM{op:UnaryOp}{r:V→Hp→VK→Prop}(ho:UnR X (unaryOp op) r)(ha:PE X a ta):PE X (.UnaryOp op a pos) (tUn r ta):=by
 intro pins s σ H Q I h
 exact UnaryOp_ (thn (ha pins s σ H _ I h) fun v s1 ⟨x,H1,I1,r1,q1⟩=>ho pins s1 σ H1 x v Q I1 r1 q1)
theorem opI{f:Value→Value→Sem Value}{C:Int→Int→Prop}{g:Int→Int→Int}
  (rule:∀ (i j:Int) (t u:Tok) (s:Shared) (Q:Value→Shared→Prop) (E:Value→Shared→Prop),C i j→Q (.int (g i j) s.toks) { s with toks:=s.toks+1 }→wpAny (model X.prog X.w) X.A (f (.int i t) (.int j u)) Q E s) :
  OpR X f (rI C fun i j=>.int (g i j)):=by
 intro pins s σ H x y v u Q I rx ry h
 obtain⟨i,j,rfl,rfl,hc,q⟩:=h
 obtain⟨t,rfl⟩:=rx
 obtain⟨t',rfl⟩:=ry
 exact rule i j t t' s _ _ hc ⟨.int (g i j),H,I.tok _,⟨_,rfl⟩,q⟩
theorem Zny{f:Value→Value→Sem Value}{g:Int→Int→Int}
  (rule:∀ (i j:Int) (t u:Tok) (s:Shared) (Q:Value→Shared→Prop) (E:Value→Shared→Prop),Q (.int (g i j) s.toks) { s with toks:=s.toks+1 }→wpAny (model X.prog X.w) X.A (f (.int i t) (.int j u)) Q E s) :
  OpR X f (rI0 fun i j=>.int (g i j)):=by
 intro pins s σ H x y v u Q I rx ry h
 obtain⟨i,j,rfl,rfl,q⟩:=h
 obtain⟨t,rfl⟩:=rx
 obtain⟨t',rfl⟩:=ry
 exact rule i j t t' s _ _ ⟨.int (g i j),H,I.tok _,⟨_,rfl⟩,q⟩
theorem Zlg{f:Value→Value→Sem Value}{g:Int→Int→Bool}
  (rule:∀ (i j:Int) (t u:Tok) (s:Shared) (Q:Value→Shared→Prop) (E:Value→Shared→Prop),Q (.bool (g i j)) s→wpAny (model X.prog X.w) X.A (f (.int i t) (.int j u)) Q E s) :
  OpR X f (rI0 fun i j=>.bl (g i j)):=by
 intro pins s σ H x y v u Q I rx ry h
 obtain⟨i,j,rfl,rfl,q⟩:=h
 obtain⟨t,rfl⟩:=rx
 obtain⟨t',rfl⟩:=ry
 exact rule i j t t' s _ _ ⟨.bl (g i j),H,I,rfl,q⟩
def ZnT(i j:Int):Prop:=0<j∧j<1073741824
def CDivN(i j:Int):Prop:=j≠0∧j.natAbs<1073741824
def Zng(i j:Int):Prop:=0≤j∧j≤1000000∧i.natAbs<2 ^ 64
def ZmV(i j:Int):Prop:=(-(2 ^ 64)<i∧i<2 ^ 64)∨(-(2 ^ 64)<j∧j<2 ^ 64)
theorem ZmV.ok{i j:Int}(h:ZmV i j):IntMulOk i j:=by
 rcases h with⟨h1,h2⟩|⟨h1,h2⟩
 ·exact .of_left (intBits_le_64 h1 h2)
 ·exact .of_right (intBits_le_64 h1 h2)
theorem Za0:OpR X (binaryOp .Add) (rI0 fun i j=>.int (i+j)):=Zny fun _ _ _ _ _ _ _ q=>add_int q
theorem ZeV:OpR X (binaryOp .Sub) (rI0 fun i j=>.int (i-j)):=Zny fun _ _ _ _ _ _ _ q=>sub_int q
theorem ZcE:OpR X (binaryOp .Mult) (rI ZmV fun i j=>.int (i*j)):=opI fun _ _ _ _ _ _ _ hc q=>mul_int q hc.ok
theorem ZfT:OpR X (binaryOp .FloorDiv) (rI ZnT fun i j=>.int (i / j)):=opI fun i j _ _ _ _ _ hc q=>by
 have h1:(0:Int)<j:=hc.1
 have h2:j<1073741824:=hc.2
 exact floordiv_int (by omega) (by rw[Int.fdiv_eq_ediv_of_nonneg i (by omega)];exact q) (.inl (PyProof.noPylong_small (by omega)))
theorem ZeS:OpR X (binaryOp .Mod) (rI (fun _ j=>0<j) fun i j=>.int (i % j)):=opI fun i j _ _ _ _ _ hc q=>by
 have h1:(0:Int)<j:=hc
 exact mod_int' (by omega) (by rw[Int.fmod_eq_emod_of_nonneg i (by omega)];exact q)
theorem Zmz:OpR X (binaryOp .Pow) (rI Zng fun i j=>.int (i ^ j.toNat)):=opI fun _ _ _ _ _ _ _ hc q=>pow_int_small hc.1 hc.2.1 hc.2.2 q
theorem unI{f:Value→Sem Value}{g:Int→Int}
  (rule:∀ (i:Int) (t:Tok) (s:Shared) (Q:Value→Shared→Prop) (E:Value→Shared→Prop),Q (.int (g i) s.toks) { s with toks:=s.toks+1 }→wpAny (model X.prog X.w) X.A (f (.int i t)) Q E s) :
  UnR X f (rU fun i=>.int (g i)):=by
 intro pins s σ H x v Q I rx h
 obtain⟨i,rfl,q⟩:=h
 obtain⟨t,rfl⟩:=rx
 exact rule i t s _ _ ⟨.int (g i),H,I.tok _,⟨_,rfl⟩,q⟩
theorem ZfZ:UnR X (unaryOp .USub) (rU fun i=>.int (-i)):=unI fun _ _ _ _ _ q=>neg_int q
end
def Znq:V→V→Bool
 | .non,.non=>true|.non,.int _=>true|.int _,.non=>true|.non,.bl _=>true|.bl _,.non=>true|.non,.str _=>true|.str _,.non=>true
 | .int _,.int _=>true|.bl _,.bl _=>true|.str _,.str _=>true|.byt _,.byt _=>true
 | .int _,.str _=>true|.str _,.int _=>true|.bl _,.str _=>true|.str _,.bl _=>true
 | _,_=>false
def rEq:R2:=fun x y H Q=>Znq x y=true∧Q (.bl (decide (x=y))) H
def rNe:R2:=fun x y H Q=>Znq x y=true∧Q (.bl (!decide (x=y))) H
theorem ZhT{i j:Int}:decide (V.int i=V.int j)=(i == j):=by
 rw[Bool.eq_iff_iff]
 simp
theorem ZjJ{i j:Bool}:decide (V.bl i=V.bl j)=(i == j):=by
 rw[Bool.eq_iff_iff]
 simp
theorem Zid{i j:Str}:decide (V.str i=V.str j)=(i == j):=by
 rw[Bool.eq_iff_iff]
 simp
theorem Zin{i j:Array UInt8}:decide (V.byt i=V.byt j)=(i.toList == j.toList):=by
 rw[Bool.eq_iff_iff]
 cases i
 cases j
 simp
section
variable {X:Cx} {a b c:Expr} {ta tb tc:TE} {pos:Pos}
theorem ZH{pins:List (Addr×Obj)}{σ:St}{H:Hp}{s:Shared}{Q:VK}{k k':Bool}(I:Inv X pins σ H s)(q:Q (.bl k) H)(e:k=k'):EP X pins σ Q (.bool k') s:=by
 subst e
 exact⟨.bl k,H,I,rfl,q⟩
theorem Zcn:OpR X (compareOp .Eq) rEq:=by
 intro pins s σ H x y v u Q I rx ry h
 obtain⟨hs,q⟩:=h
 cases x with
 | non =>
  cases rx
  cases y with
  | non=>cases ry;exact PySem.EqNone.eq_none_none (ZH I q (by simp))
  | bl j=>cases ry;exact PySem.EqNone.eq_none_bool (ZH I q (by simp))
  | int j=>obtain⟨t',rfl⟩:=ry;exact PySem.EqNone.eq_none_int (ZH I q (by simp))
  | str j=>obtain⟨t',rfl⟩:=ry;exact PySem.EqNone.eq_none_str (ZH I q (by simp))
  | _=>exact absurd (show false=true from hs) Qi
 | bl i =>
  cases rx
  cases y with
  | non=>cases ry;exact PySem.EqNone.eq_bool_none (ZH I q (by simp))
  | bl j=>cases ry;exact eq_bool (ZH I q ZjJ)
  | str j=>obtain⟨t',rfl⟩:=ry;exact PySem.EqMixed.eq_bool_str (ZH I q (by simp))
  | _=>exact absurd (show false=true from hs) Qi
 | int i =>
  obtain⟨t,rfl⟩:=rx
  cases y with
  | non=>cases ry;exact PySem.EqNone.eq_int_none (ZH I q (by simp))
  | int j=>obtain⟨t',rfl⟩:=ry;exact eq_int (ZH I q ZhT)
  | str j=>obtain⟨t',rfl⟩:=ry;exact PySem.EqMixed.eq_int_str (ZH I q (by simp))
  | _=>exact absurd (show false=true from hs) Qi
 | str i =>
  obtain⟨t,rfl⟩:=rx
  cases y with
  | non=>cases ry;exact PySem.EqNone.eq_str_none (ZH I q (by simp))
  | bl j=>cases ry;exact PySem.EqMixed.eq_str_bool (ZH I q (by simp))
  | int j=>obtain⟨t',rfl⟩:=ry;exact PySem.EqMixed.eq_str_int (ZH I q (by simp))
  | str j=>obtain⟨t',rfl⟩:=ry;exact eq_str (ZH I q Zid)
  | _=>exact absurd (show false=true from hs) Qi
 | byt i =>
  obtain⟨t,rfl⟩:=rx
  cases y with
  | byt j=>obtain⟨t',rfl⟩:=ry;exact PySem.W.eq_bytes (ZH I q Zin)
  | _=>exact absurd (show false=true from hs) Qi
 | _=>cases y<;>exact absurd (show false=true from hs) Qi
theorem ZgT:OpR X (compareOp .NotEq) rNe:=by
 intro pins s σ H x y v u Q I rx ry h
 obtain⟨hs,q⟩:=h
 cases x with
 | non =>
  cases rx
  cases y with
  | non=>cases ry;exact PySem.EqNone.ne_none_none (ZH I q (by simp))
  | bl j=>cases ry;exact PySem.EqNone.ne_none_bool (ZH I q (by simp))
  | int j=>obtain⟨t',rfl⟩:=ry;exact PySem.EqNone.ne_none_int (ZH I q (by simp))
  | str j=>obtain⟨t',rfl⟩:=ry;exact PySem.EqNone.ne_none_str (ZH I q (by simp))
  | _=>exact absurd (show false=true from hs) Qi
 | bl i =>
  cases rx
  cases y with
  | non=>cases ry;exact PySem.EqNone.ne_bool_none (ZH I q (by simp))
  | bl j=>cases ry;exact ne_bool (ZH I q (congrArg not ZjJ))
  | str j=>obtain⟨t',rfl⟩:=ry;exact PySem.EqMixed.ne_bool_str (ZH I q (by simp))
  | _=>exact absurd (show false=true from hs) Qi
 | int i =>
  obtain⟨t,rfl⟩:=rx
  cases y with
  | non=>cases ry;exact PySem.EqNone.ne_int_none (ZH I q (by simp))
  | int j=>obtain⟨t',rfl⟩:=ry;exact ne_int (ZH I q (congrArg not ZhT))
  | str j=>obtain⟨t',rfl⟩:=ry;exact PySem.EqMixed.ne_int_str (ZH I q (by simp))
  | _=>exact absurd (show false=true from hs) Qi
 | str i =>
  obtain⟨t,rfl⟩:=rx
  cases y with
  | non=>cases ry;exact PySem.EqNone.ne_str_none (ZH I q (by simp))
  | bl j=>cases ry;exact PySem.EqMixed.ne_str_bool (ZH I q (by simp))
  | int j=>obtain⟨t',rfl⟩:=ry;exact PySem.EqMixed.ne_str_int (ZH I q (by simp))
  | str j=>obtain⟨t',rfl⟩:=ry;exact ne_str (ZH I q (congrArg not Zid))
  | _=>exact absurd (show false=true from hs) Qi
 | byt i =>
  obtain⟨t,rfl⟩:=rx
  cases y with
  | byt j=>obtain⟨t',rfl⟩:=ry;exact PySem.W.ne_bytes (ZH I q (congrArg not Zin))
  | _=>exact absurd (show false=true from hs) Qi
 | _=>cases y<;>exact absurd (show false=true from hs) Qi
theorem Zdy:OpR X (compareOp .Lt) (rI0 fun i j=>.bl (decide (i<j))):=Zlg fun _ _ _ _ _ _ _ q=>lt_int q
theorem ZnN:OpR X (compareOp .LtE) (rI0 fun i j=>.bl (decide (i≤j))):=Zlg fun _ _ _ _ _ _ _ q=>le_int q
theorem ZgD:OpR X (compareOp .Gt) (rI0 fun i j=>.bl (decide (j<i))):=Zlg fun _ _ _ _ _ _ _ q=>gt_int q
theorem ZlI:OpR X (compareOp .GtE) (rI0 fun i j=>.bl (decide (j≤i))):=Zlg fun _ _ _ _ _ _ _ q=>ge_int q
theorem ZiW:OpR X (compareOp .Lt) (fun x y H Q=>∃i j,x=.str i∧y=.str j∧Q (.bl (decide (i.cps.toList<j.cps.toList))) H):=by
 intro pins s σ H x y v u Q I rx ry h
 obtain⟨i,j,rfl,rfl,q⟩:=h
 obtain⟨t,rfl⟩:=rx
 obtain⟨t',rfl⟩:=ry
 exact lt_str (ZH I q rfl)
theorem ZbK:OpR X (compareOp .Is) (fun x y H Q=>y=.non∧Q (.bl (decide (x=.non))) H):=by
 intro pins s σ H x y v u Q I rx ry h
 obtain⟨rfl,q⟩:=h
 cases ry
 refine is_none_gen (ZH I q ?_)
 cases x<;>first
  | (cases rx;rfl)
  | (obtain⟨t,rfl⟩:=rx;rfl)
theorem Zel:OpR X (compareOp .IsNot) (fun x y H Q=>y=.non∧Q (.bl (!decide (x=.non))) H):=by
 intro pins s σ H x y v u Q I rx ry h
 obtain⟨rfl,q⟩:=h
 cases ry
 refine isnot_none_gen (ZH I q ?_)
 cases x<;>first
  | (cases rx;rfl)
  | (obtain⟨t,rfl⟩:=rx;rfl)
def isObj:HO→Bool
 | .lst _=>true
 | .ins _ _ _=>true
 | _=>false
theorem Zt(b:Expr){op:CmpOp}(h:op≠.In:=by decide)(h2:op≠.NotIn:=by decide):behindInMarks op b=false:=by
 have e1:(op == CmpOp.In)=false:=by cases op<;>first|rfl|exact absurd rfl h
 have e2:(op == CmpOp.NotIn)=false:=by cases op<;>first|rfl|exact absurd rfl h2
 cases b<;>simp[behindInMarks,e1,e2]
theorem Zf9{op:CmpOp}{r:R2}(ho:OpR X (compareOp op) r)(ha:PE X a ta)(hb:PE X b tb)(hm:behindInMarks op b=false):PE X (.Compare a [op] [b] pos) (tOp r ta tb):=by
 intro pins s σ H Q I h
 exact wpAny_Compare1 (Zl3 ha hb I h fun v u s2 x y H2 I2 rx ry q=>ho pins s2 σ H2 x y v u Q I2 rx ry q) hm
def Znm(t:TE):TT:=fun σ H Q=>t σ H fun x H'=>∃k,x=.bl k∧Q k H'
theorem Zo{op:CmpOp}{r:R2}(ho:OpR X (compareOp op) r)(ha:PE X a ta)(hb:PE X b tb)(hm:behindInMarks op b=false):PT X (.Compare a [op] [b] pos) (Znm (tOp r ta tb)):=by
 intro pins s σ H Q I h
 refine wpAny_isTrue_Compare1 (thn (ha pins s σ H _ I h) fun v s1 ⟨x,H1,I1,r1,q1⟩=>thn (hb pins s1 σ H1 _ I1 q1) fun u s2 ⟨y,H2,I2,r2,q2⟩=>
  thn (ho pins s2 σ H2 x y v u _ I2 r1 r2 q2) fun c s3 ⟨z,H3,I3,r3,k,e,q3⟩=>?_) hm
 subst e
 cases r3
 exact wpAny_truthy_bool ⟨H3,I3,q3⟩
def tChain(r r':R2)(ta tb tc:TE):TE:=fun σ H Q=>ta σ H fun x H1=>tb σ H1 fun y H2=>r x y H2 fun z H3=>∃k,z=.bl k ∧
 (if k=true then tc σ H3 fun w' H4=>r' y w' H4 Q else Q (.bl false) H3)
def Zn2(K:PySem.W.Frag)(x:V)(H:Hp)(k:Bool):Prop :=
 match x with
 | .non=>k=false
 | .bl b=>k=b
 | .int i=>k=(i != 0)
 | .str y=>y.length≤sizeLine∧k=((y.length:Int) != 0)
 | .byt y=>y.size≤sizeLine∧k=((y.size:Int) != 0)
 | .ref p=>(∃xs,SqL K H p xs∧k = !xs.isEmpty)∨(∃xs,SqT K H p xs∧k = !xs.isEmpty)∨∃kvs,H p=some (.dK kvs)∧k = !kvs.isEmpty
 | _=>False
theorem Zd3:(sizeLine:Nat)<2 ^ 63:=by rw[sizeLine_eq];decide
theorem Zci:OpR X (binaryOp .Add) (fun x y H Q=>∃i j,x=.str i∧y=.str j∧i.length+j.length≤sizeLine∧Q (.str (i++j)) H):=by
 intro pins s σ H x y v u Q I rx ry h
 obtain⟨i,j,rfl,rfl,hz,q⟩:=h
 obtain⟨t,rfl⟩:=rx
 obtain⟨t',rfl⟩:=ry
 exact add_str (fun t' tk=>⟨.str (i++j),H,I.tok _,⟨_,rfl⟩,q⟩) hz
def PlainIxT(b:Expr):Prop:=∀o i,subscripted b false o i=operate [o,i] (getItem o i)
theorem Zc9{x:V}{us:List Value}(r:ZB [x] us):∃u,us=[u]∧Zy x u:=by
 cases r with
 | cons r1 r2=>cases r2;exact⟨_,rfl,r1⟩
theorem ZlM{x y:V}{us:List Value}(r:ZB [x,y] us):∃u w',us=[u,w']∧Zy x u∧Zy y w':=by
 cases r with
 | cons r1 r2 =>
  cases r2 with
  | cons r3 r4=>cases r4;exact⟨_,_,rfl,r1,r3⟩
theorem ZgQ:Za1 X (.builtin "abs") (fun xs H Q=>∃i,xs=[.int i]∧Q (.int (if i<0 then -i else i)) H):=by
 intro pins s σ H xs us Q I r h
 obtain⟨i,rfl,q⟩:=h
 obtain⟨u,rfl,t,rfl⟩:=Zc9 r
 exact call_abs_int fun u tk=>⟨.int (if i<0 then -i else i),H,I.tok _,⟨_,rfl⟩,q⟩
theorem Zfp(hc:X.calm=true):Za1 X (.builtin "max") (fun xs H Q=>∃i j,xs=[.int i,.int j]∧Q (.int (if j>i then j else i)) H):=by
 intro pins s σ H xs us Q I r h
 obtain⟨i,j,rfl,q⟩:=h
 obtain⟨u,w',rfl,⟨t,rfl⟩,⟨t',rfl⟩⟩:=ZlM r
 refine max_two_ints (I.ok.hd hc) fun h' tk k=>⟨_,H,I.kept k,?_,q⟩
 by_cases hj:j>i
 ·rw[if_pos hj,if_pos hj];exact⟨_,rfl⟩
 ·rw[if_neg hj,if_neg hj];exact⟨_,rfl⟩
theorem Zfe(hc:X.calm=true):Za1 X (.builtin "min") (fun xs H Q=>∃i j,xs=[.int i,.int j]∧Q (.int (if j<i then j else i)) H):=by
 intro pins s σ H xs us Q I r h
 obtain⟨i,j,rfl,q⟩:=h
 obtain⟨u,w',rfl,⟨t,rfl⟩,⟨t',rfl⟩⟩:=ZlM r
 refine min_two_ints (I.ok.hd hc) fun h' tk k=>⟨_,H,I.kept k,?_,q⟩
 by_cases hj:j<i
 ·rw[if_pos hj,if_pos hj];exact⟨_,rfl⟩
 ·rw[if_neg hj,if_neg hj];exact⟨_,rfl⟩
theorem ZiK:Za1 X (.type "int") (fun xs H Q=>(∃i,xs=[.int i]∧Q (.int i) H)∨∃k,xs=[.bl k]∧Q (.int (if k then 1 else 0)) H):=by
 intro pins s σ H xs us Q I r h
 rcases h with⟨i,rfl,q⟩|⟨k,rfl,q⟩
 ·obtain⟨u,rfl,t,rfl⟩:=Zc9 r
  exact call_int_int ⟨.int i,H,I,⟨_,rfl⟩,q⟩
 ·obtain⟨u,rfl,r1⟩:=Zc9 r
  cases r1
  exact call_int_bool ⟨.int (if k then 1 else 0),H,I.tok _,⟨_,rfl⟩,q⟩
def LenV(K:PySem.W.Frag)(x:V)(H:Hp)(n:Nat):Prop :=
 match x with
 | .str y=>y.length≤sizeLine∧n=y.length
 | .byt y=>y.size≤sizeLine∧n=y.size
 | .ref p=>(∃xs,SqL K H p xs∧n=xs.length)∨∃xs,SqT K H p xs∧n=xs.length
 | _=>False
end
structure ZhI (h:Heap) (x dx C:Addr) (mA:Str→Option Value):Prop where
 obj:h.get? x=some (PySem.W.instObj C dx)
 ns:h.Ns1 dx mA
 ne:dx≠x
theorem Ziu{h:Heap}{dx:Addr}{mA:Str→Option Value}(n:h.Ns1 dx mA):∃od,h.get? dx=some od∧∀name,PySem.W.lookIn name od=some (mA name):=by
 obtain⟨o,es,ep,ho,hd,hk,_,hm⟩:=n
 refine⟨o,ho,fun name=>?_⟩
 have e:=hm name
 unfold nsFind findBy at e
 rw[← Array.find?_toList]at e
 unfold PySem.W.lookIn
 rw[hd]
 dsimp only
 split
 ·rename_i y q
  rw[q]at e
  exact congrArg some e
 ·rename_i q
  rw[q]at e
  have a:es.toList.any (·.refKey)=false:=by
   rw[List.any_eq_false]
   intro y hy
   obtain⟨z,t,hkey⟩:=hk y (Array.mem_toList_iff.mp hy)
   simp[DictEntry.refKey,hkey]
  have a':¬ es.toList.any (·.refKey)=true:=by rw[a];exact Qi
  rw[if_neg a']
  exact congrArg some e
theorem ZhI.look{h:Heap}{x dx C:Addr}{mA:Str→Option Value}(I:ZhI h x dx C mA):∃od,PySem.W.InstAt h x (PySem.W.instObj C dx) C (some od)∧∀name,PySem.W.lookIn name od=some (mA name) :=
 let ⟨od,ho,hl⟩:=Ziu I.ns
 ⟨od,⟨I.obj,rfl,rfl,ho⟩,hl⟩
section
variable {prog:Program} {w:World} {A:Around} {E:Value→Shared→Prop} {s:Shared} {K:PySem.W.Frag} {x dx C f:Addr} {mA:Str→Option Value} {name:Str} {v:Value}
theorem Zlq{expr:Bool}{Q:Value→Shared→Prop}(X:K.In s.heap)(I:ZhI s.heap x dx C mA)(hg:PySem.W.plainGet K C name=true)(hh:PySem.W.hasDictIn K C=true)
  (ha:PySem.W.findIn K (.ref C) name=some none) (hv:mA name=some v) (hv':PySem.W.handedIn v=true) (h:Q v { s with toks:=s.toks+1 }) :
  wpAny (model prog w) A (getAttr (.ref x) name expr) Q E s:=by
 obtain⟨od,J,hl⟩:=I.look
 exact PySem.W.get_value X J (PySem.W.plainGet_of hg).1 (PySem.W.findObj_own hh ha rfl (by rw[hl,hv])) hv' h
theorem Zi8{pl:Sem Bool}{Q:Value×List Value→Shared→Prop}(X:K.In s.heap)(I:ZhI s.heap x dx C mA)(hg:PySem.W.plainGet K C name=true)
  (hf:PySem.W.findIn K (.ref C) name=some (some (.ref f))) (ht:PySem.W.isFn K (.ref f)=true) (hv:mA name=none) (h:Q (.ref f,[.ref x]) s) :
  wpAny (model prog w) A (getMethod (.ref x) name pl) Q E s:=by
 obtain⟨od,J,hl⟩:=I.look
 exact PySem.W.method_fn X J (PySem.W.plainGet_of hg).1 (PySem.W.plainGet_of hg).2 hf (beq_iff_eq.mp ht) (by show (PySem.W.lookIn name od).map (·.isSome)=some false;rw[hl,hv];rfl) h
theorem Zkx{ns:List Str}{Q:Unit→Shared→Prop}(X:K.In s.heap)(I:ZhI s.heap x dx C mA)
  (hs:PySem.W.findIn K (.ref C) "__setattr__" = some (some (.builtin "object.__setattr__"))) (hp:PySem.W.plainOver K C=true) (ht:PySem.W.takerIn K C name=some none) (hh:PySem.W.hasDictIn K C=true)
  (hw:PySem.Within mA ns) (hsz:ns.length≤sizeLine)
  (h:∀h',ZhI h' x dx C (fun y=>if y=name then some v else mA y)→Heap.SameBut dx s.heap h'→Q () { s with heap:=h',toks:=s.toks+2 }) :
  wpAny (model prog w) A (setAttr (.ref x) name v) Q E s:=by
 obtain⟨od,J,hl⟩:=I.look
 refine PySem.W.set_plain X J hs (PySem.W.osa_open (s:={ s with toks:=s.toks+1 }) (r:=none) X J hp ht fun b=>?_)
 obtain⟨cd,hc,hd'⟩:=PySem.W.any_some hh
 have hx:s.heap.get? x=some ⟨.ref C,some dx,.plain,#[]⟩:=I.obj
 refine wpAny_bind (wpAny_pure (wpAny_bind (wpAny_bind (wpAny_loadPart hx (wpAny_bind (PySem.W.Looks.here (s:={ s with toks:=s.toks+1 }) (PySem.W.looks_clsIn X hc) ?_))))))
 rw[hd']
 refine wpAny_pure (a:=some dx) (wpAny_bind (wpAny_pure (wpAny_bind ?_)))
 refine wpAny_nsSet1 (s:={ s with toks:=s.toks+1 }) I.ns fun h' hn2 hs2=>?_
 obtain⟨oD,esD,epD,hoD,hdD,hcD⟩:=hn2.count (PySem.Within.cons name v hw)
 refine wpAny_bind (wpAny_lookBehind hoD (by rw[hdD];exact pastItsLine_dict (QC hcD (by rw[QF];omega))) ?_)
 exact wpAny_pure (h _ ⟨(hs2.2 _ (Ne.symm I.ne)).trans I.obj,hn2,I.ne⟩ hs2)
theorem ZjP{R:Result→Shared→Prop}{vs:List Value}{kw:List (Str×Value)}(X:K.In s.heap)(hm:PySem.W.makesIn K C=true)
  (hi:PySem.W.findIn K (.ref C) "__init__" = some (some (.ref f))) (hf:PySem.W.typeIn K (.ref f)=some (.type "function"))
  (h:codeAny (model prog w) (A.under (.builtin "type.__call__" ⟨.ref C::vs,kw⟩)) (.call (.ref f) ⟨.ref (s.heap.objs.size+1)::vs,kw⟩) (PySem.W.InitBack (s.heap.objs.size+1) R)
   { s with heap:=(s.heap.push PySem.W.emptyDict).push (PySem.W.instObj C s.heap.objs.size) }) :
  codeAny (model prog w) A (.call (.ref C) ⟨vs,kw⟩) R s:=by
 obtain⟨hh,g,d,t,os⟩:=s
 exact PySem.W.make_core (PySem.W.makes_of X hm) (PySem.W.looks_findIn X hi) (fun self=>PySem.W.bind_fn X self hf) (.inl rfl) h
end
def Zk(f:Str)(v:V):List (Str×V)→List (Str×V)
 | []=>[(f,v)]
 | (g,x)::r=>if g=f then (g,v)::r else (g,x)::Zk f v r
theorem Zj(f g:Str)(v:V):∀fs:List (Str×V),(Zk f v fs).lookup g=if g=f then some v else fs.lookup g
 | []=>by
  show List.lookup g [(f,v)]=_
  by_cases h:g=f
  ·have hb:(g == f)=true:=beq_iff_eq.mpr h
   simp only[List.lookup,hb,if_pos h]
  ·have hb:(g == f)=false:=beq_eq_false_iff_ne.mpr h
   simp only[List.lookup,hb,if_neg h]
 | (k,x)::r=>by
  have ih:=Zj f g v r
  rw[show Zk f v ((k,x)::r)=(if k=f then (k,v)::r else (k,x)::Zk f v r) from rfl]
  by_cases hk:k=f
  ·rw[if_pos hk]
   by_cases h:g=k
   ·have hb:(g == k)=true:=beq_iff_eq.mpr h
    simp only[List.lookup,hb,if_pos (h.trans hk)]
   ·have hb:(g == k)=false:=beq_eq_false_iff_ne.mpr h
    simp only[List.lookup,hb,if_neg (fun e:g=f=>h (e.trans hk.symm))]
  ·rw[if_neg hk]
   by_cases h:g=k
   ·have hb:(g == k)=true:=beq_iff_eq.mpr h
    simp only[List.lookup,hb,if_neg (fun e:g=f=>hk (h.symm.trans e))]
   ·have hb:(g == k)=false:=beq_eq_false_iff_ne.mpr h
    simp only[List.lookup,hb]
    exact ih
theorem ZdL(f:Str)(v:V):∀fs:List (Str×V),f∈(Zk f v fs).map (·.1)∧∀g,g∈fs.map (·.1)→g∈(Zk f v fs).map (·.1)
 | []=>⟨by simp[Zk],fun g h=>by simp at h⟩
 | (k,x)::r=>by
  obtain⟨i1,i2⟩:=ZdL f v r
  rw[show Zk f v ((k,x)::r)=(if k=f then (k,v)::r else (k,x)::Zk f v r) from rfl]
  by_cases hk:k=f
  ·rw[if_pos hk]
   subst hk
   exact⟨by simp,fun g h=>by simpa using h⟩
  ·rw[if_neg hk]
   refine⟨?_,fun g h=>?_⟩
   ·rw[Qg]
    exact Qw _ i1
   ·rw[Qg]at h ⊢
    rcases QE.mp h with e|e
    ·exact List.mem_cons.mpr (.inl e)
    ·exact Qw _ (i2 g e)
theorem Zea(f:Str)(v:V):∀fs:List (Str×V),(Zk f v fs).length≤fs.length+1
 | []=>by simp[Zk]
 | (k,x)::r=>by
  have ih:=Zea f v r
  rw[show Zk f v ((k,x)::r)=(if k=f then (k,v)::r else (k,x)::Zk f v r) from rfl]
  by_cases hk:k=f
  ·rw[if_pos hk,QF,QF];omega
  ·rw[if_neg hk,QF,QF];omega
theorem Zcr.some_of{v:V}{o:Option Value}(r:Zcr (some v) o):∃u,o=some u∧Zy v u:=by
 cases o with
 | none=>exact(show False from r).elim
 | some u=>exact⟨u,rfl,r⟩
theorem Zcr.none_of{o:Option Value}(r:Zcr none o):o=none:=by
 cases o with
 | none=>rfl
 | some u=>exact(show False from r).elim
theorem ZiH{v:V}{u:Value}(r:Zy v u):PySem.W.handedIn u=true:=by
 cases v with
 | non=>cases (show u=Value.none from r);rfl
 | bl b=>cases (show u=Value.bool b from r);rfl
 | int i=>obtain⟨t,e⟩:=(show ∃t,u=Value.int i t from r);cases e;rfl
 | str x=>obtain⟨t,e⟩:=(show ∃t,u=Value.str x t from r);cases e;rfl
 | byt b=>obtain⟨t,e⟩:=(show ∃t,u=Value.bytes b t from r);cases e;rfl
 | flt b=>obtain⟨t,e⟩:=(show ∃t,u=Value.float b t from r);cases e;rfl
 | ref a=>cases (show u=Value.ref a from r);rfl
 | ty n=>cases (show u=Value.type n from r);rfl
section
variable {P:Program} {w:World} {H H':Hp} {h h':Heap} {a C dx:Addr} {fs fs':List (Str×V)}
theorem Zf0(hok:HOk P w H h)(e:H a=some (.ins C dx fs)):∃mA,ZhI h a dx C mA∧(∀f,Zcr (fs.lookup f) (mA f))∧PySem.Within mA (fs.map (·.1))∧fs.length≤1000∧H dx=some (.own a):=by
 obtain⟨d,z,ne,ob,mA,n,r,q⟩:=(show Zay P w H h a (.ins C dx fs) from hok a _ e)
 exact⟨mA,⟨ob,n,ne⟩,r,q,z,d⟩
end
structure Cls (K:PySem.W.Frag) (C:Addr):Prop where
 pg:PySem.W.plainGet K C Str.empty=true
 hd:PySem.W.hasDictIn K C=true
 po:PySem.W.plainOver K C=true
 sa:PySem.W.findIn K (.ref C) "__setattr__" = some (some (.builtin "object.__setattr__"))
theorem Cls.get{K:PySem.W.Frag}{C:Addr}(c:Cls K C)(f:Str):PySem.W.plainGet K C f=true:=c.pg
def ZaK(K:PySem.W.Frag)(C:Addr)(f:Str):Prop:=PySem.W.findIn K (.ref C) f=some none
theorem ZaK.taker{K:PySem.W.Frag}{C:Addr}{f:Str}(n:ZaK K C f):PySem.W.takerIn K C f=some none:=by
 unfold PySem.W.takerIn
 rw[show PySem.W.findIn K (.ref C) f=some none from n]
 rfl
structure Con (K:PySem.W.Frag) (C:Addr) (f:Str) (v:V) (u:Value):Prop where
 at_:PySem.W.findIn K (.ref C) f=some (some u)
 rel:Zy v u
 get:PySem.W.specialIn K u "__get__" = some none
 cp:PySem.W.copiedNames.contains f=false
structure Zji (K:PySem.W.Frag) (C:Addr) (m:Str) (f:Addr):Prop where
 at_:PySem.W.findIn K (.ref C) m=some (some (.ref f))
 fn:PySem.W.isFn K (.ref f)=true
 kp:PySem.W.keepIn K (.ref f)=true
section
variable {X:Cx} {pins:List (Addr×Obj)} {σ:St} {H:Hp} {s:Shared} {a C dx:Addr} {fs:List (Str×V)} {f:Str} {v:V} {A:Around} {E:Value→Shared→Prop}
theorem Ze2{b:Bool}{Q:Value→Shared→Prop}(I:Inv X pins σ H s)(e:H a=some (.ins C dx fs))(c:Cls X.K C)(n:ZaK X.K C f)(l:fs.lookup f=some v)
  (h:∀u s',Inv X pins σ H s'→Zy v u→Q u s'):wpAny (model X.prog X.w) A (getAttr (.ref a) f b) Q E s:=by
 obtain⟨mA,O,r,_,_,_⟩:=Zf0 I.hok e
 obtain⟨u,hu,ru⟩:=Zcr.some_of (v:=v) (o:=mA f) (by rw[← l];exact r f)
 exact Zlq I.kIn O (c.get f) c.hd n hu (ZiH ru) (h u _ (I.tok _) ru)
theorem ZeX{m:Str}{g:Addr}{pl:Sem Bool}{Q:Value×List Value→Shared→Prop}(I:Inv X pins σ H s)(e:H a=some (.ins C dx fs))(c:Cls X.K C)(k:Zji X.K C m g)(l:fs.lookup m=none)
  (h:Q (.ref g,[.ref a]) s):wpAny (model X.prog X.w) A (getMethod (.ref a) m pl) Q E s:=by
 obtain⟨mA,O,r,_,_,_⟩:=Zf0 I.hok e
 have hn:mA m=none:=Zcr.none_of (by rw[← l];exact r m)
 exact Zi8 I.kIn O (c.get m) k.at_ k.fn hn h
theorem Zen{y:V}{u:Value}{Q:Unit→Shared→Prop}(I:Inv X pins σ H s)(e:H a=some (.ins C dx fs))(c:Cls X.K C)(n:ZaK X.K C f)(hl:fs.length<1000)(ry:Zy y u)
  (h:∀s',Inv X pins σ (upd H a (.ins C dx (Zk f y fs))) s'→Q () s'):wpAny (model X.prog X.w) A (setAttr (.ref a) f u) Q E s:=by
 obtain⟨mA,O,r,wi,_,ho⟩:=Zf0 I.hok e
 have hz:(fs.map (·.1)).length≤sizeLine:=by rw[Qa,sizeLine_eq];omega
 refine Zkx I.kIn O c.sa c.po n.taker c.hd wi hz fun h' O' sb=>h _ ?_
 have hd:∃o,h'.get? dx=some o:=let ⟨o,_,_,e',_⟩:=O'.ns;⟨o,e'⟩
 refine I.write (x:=a) (e:=dx) (by rw[e];exact True.intro) (.inr ho) (fun b q hb z=>(sb.2 b hb).trans z) hd ?_
 refine⟨by rw[Zc O.ne];exact ho,?_,O.ne,O'.obj,_,O'.ns,fun g=>?_,fun g hg=>?_⟩
 ·have:=Zea f y fs;omega
 ·show Zcr ((Zk f y fs).lookup g) (if g=f then some u else mA g)
  rw[Zj]
  by_cases q:g=f
  ·rw[if_pos q,if_pos q];exact ry
  ·rw[if_neg q,if_neg q];exact r g
 ·by_cases q:g=f
  ·rw[q];exact(ZdL f y fs).1
  ·refine(ZdL f y fs).2 g (wi g fun z=>hg ?_)
   show (if g=f then some u else mA g)=none
   rw[if_neg q];exact z
theorem Inv.made(I:Inv X pins σ H s):Inv X pins σ (upd (upd H s.heap.objs.size (.own (s.heap.objs.size+1))) (s.heap.objs.size+1) (.ins C s.heap.objs.size []))
  { s with heap:=(s.heap.push PySem.W.emptyDict).push (PySem.W.instObj C s.heap.objs.size) }:=by
 have e1:(s.heap.push PySem.W.emptyDict).get? s.heap.objs.size=some PySem.W.emptyDict:=QD s.heap rfl
 have e2:((s.heap.push PySem.W.emptyDict).push (PySem.W.instObj C s.heap.objs.size)).get? (s.heap.objs.size+1)=some (PySem.W.instObj C s.heap.objs.size):=by
  have:=QD (s.heap.push PySem.W.emptyDict) (o:=PySem.W.instObj C s.heap.objs.size) rfl
  rwa [Heap.size_push]at this
 have e3:(s.heap.push PySem.W.emptyDict).Ns s.heap.objs.size (fun _=>none):=⟨PySem.W.emptyDict,#[],_,e1,rfl,(fun e he=>absurd he (by simp)),fun _=>rfl⟩
 have I1:=I.laid (a:=s.heap.objs.size) (o:=.own (s.heap.objs.size+1)) (h':=s.heap.push PySem.W.emptyDict) (t':=s.toks) (fun b u q=>Qj _ q) (Qd _) ⟨_,e1⟩
 refine I1.laid (a:=s.heap.objs.size+1) (o:=.ins C s.heap.objs.size []) (t':=s.toks) (fun b u q=>Qj _ q) (Nat.le_of_eq (Heap.size_push _ _)) ?_
 have ne:s.heap.objs.size≠s.heap.objs.size+1:=QB (Nat.lt_succ_self _)
 refine⟨by rw[Zc ne,Zg],Qq _,ne,e2,fun _=>none,(Heap.Ns1.of_empty e3).at fun o q=>Qj _ q,fun _=>True.intro,fun y hy=>absurd rfl hy⟩
theorem ZkG{prog:Program}{w:World}{env:Env}{e:Expr}{f:Str}{pos:Pos}{s:Shared}{Q:Value→Shared→Prop}(hb:attributeBase e f env (eval e env)=eval e env)
  (h:wpAny (model prog w) A (eval e env) (fun o s₁=>wpAny (model prog w) A (getAttr o f true) Q E s₁) E s):wpAny (model prog w) A (eval (.Attribute e f pos) env) Q E s :=
 Attribute_any_ h (by rw[arm_eval_Attribute,hb])
end
def Zod(K:PySem.W.Frag)(ta:TE)(f:Str):TE:=fun σ H Q=>ta σ H fun x H1=>∃a C dx fs v,x=.ref a∧H1 a=some (.ins C dx fs)∧Cls K C∧ZaK K C f∧fs.lookup f=some v∧Q v H1
def tCon(K:PySem.W.Frag)(ta:TE)(f:Str):TE:=fun σ H Q=>ta σ H fun x H1=>∃a C dx fs v u,x=.ref a∧H1 a=some (.ins C dx fs)∧Cls K C∧Con K C f v u∧fs.lookup f=none∧Q v H1
def Zoh(K:PySem.W.Frag)(ta tv:TE)(f:Str):TS:=fun D σ H=>tv σ H fun y H1=>ta σ H1 fun x H2=>∃a C dx fs,x=.ref a∧H2 a=some (.ins C dx fs)∧Cls K C∧ZaK K C f∧fs.length<1000 ∧
 D.nx σ (upd H2 a (.ins C dx (Zk f y fs)))
def ZnB(X:Cx)(op:Operator)(rd:V→V→Hp→VK→Prop):Prop :=
 ∀ (pins:List (Addr×Obj)) (s:Shared) (σ:St) (H:Hp) (x y:V) (u v:Value) (Q:VK),Inv X pins σ H s→Zy x u→Zy y v→rd x y H Q→wpAny (model X.prog X.w) X.A (inplaceOp op u v) (EP X pins σ Q) X.xe s
def Zlc(K:PySem.W.Frag)(ta tv:TE)(rd:V→V→Hp→VK→Prop)(f:Str):TS:=fun D σ H=>ta σ H fun x H1=>∃a C dx fs v,x=.ref a∧H1 a=some (.ins C dx fs)∧Cls K C∧ZaK K C f∧fs.lookup f=some v ∧
 tv σ H1 fun y H2=>rd v y H2 fun z H3=>∃dx' fs',H3 a=some (.ins C dx' fs')∧fs'.length<1000∧D.nx σ (upd H3 a (.ins C dx' (Zk f z fs')))
section
variable {X:Cx} {o e value:Expr} {f:Str} {pos pos' tpos:Pos} {ta tv:TE}
theorem ZL(he:PE X e ta)(hb:attributeBase e f X.env (eval e X.env)=eval e X.env):PE X (.Attribute e f pos) (Zod X.K ta f):=by
 intro pins s σ H Q I h
 refine ZkG hb (thn (he pins s σ H _ I h) fun u s1 ⟨x,H1,I1,rx,a,C,dx,fs,v,ex,ea,c,n,l,q⟩=>?_)
 subst ex
 obtain rfl:u=Value.ref a:=rx
 exact Ze2 I1 ea c n l fun u' s2 I2 ru=>⟨v,H1,I2,ru,q⟩
theorem Zbh(ha:PE X o ta)(hv:PE X value tv)(hs:swapsWith value (some (.Attribute o f pos')) pos.line X.env=pure false):PS X (.Assign [.Attribute o f pos'] value pos) (Zoh X.K ta tv f):=by
 intro pins s σ H D I h
 refine plainObj_wpAny_Assign_Attribute (thn (hv pins s σ H _ I h) fun u s1 ⟨y,H1,I1,ry,q⟩=>thn (ha pins s1 σ H1 _ I1 q) fun ov s2 ⟨x,H2,I2,rx,a,C,dx,fs,ex,ea,c,n,l,q2⟩=>?_) hs
 subst ex
 obtain rfl:ov=Value.ref a:=rx
 exact Zen I2 ea c n l ry fun s3 I3=>⟨σ,_,I3,q2⟩
theorem ZbZ{op:Operator}{rd:V→V→Hp→VK→Prop}(ha:PE X o ta)(hv:PE X value tv)(hop:ZnB X op rd):PS X (.AugAssign (.Attribute o f tpos) op value pos) (Zlc X.K ta tv rd f):=by
 intro pins s σ H D I h
 refine wpAny_AugAssign_AttributeAny (thn (ha pins s σ H _ I h) fun ov s1 ⟨x,H1,I1,rx,a,C,dx,fs,v,ex,ea,c,n,l,q⟩=>?_)
 subst ex
 obtain rfl:ov=Value.ref a:=rx
 refine Ze2 I1 ea c n l fun u s2 I2 ru=>thn (hv pins s2 σ H1 _ I2 q) fun w3 s3 ⟨y,H2,I3,ry,q3⟩=>thn (hop pins s3 σ H2 v y u w3 _ I3 ru ry q3) fun w4 s4 ⟨z,H3,I4,rz,dx',fs',ea',l',q4⟩=>?_
 exact Zen I4 ea' c n l' rz fun s5 I5=>⟨σ,_,I5,q4⟩
def Zn3:V→V→Hp→VK→Prop:=fun x y H Q=>∃i j,x=.int i∧y=.int j∧Q (.int (i+j)) H
def rSub:V→V→Hp→VK→Prop:=fun x y H Q=>∃i j,x=.int i∧y=.int j∧Q (.int (i-j)) H
theorem ZeP:ZnB X .Add Zn3:=by
 rintro pins s σ H x y u v Q I rx ry ⟨i,j,rfl,rfl,q⟩
 obtain⟨t,rfl⟩:=(show ∃t,u=Value.int i t from rx)
 obtain⟨t',rfl⟩:=(show ∃t',v=Value.int j t' from ry)
 exact PyProof.Rows.iadd_int ⟨.int (i+j),H,I.tok _,⟨_,rfl⟩,q⟩
end
section
variable {X:Cx} {pins:List (Addr×Obj)} {σ:St} {H:Hp} {s:Shared} {A:Around} {E:Value→Shared→Prop} {Q:Value→Shared→Prop} {c:Value} {b:Bool}
inductive Zd2 (K:PySem.W.Frag) (H:Hp):V→Value→Prop where
 | non:Zd2 K H .non (.type "NoneType")
 | bl (x:Bool):Zd2 K H (.bl x) (.type "bool")
 | int (i:Int):Zd2 K H (.int i) (.type "int")
 | str (x:Str):Zd2 K H (.str x) (.type "str")
 | flt (x:UInt64):Zd2 K H (.flt x) (.type "float")
 | lst {a:Addr} {xs:List V} (e:H a=some (.lst xs)):Zd2 K H (.ref a) (.type "list")
 | frz {a:Addr} {o:Obj} {xs:List V} (e:H a=some (.frz o (.lst xs))):Zd2 K H (.ref a) (.type "list")
 | tup {a:Addr} {xs:List V} (e:H a=some (.tup xs)):Zd2 K H (.ref a) (.type "tuple")
 | dK {a:Addr} {kvs:List (Key×V)} (e:H a=some (.dK kvs)):Zd2 K H (.ref a) (.type "dict")
 | dT {a:Addr} {kvs:List (List Key×V)} (e:H a=some (.dT kvs)):Zd2 K H (.ref a) (.type "dict")
 | ins {a C dx:Addr} {fs:List (Str×V)} (e:H a=some (.ins C dx fs)) (cl:Cls K C) (ha:PySem.W.findIn K (.ref C) "__class__" = some (some (.builtin "object.__class__")))
   (hn:PySem.W.specialIn K (.builtin "object.__class__") "__get__" = some (some (.builtin "getset_descriptor.__get__"))) (htk:PySem.W.takesIn K (.builtin "object.__class__")=some true)
   (hm:PySem.W.mroIn K C (.type "object")=some true):Zd2 K H (.ref a) (.ref C)
end
structure ZaC (k:Nat) (A:Around):Prop where
 hd:A.handled=none
 dp:A.depth+3*k+5<recursionLimit
 un:A.units+16*k+200<cLine
 gd:A.guards=some []
theorem ZaC.mono{j k:Nat}{A:Around}(r:ZaC k A)(h:j≤k):ZaC j A:=⟨r.hd,by have:=r.dp;omega,by have:=r.un;omega,r.gd⟩
theorem ZaC.deeper{k:Nat}{A:Around}(r:ZaC (k+1) A)(env:Env):ZaC k (A.deeper env) :=
 ⟨r.hd,by have:=r.dp;show A.depth+1+3*k+5<_;omega,by have:=r.un;show A.units+3+16*k+200<_;omega,r.gd⟩
theorem Zg8{A:Around}{C:Addr}{us:List Value}{kw:List (Str×Value)}:(A.under (.builtin "type.__call__" ⟨.ref C::us,kw⟩)).depth=A.depth+1:=by
 first|rfl|simp[Around.under,Code.weight,Code.isCreation,Code.isGuard,Code.isCaller,Code.frames,Code.isFrame,guardIds]
theorem Zhn{A:Around}{C:Addr}{us:List Value}{kw:List (Str×Value)}:(A.under (.builtin "type.__call__" ⟨.ref C::us,kw⟩)).units=A.units+1:=by
 first|rfl|simp[Around.under,Code.cUnits,Code.frames,Code.isFrame]
theorem ZaC.make{k:Nat}{A:Around}(r:ZaC (k+1) A)(C:Addr)(us:List Value)(kw:List (Str×Value)):ZaC k (A.under (.builtin "type.__call__" ⟨.ref C::us,kw⟩)) :=
 ⟨r.hd,by have:=r.dp;rw[Zg8];omega,by have:=r.un;rw[Zhn];omega,by rw[show (A.under (.builtin "type.__call__" ⟨.ref C::us,kw⟩)).guards=A.guards from by first|rfl|simp[Around.under,pushGuards,Code.guards,Code.isGuard,guardIds]];exact r.gd⟩
theorem ZaC.depth{k:Nat}{A:Around}(r:ZaC k A):A.depth<recursionLimit:=by have:=r.dp;omega
theorem ZaC.units{k:Nat}{A:Around}(r:ZaC k A):A.units+64<cLine:=by have:=r.un;omega
def Zms:TA:=fun _ H Q=>Q [] H
def Znv(ta:TE)(tr:TA):TA:=fun σ H Q=>ta σ H fun x H1=>tr σ H1 fun xs H2=>Q (x::xs) H2
section
variable {X:Cx} {e:Expr} {es:List Expr} {te:TE} {t:TA} {pos:Pos}
theorem Zf:PA X [] Zms:=fun _ _ _ _ H Q I h=>Calls.spliced_nil ⟨[],H,I,.nil,h⟩
theorem Za(ha:PE X e te)(hr:PA X es t)(hs:starEach (e::es) X.env=(false,eval e X.env)::starEach es X.env:=by rfl):PA X (e::es) (Znv te t):=by
 intro pos pins s σ H Q I h
 rw[hs]
 show wpAny _ _ (spliced ((false,eval e X.env)::backTo pos (starEach es X.env))) _ _ s
 refine Calls.spliced_cons (thn (ha pins s σ H _ I h) fun u s1 ⟨x,H1,I1,r1,q1⟩=>?_)
 exact thn (hr pos pins s1 σ H1 _ I1 q1) fun us s2 ⟨xs,H2,I2,r2,q2⟩=>⟨x::xs,H2,I2,.cons r1 r2,q2⟩
def ZnW(t:TA):TE:=fun σ H Q=>t σ H fun xs H1=>xs.length≤sizeLine∧∀p,H1 p=none→Q (.ref p) (upd H1 p (.tup xs))
def ZnS(t:TA):TE:=fun σ H Q=>t σ H fun xs H1=>xs.length≤sizeLine∧∀p,H1 p=none→Q (.ref p) (upd H1 p (.lst xs))
theorem Za9{x1}(h:PA X es t):PE X (.Tuple es x1 pos) (ZnW t):=by
 intro pins s σ H Q I hq
 refine wpAny_Tuple_spliced (thn (h pos pins s σ H _ I hq) fun us s1 ⟨xs,H1,I1,r,z,q⟩=>⟨by rw[← r.length];exact z,?_⟩)
 have hf:H1 s1.heap.objs.size=none:=I1.hok.fresh (Qd _)
 refine⟨.ref s1.heap.objs.size,upd H1 s1.heap.objs.size (.tup xs),I1.laid (t':=s1.toks) (fun b u e=>Qj _ e) (Qd _) ?_,rfl,q _ hf⟩
 exact⟨z,us,r,⟨_,QD _ rfl,rfl,_,rfl⟩⟩
theorem Zbz(h:PA X es t):PE X (.List es pos) (ZnS t):=by
 intro pins s σ H Q I hq
 refine wpAny_List_spliced (thn (h pos pins s σ H _ I hq) fun us s1 ⟨xs,H1,I1,r,z,q⟩=>⟨by rw[← r.length];exact z,?_⟩)
 have hf:H1 s1.heap.objs.size=none:=I1.hok.fresh (Qd _)
 refine⟨.ref s1.heap.objs.size,upd H1 s1.heap.objs.size (.lst xs),I1.laid (t':=s1.toks) (fun b u e=>Qj _ e) (Qd _) ?_,rfl,q _ hf⟩
 exact⟨z,us,0,r,QD _ rfl⟩
end
abbrev Sp:=List V→Hp→VK→XK→Prop
abbrev CXT:=List Env→Hp→Shared→XK→Value→Shared→Prop
structure Zhd (P:Program) (w:World) (K:PySem.W.Frag) (mg:Str→Option Value) (base:Heap) (A:Around) (outer:List Env) (s:Shared) (H:Hp):Prop where
 frames:A.frames=some outer
 mod:Mod K mg base
 bs:∀b o,base.get? b=some o→s.heap.get? b=some o∧H b=none
 bsz:base.objs.size≤s.heap.objs.size
 funs:s.heap.FunFrames base outer
 frf:∀b∈frs outer,H b=none
 hok:HOk P w H s.heap
 bare:AllBare s.gens
def CE(outer:List Env)(P:Program)(w:World)(H:Hp)(s:Shared)(Q:VK)(u:Value)(s':Shared):Prop :=
 ∃v H',s'.os=s.os∧AllBare s'.gens∧Un (frs outer) [] H H' s.heap s'.heap∧HOk P w H' s'.heap∧Zy v u∧Q v H'
def CR(CX:CXT)(outer:List Env)(P:Program)(w:World)(H:Hp)(s:Shared)(Q:VK)(E:XK)(r:Result)(s':Shared):Prop :=
 match r with
 | .ok (.ret u)=>CE outer P w H s Q u s'
 | .ok _=>False
 | .error e=>CX outer H s E e s'
structure Zc5 (P:Program) (w:World) (K:PySem.W.Frag) (mg:Str→Option Value) (base:Heap) (CX:CXT) (k:Nat) (f:Addr) (fd:FuncData) (ps:List Str) (sp:Sp):Prop where
 len:∀vs H Q E,sp vs H Q E→vs.length=ps.length
 run:∀ (A:Around) (outer:List Env) (s:Shared) (H:Hp) (args:Args) (us:List Value) (vs:List V) (Q:VK) (E:XK),ZaC k A→Zhd P w K mg base A outer s H→BindsTo s fd args (ps.zip us)→ZB vs us→sp vs H Q E →
  codeAny (model P w) A (.call (.ref f) args) (CR CX outer P w H s Q E) s
theorem Zhd.make{P:Program}{w:World}{K:PySem.W.Frag}{mg:Str→Option Value}{base:Heap}{A:Around}{outer:List Env}{s:Shared}{H:Hp}(e:Zhd P w K mg base A outer s H)(C:Addr)(us:List Value)(kw:List (Str×Value)) :
  Zhd P w K mg base (A.under (.builtin "type.__call__" ⟨.ref C::us,kw⟩)) outer s H:=⟨by first|exact e.frames|(simpa [Around.under,Code.envs,Code.isFrame,pushEnvs] using e.frames),e.mod,e.bs,e.bsz,e.funs,e.frf,e.hok,e.bare⟩
section
variable {X:Cx} {pins:List (Addr×Obj)} {σ:St} {H:Hp} {s s':Shared}
theorem Inv.env0(I:Inv X pins σ H s):Zhd X.prog X.w X.K X.mg X.base X.A X.stack s H :=
 ⟨I.ok.frames,I.ok.mod,I.bs,QC I.ok.bsz I.sz,I.stack,I.stkFree,I.hok,I.bare⟩
theorem Inv.after{Q:VK}{u:Value}(I:Inv X pins σ H s)(h:CE X.stack X.prog X.w H s Q u s'):EP X pins σ Q u s':=by
 obtain⟨v,H',os,bare,un,hok,r,q⟩:=h
 obtain⟨hh,g,d,t,os'⟩:=s'
 obtain rfl:os'=s.os:=os
 exact⟨v,H',I.call (h':=hh) (g':=g) (d':=d) (t':=t) (ch:=[]) un hok bare (fun b z=>absurd z (by simp)),r,q⟩
end
def ZlG(sp:Sp)(dvs:List V)(E:XK)(t:TA):TE:=fun σ H Q=>t σ H fun vs H1=>sp (vs++dvs) H1 Q E
def Zh7(C:Addr)(m:Str)(sp:Sp)(dvs:List V)(E:XK)(ta:TE)(t:TA):TE:=fun σ H Q=>ta σ H fun x H1=>∃a dx fs,x=.ref a∧H1 a=some (.ins C dx fs)∧fs.lookup m=none ∧
 t σ H1 fun vs H2=>sp (x::(vs++dvs)) H2 Q E
def ZlO(C:Addr)(sp:Sp)(dvs:List V)(E:XK)(t:TA):TE:=fun σ H Q=>t σ H fun vs H1=>∀x dx,H1 x=none→H1 dx=none→dx≠x →
 sp (.ref x::(vs++dvs)) (upd (upd H1 dx (.own x)) x (.ins C dx [])) (fun v H2=>v=.non∧Q (.ref x) H2) E
def Zbw(K:PySem.W.Frag)(fd:FuncData)(ps:List Str)(ds:List Value):Prop :=
 ∀ (s:Shared) (us:List Value),K.In s.heap→(us++ds).length=ps.length→BindsTo s fd ⟨us,[]⟩ (ps.zip (us++ds))
theorem Zbw.all{K:PySem.W.Frag}{fd:FuncData}{ps:List Str}(h:∀us:List Value,us.length=ps.length→bindArgs fd ⟨us,[]⟩=pure (ps.zip us)):Zbw K fd ps []:=fun s us _ hl=>by
 rw[List.append_nil]at hl ⊢
 exact .of_eq (h us hl)
def Zdo(CX:CXT)(X:Cx)(E:XK):Prop:=∀ (pins:List (Addr×Obj)) (σ:St) (H:Hp) (s:Shared) (e:Value) (s':Shared),Inv X pins σ H s→CX X.stack H s E e s'→X.xe e s'
section
variable {X:Cx} {CX:CXT} {k:Nat} {f C:Addr} {fd:FuncData} {ps:List Str} {sp:Sp} {dvs:List V} {ds:List Value} {E:XK} {x m:Str} {p pos apos:Pos} {e o:Expr} {es:List Expr} {ta:TE} {t:TA}
theorem Zhc{pins:List (Addr×Obj)}{σ:St}{H:Hp}{s:Shared}{Q:VK}{us:List Value}{vs:List V}(F:Zc5 X.prog X.w X.K X.mg X.base CX k f fd ps sp)(hr:ZaC k X.A)(hb:Zbw X.K fd ps ds)(hd:ZB dvs ds)(hx:Zdo CX X E)
  (I:Inv X pins σ H s) (r:ZB vs us) (h:sp (vs++dvs) H Q E):wpAny (model X.prog X.w) X.A (call (.ref f) us) (EP X pins σ Q) X.xe s:=by
 have r2:ZB (vs++dvs) (us++ds):=r.append hd
 have hl:(us++ds).length=ps.length:=by rw[← r2.length];exact F.len _ _ _ _ h
 refine wpAny_call (codeAny_mono (F.run X.A X.stack s H ⟨us,[]⟩ (us++ds) (vs++dvs) Q E hr I.env0 (hb s us I.kIn hl) r2 h) fun r s' hq=>?_)
 cases r with
 | error e=>exact hx pins σ H s e s' I hq
 | ok fl =>
  cases fl with
  | ret u=>exact I.after hq
  | next=>exact False.elim hq
  | brk=>exact False.elim hq
  | cont=>exact False.elim hq
theorem ZkA(F:Zc5 X.prog X.w X.K X.mg X.base CX k f fd ps sp)(hr:ZaC k X.A)(hg:Gl X x)(hm:X.mg x=some (.ref f))(hk:PySem.W.keepIn X.K (.ref f)=true)(hb:Zbw X.K fd ps ds)(hd:ZB dvs ds)(hx:Zdo CX X E)
  (ha:PA X (e::es) t) (hdb:(x == ("__debug__" : Str))=false:=by decide) (he:starEach (e::es) X.env=(false,eval e X.env)::starEach es X.env:=by rfl) (hpl:(backTo pos (starEach es X.env)).any (·.1)=false:=by rfl) :
  PE X (.Call (.Name x p) (e::es) [] pos) (ZlG sp dvs E t):=by
 intro pins s σ H Q I h
 refine wpAny_Call_Name_kw (Zf7 I hg hm ?_ hdb)
 refine PySem.W.callWith_K (h₀:=X.base) I.ok.mod.kin hk (thn (ha pos pins s σ H _ I h) fun us s1 ⟨vs,H1,I1,r,q⟩=>⟨I1.kIn,?_⟩) he hpl
 exact Zhc F hr hb hd hx I1 r q
theorem Zlp{pl:Sem Bool}(he:PE X o ta)(c:Cls X.K C)(hm:Zji X.K C m f)(F:Zc5 X.prog X.w X.K X.mg X.base CX k f fd ps sp)(hr:ZaC k X.A)(hb:Zbw X.K fd ps ds)(hd:ZB dvs ds)(hx:Zdo CX X E)(ha:PA X (e::es) t)
  (hst:starEach (e::es) X.env=(false,eval e X.env)::starEach es X.env:=by rfl) (hpl:(backTo pos (starEach es X.env)).any (·.1)=false:=by rfl)
  (ht:eval (.Call (.Attribute o m apos) (e::es) [] pos) X.env=(do
   let ov ← eval o X.env
   standAt apos.atName
   let (f,first) ← holding [ov] (getMethod ov m pl)
   callWith pos f first (backTo pos (starEach (e::es) X.env)) (backToKw pos (keywordEach [] X.env))):=by rfl) :
  PE X (.Call (.Attribute o m apos) (e::es) [] pos) (Zh7 C m sp dvs E ta t):=by
 intro pins s σ H Q I h
 refine PySem.W.methodCall_KW (pl:=pl) (thn (he pins s σ H _ I h) fun u s1 ⟨x,H1,I1,rx,a,dx,fs,ex,ea,l,q⟩=>?_) ht
 subst ex
 obtain rfl:u=Value.ref a:=rx
 refine ZeX I1 ea c hm l ?_
 refine PySem.W.callWith_K (first:=[.ref a]) (h₀:=X.base) I.ok.mod.kin hm.kp (thn (ha pos pins s1 σ H1 _ I1 q) fun us s2 ⟨vs,H2,I2,r,q2⟩=>⟨I2.kIn,?_⟩) hst hpl
 exact Zhc (us:=.ref a::us) (vs:=.ref a::vs) F hr hb hd hx I2 (.cons rfl r) q2
theorem Zkm{pl:Sem Bool}(he:PE X o ta)(c:Cls X.K C)(hm:Zji X.K C m f)(F:Zc5 X.prog X.w X.K X.mg X.base CX k f fd ps sp)(hr:ZaC k X.A)(hb:Zbw X.K fd ps ds)(hd:ZB dvs ds)(hx:Zdo CX X E)
  (ht:eval (.Call (.Attribute o m apos) [] [] pos) X.env=(do
   let ov ← eval o X.env
   standAt apos.atName
   let (f,first) ← holding [ov] (getMethod ov m pl)
   callWith pos f first (backTo pos (starEach [] X.env)) (backToKw pos (keywordEach [] X.env))):=by rfl) :
  PE X (.Call (.Attribute o m apos) [] [] pos) (Zh7 C m sp dvs E ta Zms):=by
 intro pins s σ H Q I h
 refine PySem.W.methodCall_KW (pl:=pl) (thn (he pins s σ H _ I h) fun u s1 ⟨x,H1,I1,rx,a,dx,fs,ex,ea,l,q⟩=>?_) ht
 subst ex
 obtain rfl:u=Value.ref a:=rx
 refine ZeX I1 ea c hm l ?_
 exact PySem.W.callWith_K0 (first:=[.ref a]) I1.kIn hm.kp (Zhc (us:=[.ref a]) (vs:=[.ref a]) F hr hb hd hx I1 (.cons rfl .nil) q)
structure Mk (K:PySem.W.Frag) (C f:Addr):Prop where
 makes:PySem.W.makesIn K C=true
 init:PySem.W.findIn K (.ref C) "__init__" = some (some (.ref f))
 fn:PySem.W.isFn K (.ref f)=true
 kp:PySem.W.keepIn K (.ref C)=true
theorem Zj4{pins:List (Addr×Obj)}{σ:St}{H:Hp}{s:Shared}{Q:VK}{us:List Value}{vs:List V}(M:Mk X.K C f)(F:Zc5 X.prog X.w X.K X.mg X.base CX k f fd ps sp)(hr:ZaC (k+1) X.A)(hb:Zbw X.K fd ps ds)(hd:ZB dvs ds)
  (hx:Zdo CX X E) (I:Inv X pins σ H s) (r:ZB vs us)
  (h:∀x dx,H x=none→H dx=none→dx≠x→sp (.ref x::(vs++dvs)) (upd (upd H dx (.own x)) x (.ins C dx [])) (fun v H2=>v=.non∧Q (.ref x) H2) E) :
  wpAny (model X.prog X.w) X.A (call (.ref C) us) (EP X pins σ Q) X.xe s:=by
 have hq:=h (s.heap.objs.size+1) s.heap.objs.size (I.hok.fresh (Nat.le_succ _)) (I.hok.fresh (Qd _)) (QB (Nat.lt_succ_self _))
 have I2:=Inv.made (C:=C) I
 have r2:ZB (V.ref (s.heap.objs.size+1)::(vs++dvs)) (Value.ref (s.heap.objs.size+1)::(us++ds)):=.cons rfl (r.append hd)
 have hl:(Value.ref (s.heap.objs.size+1)::us++ds).length=ps.length:=by
  have e:=r2.length
  rw[F.len _ _ _ _ hq]at e
  exact e.symm
 refine wpAny_call (ZjP (f:=f) I.kIn M.makes M.init (beq_iff_eq.mp M.fn) (codeAny_mono (F.run _ X.stack _ _ ⟨Value.ref (s.heap.objs.size+1)::us,[]⟩ (Value.ref (s.heap.objs.size+1)::(us++ds)) _ _ E (hr.make C us [])
  (I2.env0.make C us []) (hb _ (Value.ref (s.heap.objs.size+1)::us) I2.kIn hl) r2 hq) fun r s' hq'=>?_))
 cases r with
 | error e=>exact hx pins σ _ _ e s' I2 hq'
 | ok fl =>
  cases fl with
  | ret u =>
   obtain⟨v,H',I3,rv,ev,q3⟩:=I2.after hq'
   subst ev
   exact⟨rv,⟨V.ref (s.heap.objs.size+1),H',I3,rfl,q3⟩⟩
  | next=>exact False.elim hq'
  | brk=>exact False.elim hq'
  | cont=>exact False.elim hq'
theorem Zlh(M:Mk X.K C f)(F:Zc5 X.prog X.w X.K X.mg X.base CX k f fd ps sp)(hr:ZaC (k+1) X.A)(hg:Gl X x)(hm:X.mg x=some (.ref C))(hb:Zbw X.K fd ps ds)(hd:ZB dvs ds)(hx:Zdo CX X E)
  (ha:PA X (e::es) t) (hdb:(x == ("__debug__" : Str))=false:=by decide) (he:starEach (e::es) X.env=(false,eval e X.env)::starEach es X.env:=by rfl) (hpl:(backTo pos (starEach es X.env)).any (·.1)=false:=by rfl) :
  PE X (.Call (.Name x p) (e::es) [] pos) (ZlO C sp dvs E t):=by
 intro pins s σ H Q I h
 refine wpAny_Call_Name_kw (Zf7 I hg hm ?_ hdb)
 refine PySem.W.callWith_K (h₀:=X.base) I.ok.mod.kin M.kp (thn (ha pos pins s σ H _ I h) fun us s1 ⟨vs,H1,I1,r,q⟩=>⟨I1.kIn,?_⟩) he hpl
 exact Zj4 M F hr hb hd hx I1 r q
end
def PK(X:Cx)(kws:List Keyword)(t:TA):Prop :=
 ∀ (pos:Pos) (pins:List (Addr×Obj)) (s:Shared) (σ:St) (H:Hp) (Q:List V→Hp→Prop),Inv X pins σ H s→t σ H Q→wpAny (model X.prog X.w) X.A (evalAll ((backToKw pos (keywordEach kws X.env)).map (·.2))) (AP X pins σ Q) X.xe s
section
variable {X:Cx} {CX:CXT} {k:Nat} {f C:Addr} {fd:FuncData} {ps ks:List Str} {sp:Sp} {E:XK} {x m:Str} {p pos apos kpos:Pos} {e o:Expr} {es:List Expr} {kws:List Keyword} {te ta:TE} {t tk:TA} {nm:Option Str}
structure KBinds (K:PySem.W.Frag) (fd:FuncData) (ps ks:List Str) (g:List Value→List Value→List Value) (gV:List V→List V→List V):Prop where
 to:∀ (s:Shared) (us ws:List Value),K.In s.heap→(g us ws).length=ps.length→BindsTo s fd ⟨us,ks.zip ws⟩ (ps.zip (g us ws))
 rel:∀ {vs:List V} {us:List Value} {zs:List V} {ws:List Value},ZB vs us→ZB zs ws→ZB (gV vs zs) (g us ws)
def tCallK(sp:Sp)(gV:List V→List V→List V)(E:XK)(t tk:TA):TE:=fun σ H Q=>t σ H fun vs H1=>tk σ H1 fun zs H2=>sp (gV vs zs) H2 Q E
variable {g:List Value→List Value→List Value} {gV:List V→List V→List V}
end
structure Zq (N P:List Str) (sc:Scope):Prop where
 kind:sc.kind=.function
 co:sc.isCoroutine=false
 gen:sc.isGenerator=false
 nd:N.Nodup
 pre:N.take P.length=P
 par:∀x∈P,sc.names.lookup x=some .local∨sc.names.lookup x=some .cell
 nofree:∀y∈sc.names,y.2≠.free
theorem Zfk{kindOf:Str→Option NameKind}{x:Str}:∀ {binds:List (Str×Value)} {m:Str→Option Value},(∀v,(x,v) ∉ binds)→bindL kindOf binds m x=m x
 | [],_,_=>rfl
 | (n,v)::r,m,h=>by
  unfold bindL
  rw[Zfk fun w hw=>h w (Qw _ hw)]
  split
  ·have:x≠n:=by rintro rfl;exact h v QX
   simp[this]
  ·rfl
theorem ZfI{kindOf:Str→Option NameKind}{x:Str}:∀ {binds:List (Str×Value)} {m:Str→Option Value},(∀v,(x,v) ∉ binds)→bindC kindOf binds m x=m x
 | [],_,_=>rfl
 | (n,v)::r,m,h=>by
  unfold bindC
  rw[ZfI fun w hw=>h w (Qw _ hw)]
  split
  ·rfl
  ·have:x≠n:=by rintro rfl;exact h v QX
   simp[this]
theorem ZfF{kindOf:Str→Option NameKind}{x:Str}{v:Value}:∀ {P:List Str} {vs:List Value} {i:Nat} {m:Str→Option Value},P.Nodup→P[i]? = some x→vs[i]? = some v→kindOf x=some .local →
  bindL kindOf (P.zip vs) m x=some v
 | [],_,_,_,_,h,_,_=>by simp at h
 | _::_,[],_,_,_,_,h,_=>by simp at h
 | p::P,w::vs,0,m,nd,h1,h2,hk=>by
  simp at h1 h2;subst h1;subst h2
  show bindL kindOf ((p,w)::P.zip vs) m p=_
  unfold bindL
  rw[Zfk fun v hv=>(QP.mp nd).1 (List.of_mem_zip hv).1,if_pos hk]
  simp
 | p::P,w::vs,i+1,m,nd,h1,h2,hk=>by
  show bindL kindOf ((p,w)::P.zip vs) m x=_
  unfold bindL
  exact ZfF (i:=i) (QP.mp nd).2 (by simpa using h1) (by simpa using h2) hk
theorem Zfg{kindOf:Str→Option NameKind}{x:Str}{v:Value}:∀ {P:List Str} {vs:List Value} {i:Nat} {m:Str→Option Value},P.Nodup→P[i]? = some x→vs[i]? = some v→kindOf x≠some .local →
  bindC kindOf (P.zip vs) m x=some v
 | [],_,_,_,_,h,_,_=>by simp at h
 | _::_,[],_,_,_,_,h,_=>by simp at h
 | p::P,w::vs,0,m,nd,h1,h2,hk=>by
  simp at h1 h2;subst h1;subst h2
  show bindC kindOf ((p,w)::P.zip vs) m p=_
  unfold bindC
  rw[ZfI fun v hv=>(QP.mp nd).1 (List.of_mem_zip hv).1,if_neg hk]
  simp
 | p::P,w::vs,i+1,m,nd,h1,h2,hk=>by
  show bindC kindOf ((p,w)::P.zip vs) m x=_
  unfold bindC
  exact Zfg (i:=i) (QP.mp nd).2 (by simpa using h1) (by simpa using h2) hk
def ZcI(N:List Str)(vs:List V):St:=vs.map some++List.replicate (N.length-vs.length) none
def Zf8(CX:CXT)(P:Program)(w:World)(K:PySem.W.Frag)(mg:Str→Option Value)(base:Heap)(N:List Str)(qual:Str)(scope:Scope)(f:Addr)(cd:Value)(A:Around)(outer:List Env)(s:Shared)(H:Hp)(E:XK):Cx where
 prog:=P
 w:=w
 K:=K
 mg:=mg
 base:=base
 A:=A.deeper (envOfC qual scope s.heap.objs.size f cd)
 N:=N
 s₀:=s
 H₀:=H
 env:=envOfC qual scope s.heap.objs.size f cd
 outer:=outer
 stack:=envOfC qual scope s.heap.objs.size f cd::outer
 ex:=[]
 calm:=true
 fn:=fun _=>true
 pn:=[]
 xe:=fun e s'=>wpAny (model P w) (A.deeper (envOfC qual scope s.heap.objs.size f cd)) (leaving (envOfC qual scope s.heap.objs.size f cd) e) (fun _ s''=>CX outer H s E e s'') (fun e' s''=>CX outer H s E e' s'') s'
theorem ZgA{sc:Scope}{n:Nat}{x:Str}(h:sc.names.lookup x=some .cell):∃c,(cellsFrom n sc.names []).lookup x=some c:=by
 have q:=PySem.W.cellsFrom_some sc.names n [] (.inl h)
 exact Option.isSome_iff_exists.mp q
theorem Zip{CX:CXT}{P:Program}{w:World}{K:PySem.W.Frag}{mg:Str→Option Value}{base:Heap}{N ps:List Str}{qual:Str}{scope:Scope}{f:Addr}{cd:Value}{A:Around}{outer:List Env}{s s1:Shared}{H:Hp}{E:XK}{us:List Value}{vs:List V}
  (S:Zq N ps scope) (hd:A.handled=none) (e0:Zhd P w K mg base A outer s H) (hl:vs.length=ps.length) (r:ZB vs us)
  (x:InCallC s s.heap.objs.size (bindL (envOfC qual scope s.heap.objs.size f cd).kindOf (ps.zip us) fun _=>none) (cellsFrom (s.heap.objs.size+1) scope.names []) (bindC (envOfC qual scope s.heap.objs.size f cd).kindOf (ps.zip us) fun _=>none) s1) :
  Inv (Zf8 CX P w K mg base N qual scope f cd A outer s H E) [] (ZcI N vs) H s1:=by
 have hpl:ps.length≤N.length:=by have:=congrArg List.length S.pre;rw[Qx]at this;omega
 obtain⟨h1,tk,rfl,hk⟩:=x.done
 have noA:∀b:Addr,b ∉ (Zf8 CX P w K mg base N qual scope f cd A outer s H E).ex:=fun b z=>absurd (show b∈([]:List Addr) from z) (by simp)
 refine⟨⟨e0.mod,S.kind,rfl,rfl,Qd _,fun y z c h1 h2=>?_,fun y hy=>?_,fun y c _ h=>?_,fun _=>hd,Around.frames_deeper e0.frames,.inr ⟨rfl,rfl⟩,fun b z=>absurd z (noA b),e0.bs,e0.bsz,fun b _ _=>noA b,fun b z=>absurd z (noA b),e0.funs,e0.frf⟩,
  rfl,e0.bare,Un.kept hk,⟨_,x.toInCall.ns,fun i y v h1 h2 h3=>?_⟩,fun y c h=>⟨_,x.cell y c h⟩,e0.hok.fresh (Qd _),fun y c h=>?_,fun p hp=>absurd (show p∈([]:List (Addr×Obj)) from hp) (by simp),e0.hok.kept hk,?_⟩
 ·exact name_of_addr x.apart (QT h1) (QT h2)
 ·have hy:scope.names.lookup y=some .cell∨scope.names.lookup y=some .free:=hy
  rcases hy with hy|hy
  ·exact ZgA hy
  ·exact absurd rfl (S.nofree _ (QT hy))
 ·exact Nat.le_of_lt (x.above y c (QT h))
 ·have hi:i<vs.length:=by
   unfold ZcI at h2
   by_cases hi:i<vs.length
   ·exact hi
   ·rw[QM (by simpa using hi)]at h2
    rw[List.getElem?_replicate]at h2
    split at h2<;>cases h2
  have ha:vs[i]? = some v:=by
   unfold ZcI at h2
   rw[QR (by simpa using hi),Qp]at h2
   cases e:vs[i]? with
   | none=>rw[e]at h2;cases h2
   | some a=>rw[e]at h2;cases h2;rfl
  obtain⟨u,hu,rv⟩:=r.get ha
  have hp:ps[i]? = some y:=by
   rw[← S.pre,List.getElem?_take_of_lt (by omega)];exact h1
  have ndP:ps.Nodup:=by rw[← S.pre];exact S.nd.sublist (List.take_sublist _ _)
  refine⟨u,rv,?_⟩
  rcases S.par y (Qy hp) with k|k
  ·exact .inl ⟨k,ZfF ndP hp hu k⟩
  ·obtain⟨c,e⟩:=ZgA (n:=s.heap.objs.size+1) k
   refine .inr ⟨.inl k,c,e,?_⟩
   have q:=x.cell y c e
   rw[Zfg ndP hp hu (by show scope.names.lookup y≠_;rw[k];decide)]at q
   exact q
 ·exact e0.hok.fresh (Nat.le_of_lt (x.above y c (QT h)))
 ·unfold ZcI
  show _=N.length
  rw[Qo,Qa,List.length_replicate]
  omega
theorem ZnM{CX:CXT}{P:Program}{w:World}{K:PySem.W.Frag}{mg:Str→Option Value}{base:Heap}{k:Nat}{f:Addr}{name qual:Str}{params:Arguments}{body:List Stmt}{scope:Scope}{dV kV doc pm cdv ct oc:Value}{an od:Option Addr}
  {osl:Array (Option Value)} {N ps:List Str} {sp:Sp} (lk:K.lookup f=some ⟨oc,od,.func (PySem.W.fnOf name qual params body scope dV kV doc pm an cdv ct),osl⟩) (hcd:PySem.W.codeIn K cdv qual=true) (S:Zq N ps scope)
  (len:∀vs H Q E,sp vs H Q E→vs.length=ps.length)
  (hbody:∀ (A:Around) (outer:List Env) (s:Shared) (H:Hp) (vs:List V) (Q:VK) (E:XK),ZaC k (A.deeper (envOfC qual scope s.heap.objs.size f cdv))→sp vs H Q E →
   ∃t,PSs (Zf8 CX P w K mg base N qual scope f cdv A outer s H E) body t∧t { nx:=fun _ H'=>Q .non H',rt:=Q } (ZcI N vs) H) :
  Zc5 P w K mg base CX (k+1) f (PySem.W.fnOf name qual params body scope dV kV doc pm an cdv ct) ps sp:=by
 refine⟨len,fun A outer s H args us vs Q E hr e0 hb r hsp=>?_⟩
 have hl:=len _ _ _ _ hsp
 have KX:K.In s.heap:=e0.mod.kin.keeps fun b o e=>(e0.bs b o e).1
 have lim:s.heap.NoLimit:=e0.mod.nolimit.keeps fun b o e=>(e0.bs b o e).1
 have hkind:∀y∈ps.zip us,scope.names.lookup y.1=some .local∨(scope.names.lookup y.1=some .cell∧((cellsFrom (s.heap.objs.size+1) scope.names []).lookup y.1).isSome=true):=fun ⟨n,v⟩ hy=>by
  rcases S.par n (List.of_mem_zip hy).1 with q|q
  ·exact .inl q
  ·exact .inr ⟨q,PySem.W.cellsFrom_some _ _ _ (.inl q)⟩
 refine codeAny_call_function hr.depth (KX _ _ lk) rfl S.co S.gen rfl (PySem.W.codeRec_of KX hcd) (hb _ _ _ _ ?_)
 refine wpAny_newFunctionEnv_cells S.kind hkind fun env he s1 x=>?_
 subst he
 refine⟨lim.keeps x.toInCall.keep,codeAny_func ?_⟩
 obtain⟨t,ht,hq⟩:=hbody A outer s H vs Q E (hr.deeper _) hsp
 have I:Inv (Zf8 CX P w K mg base N qual scope f cdv A outer s H E) [] (ZcI N vs) H s1:=Zip S hr.hd e0 hl r x
 refine wpAny_mono (ht [] s1 (ZcI N vs) H _ I hq) (fun fl s' hs=>?_) fun e s' hs=>hs
 have fin:∀ {σ':St} {H':Hp} {v:V} {u:Value},Inv (Zf8 CX P w K mg base N qual scope f cdv A outer s H E) [] σ' H' s'→Zy v u→Q v H'→CE outer P w H s Q u s' :=
  fun {σ' H' v u} J rv q=>⟨v,H',J.os,J.bare,J.base,J.hok,rv,q⟩
 cases fl with
 | ret u =>
  obtain⟨v,σ',H',J,rv,q⟩:=hs
  exact fin J rv q
 | next =>
  obtain⟨σ',H',J,q⟩:=hs
  exact fin (v:=V.non) (u:=Value.none) J rfl q
 | brk =>
  obtain⟨_,_,_,q⟩:=hs
  exact False.elim q
 | cont =>
  obtain⟨_,_,_,q⟩:=hs
  exact False.elim q
section
variable {X:Cx} {x:Str} {p pos:Pos} {e:Expr} {es:List Expr} {t:TA} {id T:String} {r:List V→Hp→VK→Prop}
def tCB(r:List V→Hp→VK→Prop)(t:TA):TE:=fun σ H Q=>t σ H fun vs H1=>r vs H1 Q
theorem Zw(hc:Za1 X (.builtin id) r)(hg:Gl X x)(hm:X.mg x=none)(hv:bootBuiltins x=some (.builtin id))(ha:PA X (e::es) t)(hn:x ≠ "__name__":=by decide)(hdb:(x == ("__debug__" : Str))=false:=by decide)
  (he:starEach (e::es) X.env=(false,eval e X.env)::starEach es X.env:=by rfl) (hpl:(backTo pos (starEach es X.env)).any (·.1)=false:=by rfl):PE X (.Call (.Name x p) (e::es) [] pos) (tCB r t):=by
 intro pins s σ H Q I h
 refine wpAny_Call_Name_kw (Zer I hg hm hv ?_ hn hdb)
 exact PyProof.Rows.callWith_builtin1 (thn (ha pos pins s σ H _ I h) fun us s1 ⟨vs,H1,I1,r1,q1⟩=>hc pins s1 σ H1 vs us Q I1 r1 q1) he hpl
theorem Zc1(hc:Za1 X (.type T) r)(hg:Gl X x)(hm:X.mg x=none)(hv:bootBuiltins x=some (.type T))(ha:PA X (e::es) t)(hn:x ≠ "__name__":=by decide)(hdb:(x == ("__debug__" : Str))=false:=by decide)
  (he:starEach (e::es) X.env=(false,eval e X.env)::starEach es X.env:=by rfl) (hpl:(backTo pos (starEach es X.env)).any (·.1)=false:=by rfl):PE X (.Call (.Name x p) (e::es) [] pos) (tCB r t):=by
 intro pins s σ H Q I h
 refine wpAny_Call_Name_kw (Zer I hg hm hv ?_ hn hdb)
 exact QU (thn (ha pos pins s σ H _ I h) fun us s1 ⟨vs,H1,I1,r1,q1⟩=>hc pins s1 σ H1 vs us Q I1 r1 q1) he hpl
end
end L2
namespace HT
open PySem PyProof.Rows
def lexLt:List Int→List Int→Bool
 | [],[]=>false
 | [],_::_=>true
 | _::_,[]=>false
 | x::xs,y::ys=>if x=y then lexLt xs ys else decide (x<y)
theorem Zmr(x y:Int)(xs ys:List Int):lexLt (x::xs) (y::ys)=if x=y then lexLt xs ys else decide (x<y):=rfl
theorem Zku:lexLt [] []=false:=rfl
theorem Zkj(y:Int)(ys:List Int):lexLt [] (y::ys)=true:=rfl
theorem Zje(x:Int)(xs:List Int):lexLt (x::xs) []=false:=rfl
section
open PySem.SeqAt
open PySem.AutoSeq1 (wpAny_loadPart')
open PySem.MeetsSeq PySem.MeetsSeq2 PySem.MeetsSeq3
end
section
variable {prog:Program} {w:World} {A:Around} {E:Value→Shared→Prop} {s:Shared}
def sIx(n d:Nat):Option Int→Nat
 | none=>d
 | some v=>if v<0 then (v+(n:Int)).toNat else min v.toNat n
theorem Zm8(n d:Nat):sIx n d none=d:=rfl
theorem Zmj(n d:Nat)(hd:d≤n)(o:Option Int):sIx n d o≤n:=by
 cases o with
 | none=>exact hd
 | some v =>
  show (if v<0 then (v+(n:Int)).toNat else min v.toNat n)≤n
  by_cases hv:v<0
  ·rw[if_pos hv];omega
  ·rw[if_neg hv];exact Nat.min_le_right _ _
theorem ZhP(v:Int)(n d:Nat):(if v<0 then max (v+(n:Int)) 0 else min v (n:Int))=((sIx n d (some v):Nat):Int):=by
 show (if v<0 then max (v+(n:Int)) 0 else min v (n:Int))=(((if v<0 then (v+(n:Int)).toNat else min v.toNat n):Nat):Int)
 by_cases hv:v<0
 ·simp only[if_pos hv];omega
 ·simp only[if_neg hv];omega
theorem Zhi(lo hi:Option Int)(n:Nat):Builtin.Slice.sliceAdjust lo hi 1 (n:Int)=(((sIx n 0 lo:Nat):Int),((sIx n n hi:Nat):Int)):=by
 have h1:¬ ((1:Int)<0):=by omega
 unfold Builtin.Slice.sliceAdjust
 simp only[h1,if_false]
 refine Prod.ext ?_ ?_
 ·cases lo with
  | none=>rfl
  | some v=>exact ZhP v n 0
 ·cases hi with
  | none=>rfl
  | some v=>exact ZhP v n n
theorem Zhe(i j:Nat):Builtin.Slice.slicePlaces (i:Int) (j:Int) 1=j-i:=by
 unfold Builtin.Slice.slicePlaces
 have h1:(1:Int)>0:=by omega
 simp only[h1,if_true,Int.ediv_one]
 split<;>omega
theorem Zey{v:Value}{o:Option Int}{Q:Option Int→Shared→Prop}(p:IsPart v o)(h:Q o s):wpAny (model prog w) A (Builtin.Slice.slicePartIndex v) Q E s:=by
 cases p with
 | none=>exact slicePart_none h
 | int i t=>exact slicePart_int h
theorem ZdT{sl:Addr}{vl vu:Value}{lo hi:Option Int}{n:Nat}{Q:Int×Int×Nat→Shared→Prop}(hs:s.heap.IsSliceOf sl vl vu .none)(pl:IsPart vl lo)(pu:IsPart vu hi)
  (h:Q (((sIx n 0 lo:Nat):Int),1,sIx n n hi-sIx n 0 lo) s):wpAny (model prog w) A (Builtin.Slice.sliceApplied (.ref sl) (pure (n:Int))) Q E s:=by
 obtain⟨os,hos,hcs,hds⟩:=id hs
 unfold Builtin.Slice.sliceApplied Builtin.Slice.sliceFields
 refine wpAny_bind (wpAny_bind (wpAny_field hos hds (x:=vl) rfl (wpAny_bind (wpAny_field hos hds (x:=vu) rfl (wpAny_bind (wpAny_field hos hds (x:=.none) rfl (wpAny_pure ?_)))))))
 refine wpAny_bind (slicePart_none ?_)
 show wpAny _ _ (if ((1:Int) == 0)=true then _ else _) _ _ s
 rw[if_neg (by decide)]
 refine wpAny_bind (Zey pl (wpAny_bind (Zey pu (wpAny_bind (wpAny_pure ?_)))))
 show wpAny _ _ (match Builtin.Slice.sliceAdjust lo hi 1 (n:Int) with|(lo,hi)=>pure (lo,(1:Int),Builtin.Slice.slicePlaces lo hi 1)) _ _ s
 rw[Zhi lo hi n]
 show wpAny _ _ (pure (((sIx n 0 lo:Nat):Int),(1:Int),Builtin.Slice.slicePlaces ((sIx n 0 lo:Nat):Int) ((sIx n n hi:Nat):Int) 1)) _ _ s
 rw[Zhe]
 exact wpAny_pure h
theorem Zj3(xs:Array Value)(i k:Nat):((List.range k).filterMap fun (m:Nat)=>xs[((i:Int)+(m:Int)*1).toNat]?).toArray=((xs.toList.drop i).take k).toArray:=by
 have e:(fun (m:Nat)=>xs[((i:Int)+(m:Int)*1).toNat]?)=fun m=>xs[i+m]?:=by
  funext m
  have:((i:Int)+(m:Int)*1).toNat=i+m:=by omega
  rw[this]
 rw[e]
 have:=pick_run xs i k
 rw[List.filterMap_map]at this
 have e2:((fun x=>xs[x]?) ∘ fun x=>i+x)=fun m=>xs[i+m]?:=rfl
 rw[e2]at this
 rw[this]
theorem getItem_tuple_cut{t sl:Addr}{items:Array Value}{vl vu:Value}{lo hi:Option Int}{Q:Value→Shared→Prop}(ht:IsTup s.heap t items)(hs:s.heap.IsSliceOf sl vl vu .none)(pl:IsPart vl lo)(pu:IsPart vu hi)
  (hw:¬ (sIx items.size 0 lo=0∧sIx items.size items.size hi=items.size))
  (h:Q (.ref s.heap.objs.size) { s with heap:=s.heap.push { cls:=.type "tuple",data:=.seq ((items.toList.drop (sIx items.size 0 lo)).take (sIx items.size items.size hi-sIx items.size 0 lo)).toArray } })
  (hsz:items.size≤sizeLine):wpAny (model prog w) A (getItem (.ref t) (.ref sl)) Q E s:=by
 have htake:sizeOk (.seq ((items.toList.drop (sIx items.size 0 lo)).take (sIx items.size items.size hi-sIx items.size 0 lo)).toArray):=by
  show ((items.toList.drop (sIx items.size 0 lo)).take (sIx items.size items.size hi-sIx items.size 0 lo)).toArray.size≤sizeLine
  rw[Qz,Qx,QL,Array.length_toList]
  omega
 have hj:sIx items.size items.size hi≤items.size:=Zmj _ _ (Qd _) hi
 obtain⟨os,hos,hcs,hds⟩:=id hs
 have hTs:s.TypeIs (.ref sl) "slice":=⟨os,hos,hcs⟩
 unfold getItem
 try with_reducible refine wpAny_holding ?_
 first|refine wpAny_bind (wpAny_pure ?_)|skip
 refine wpAny_bind (wpAny_sequenceKey ht.typeIs (by decide) ?_)
 refine wpAny_bind (wpAny_callSpecial?_slot (name:=Str.ofString "__getitem__") ht.typeIs PyProof.Rows.slot_tuple_getitem
  (wpAny_call_entry PyProof.Rows.slot_tuple_getitem ht.typeIs entry_tuple_getitem ?_ (args_tuple_getitem _ _)))
 show wpAny _ _ (Builtin.Tuple.tupleItemsOf (.ref t) >>= _) _ _ s
 refine wpAny_bind (tupleItemsOf_ ht ?_)
 refine wpAny_bind (wpAny_typeOf hTs ?_)
 rw[if_pos (by decide)]
 refine wpAny_bind (ZdT hs pl pu ?_)
 have hno:¬ ((((sIx items.size 0 lo:Nat):Int) == 0&&(1:Int) == 1&&(sIx items.size items.size hi-sIx items.size 0 lo) == items.size)=true):=by
  intro q
  rw[QV,QV]at q
  have q1:((sIx items.size 0 lo:Nat):Int)=0:=eq_of_beq q.1.1
  have q2:sIx items.size items.size hi-sIx items.size 0 lo=items.size:=eq_of_beq q.2
  exact hw ⟨by omega,by omega⟩
 show wpAny _ _ (if (((sIx items.size 0 lo:Nat):Int) == 0&&(1:Int) == 1&&(sIx items.size items.size hi-sIx items.size 0 lo) == items.size)=true then _ else _) _ _ s
 rw[if_neg hno,Zj3]
 first
  | exact wpAny_bind (m:=Builtin.Tuple.tupleExact _) (wpAny_newObj_type (wpAny_pure ⟨_,rfl,wpAny_pure h⟩) htake)
  | exact wpAny_bind (m:=Builtin.Tuple.tupleExact _) (wpAny_newObj_type (wpAny_bind (wpAny_pure (wpAny_pure ⟨_,rfl,wpAny_pure h⟩))) htake)
  | exact wpAny_bind (wpAny_bind (m:=Builtin.Tuple.tupleExact _) (wpAny_newObj_type (wpAny_pure (wpAny_pure ⟨_,rfl,wpAny_pure h⟩)) htake))
  | exact wpAny_bind (wpAny_bind (m:=Builtin.Tuple.tupleExact _) (wpAny_newObj_type (wpAny_pure ⟨_,rfl,wpAny_pure h⟩) htake))
end
end HT
namespace L2
open PySem PySem.Spec PyProof.Rows
abbrev TO:=St→Hp→(Option Int→Hp→Prop)→Prop
def PO(X:Cx)(e:Option Expr)(t:TO):Prop :=
 ∀ (pins:List (Addr×Obj)) (s:Shared) (σ:St) (H:Hp) (Q:Option Int→Hp→Prop),Inv X pins σ H s→t σ H Q →
  wpAny (model X.prog X.w) X.A (evalPart e X.env) (fun u s'=>∃o H',Inv X pins σ H' s'∧IsPart u o∧Q o H') X.xe s
def ZkB:TO:=fun _ H Q=>Q none H
def ZnJ(t:TE):TO:=fun σ H Q=>t σ H fun x H1=>∃i,x=.int i∧Q (some i) H1
theorem Zhg{ns:List Int}:∀ {us:List Value},ZB (ns.map V.int) us→IntsAre us ns:=by
 induction ns with
 | nil=>intro us r;rw[List.map_nil]at r;cases r;exact .nil
 | cons n ns ih =>
  intro us r
  rw[Qg]at r
  cases r with
  | cons r1 r2 =>
   obtain⟨t,e⟩:=r1
   subst e
   exact .cons n t (ih r2)
section
variable {X:Cx} {e:Expr} {te:TE} {lo hi:Option Expr} {tl th:TO} {pos p2:Pos}
theorem ZfV:PO X none ZkB:=by
 intro pins s σ H Q I h
 rw[evalPart_none]
 exact wpAny_pure ⟨none,H,I,.none,h⟩
theorem ZfY(h:PE X e te):PO X (some e) (ZnJ te):=by
 intro pins s σ H Q I hw
 rw[evalPart_some]
 refine thn (h pins s σ H _ I hw) fun u s1 ⟨x,H1,I1,r1,q1⟩=>?_
 obtain⟨i,rfl,q⟩:=q1
 obtain⟨t,rfl⟩:=r1
 exact⟨some i,H1,I1,.int i t,q⟩
def SlR(X:Cx)(r:V→Option Int→Option Int→Hp→VK→Prop):Prop :=
 ∀ (pins:List (Addr×Obj)) (s:Shared) (σ:St) (H:Hp) (x:V) (v vl vu:Value) (lo hi:Option Int) (sl:Addr) (Q:VK),Inv X pins σ H s→Zy x v→s.heap.IsSliceOf sl vl vu .none→IsPart vl lo→IsPart vu hi→r x lo hi H Q →
  ∃T id,typeLookup (.type T) "__getitem__" = pure (some (.builtin id))∧s.TypeIs v T∧wpAny (model X.prog X.w) X.A (getItem v (.ref sl)) (EP X pins σ Q) X.xe s
def tSl(r:V→Option Int→Option Int→Hp→VK→Prop)(te:TE)(tl th:TO):TE:=fun σ H Q=>te σ H fun x H1=>tl σ H1 fun l H2=>th σ H2 fun u H3=>r x l u H3 Q
theorem Zeo{r:V→Option Int→Option Int→Hp→VK→Prop}(hr:SlR X r)(he:PE X e te)(hl:PO X lo tl)(hu:PO X hi th):PE X (.Subscript e (.Slice lo hi none p2) pos) (tSl r te tl th):=by
 intro pins s σ H Q I h
 refine Subscript_ (thn (he pins s σ H _ I h) fun v s1 ⟨x,H1,I1,r1,q1⟩=>?_)
 refine wpAny_Slice (thn (hl pins s1 σ H1 _ I1 q1) fun vl s2 ⟨l,H2,I2,pl,q2⟩=>thn (hu pins s2 σ H2 _ I2 q2) fun vu s3 ⟨u,H3,I3,pu,q3⟩=>?_)
 rw[evalPart_none]
 refine wpAny_pure ?_
 have I4:Inv X pins σ H3 { s3 with heap:=s3.heap.push { cls:=.type "slice",data:=.fields #[vl,vu,.none] } }:=I3.kept (t':=s3.toks) fun b ob q=>Qj _ q
 obtain⟨T,id,hT,ht,hg⟩:=hr pins { s3 with heap:=s3.heap.push { cls:=.type "slice",data:=.fields #[vl,vu,.none] } } σ H3 x v vl vu l u s3.heap.objs.size Q I4 r1 (Heap.IsSliceOf.new ..) pl pu q3
 show wpAny (model X.prog X.w) X.A (subscriptTail e (.Slice lo hi none p2) v (.ref s3.heap.objs.size)) (EP X pins σ Q) X.xe { s3 with heap:=s3.heap.push { cls:=.type "slice",data:=.fields #[vl,vu,.none] } }
 exact tail_any (ops:=[.ref s3.heap.objs.size,v]) ht hT hg (by with_unfolding_all rfl)
def Ze6(xs:List V)(lo hi:Option Int):List V:=(xs.drop (HT.sIx xs.length 0 lo)).take (HT.sIx xs.length xs.length hi-HT.sIx xs.length 0 lo)
theorem Zee(xs:List V)(lo hi:Option Int):(Ze6 xs lo hi).length≤xs.length:=by
 unfold Ze6
 rw[Qx,QL]
 omega
def ZnC(K:PySem.W.Frag):V→Option Int→Option Int→Hp→VK→Prop:=fun x lo hi H Q=>∃a xs,x=.ref a∧SqT K H a xs ∧
 ¬ (HT.sIx xs.length 0 lo=0∧HT.sIx xs.length xs.length hi=xs.length)∧∀p,H p=none→Q (.ref p) (upd H p (.tup (Ze6 xs lo hi)))
theorem Zmv:SlR X (ZnC X.K):=by
 intro pins s σ H x v vl vu lo hi sl Q I rx hs pl pu h
 obtain⟨a,xs,rfl,hx,hw,q⟩:=h
 cases rx
 obtain⟨its,r,ht,hz⟩:=I.tuple hx
 have hlen:its.toArray.size=xs.length:=by rw[Qz];exact r.length.symm
 refine⟨"tuple",_,PyProof.Rows.slot_tuple_getitem.lookup,ht.typeIs,?_⟩
 refine HT.getItem_tuple_cut ht hs pl pu (by rw[hlen];exact hw) ?_ (by rw[hlen];exact hz)
 rw[hlen]
 refine⟨.ref s.heap.objs.size,_,I.laid (t':=s.toks) (o:=.tup (Ze6 xs lo hi)) (fun b ob q=>Qj _ q) (Qd _) ?_,rfl,q _ (I.hok.fresh (Qd _))⟩
 exact⟨QC (Zee xs lo hi) hz,_,(r.drop (HT.sIx xs.length 0 lo)).take (HT.sIx xs.length xs.length hi-HT.sIx xs.length 0 lo),IsTup.new _ _⟩
def rLtT(K:PySem.W.Frag):R2:=fun x y H Q=>∃a b ns ms,x=.ref a∧y=.ref b∧SqT K H a (ns.map V.int)∧SqT K H b (ms.map V.int)∧Q (.bl (HT.lexLt ns ms)) H
def rCatT(K:PySem.W.Frag):R2:=fun x y H Q=>∃a b xs ys,x=.ref a∧y=.ref b∧SqT K H a xs∧SqT K H b ys∧xs≠[]∧xs.length+ys.length≤sizeLine ∧
 (ys=[]→Q (.ref a) H)∧(ys≠[]→∀p,H p=none→Q (.ref p) (upd H p (.tup (xs++ys))))
end
def ixN(n:Nat)(i:Int):Option Nat:=if 0≤i then (if i<n then some i.toNat else none) else if -(n:Int)≤i then some (i+n).toNat else none
def atI{α:Type}(xs:List α)(i:Int):Option α:=(ixN xs.length i).bind fun j=>xs[j]?
theorem ZhS{n:Nat}{i:Int}{j:Nat}(h:ixN n i=some j):seqIndex? i n=some j∧j<n ∧ -(n:Int)≤i∧i<n:=by
 unfold ixN at h
 by_cases h0:0≤i
 ·rw[if_pos h0]at h
  by_cases h1:i<n
  ·rw[if_pos h1]at h
   have e:i.toNat=j:=Qe h
   exact⟨by rw[seqIndex_of h0 h1,e],by omega,by omega,h1⟩
  ·rw[if_neg h1]at h;cases h
 ·rw[if_neg h0]at h
  by_cases h1:-(n:Int)≤i
  ·rw[if_pos h1]at h
   have e:(i+n).toNat=j:=Qe h
   exact⟨by rw[seqIndex_neg (by omega) h1,e],by omega,h1,by omega⟩
  ·rw[if_neg h1]at h;cases h
theorem ZfO{α:Type}{xs:List α}{i:Int}{v:α}(h:atI xs i=some v):∃j,seqIndex? i xs.length=some j∧xs[j]? = some v∧j<xs.length ∧ -(xs.length:Int)≤i∧i<xs.length:=by
 unfold atI at h
 cases e:ixN xs.length i with
 | none=>rw[e]at h;cases h
 | some j =>
  rw[e]at h
  obtain⟨h1,h2,h3,h4⟩:=ZhS e
  exact⟨j,h1,h,h2,h3,h4⟩
theorem Zaw{α:Type}{xs:List α}{j:Nat}{v:α}(h:xs[j]? = some v):atI xs (j:Int)=some v:=by
 have hj:j<xs.length:=(Qh.mp h).1
 have e:ixN xs.length (j:Int)=some j:=by
  unfold ixN
  rw[if_pos (by omega),if_pos (by omega)];simp
 unfold atI;rw[e];exact h
theorem Zjl{α:Type}(xs:List α)(v:α):atI (xs++[v]) (-1)=some v:=by
 have hl:(xs++[v]).length=xs.length+1:=by simp
 have e:ixN (xs++[v]).length (-1)=some xs.length:=by
  unfold ixN
  rw[hl,if_neg (by decide),if_pos (by omega)]
  congr 1
  omega
 unfold atI
 rw[e]
 show (xs++[v])[xs.length]? = some v
 simp
def ZkH(b:Expr):Prop:=∀o i,subscripted b false o i=operate [o,i] (getItem o i)
def IxR(X:Cx)(r:R2):Prop :=
 ∀ (value slice:Expr) (pins:List (Addr×Obj)) (s:Shared) (σ:St) (H:Hp) (x y:V) (v u:Value) (Q:VK),Inv X pins σ H s→Zy x v→Zy y u→r x y H Q →
  subscripted slice false v u=operate [v,u] (getItem v u)→wpAny (model X.prog X.w) X.A (subscriptTail value slice v u) (EP X pins σ Q) X.xe s
def MtR(X:Cx)(id:String)(r:V→List V→Hp→VK→Prop):Prop :=
 ∀ (pins:List (Addr×Obj)) (s:Shared) (σ:St) (H:Hp) (x:V) (xs:List V) (v:Value) (us:List Value) (Q:VK),Inv X pins σ H s→Zy x v→ZB xs us→r x xs H Q →
  wpAny (model X.prog X.w) X.A (call (.builtin id) (v::us)) (EP X pins σ Q) X.xe s
section
variable {X:Cx} {a b:Expr} {ta tb:TE} {pos:Pos}
theorem ZC{r:R2}(hr:IxR X r)(ha:PE X a ta)(hb:PE X b tb)(hs:ZkH b):PE X (.Subscript a b pos) (tOp r ta tb):=by
 intro pins s σ H Q I h
 exact Subscript_ (Zl3 ha hb I h fun v u s2 x y H2 I2 rx ry q=>hr a b pins s2 σ H2 x y v u Q I2 rx ry q (hs _ _))
def ZlT(K:PySem.W.Frag):R2:=fun x y H Q=>∃p xs i v,x=.ref p∧y=.int i∧SqL K H p xs∧atI xs i=some v∧Q v H
def ZmH(K:PySem.W.Frag):R2:=fun x y H Q=>∃p xs i v,x=.ref p∧y=.int i∧SqT K H p xs∧atI xs i=some v∧Q v H
def Znp:R2:=fun x y H Q=>∃z i c,x=.str z∧y=.int i∧z.length≤sizeLine∧atI z.cps.toList i=some c∧Q (.str ⟨#[c]⟩) H
theorem ZkC:IxR X (ZlT X.K):=by
 intro value slice pins s σ H x y v u Q I rx ry h hs
 obtain⟨p,xs,i,z,rfl,rfl,hq,he,q⟩:=h
 cases rx
 obtain⟨t,rfl⟩:=ry
 obtain⟨its,r,pl,hz⟩:=I.list hq
 obtain⟨j,h1,h2,h3,h4,h5⟩:=ZfO he
 obtain⟨w,ew,rw'⟩:=r.get h2
 have hl:=r.length
 have hn:=Zd3
 have fin:EP X pins σ Q w s:=⟨z,H,I,rw',q⟩
 by_cases h0:0≤i
 ·have hj:i.toNat=j:=by
   rw[seqIndex_of h0 h5]at h1
   exact Qe h1
  exact item_listR pl.isList h0 (by omega) (by rw[hj];simpa using ew) fin hs
 ·have hj:(i+(its.toArray.size:Int)).toNat=j:=by
   rw[seqIndex_neg (by omega) h4]at h1
   rw[Qz,← hl]
   exact Qe h1
  exact subscriptTail_builtinR (x:=w) pl.isList.typeIs slot_list_getitem.lookup
   (wpAny_getItem_list_neg (Q:=fun r s'=>r=w∧EP X pins σ Q r s') pl.isList (by omega) (by rw[Qz]<;>omega) (by omega) (by rw[hj];simpa using ew) ⟨rfl,fin⟩) hs
theorem ZmO:IxR X (ZmH X.K):=by
 intro value slice pins s σ H x y v u Q I rx ry h hs
 obtain⟨p,xs,i,z,rfl,rfl,hq,he,q⟩:=h
 cases rx
 obtain⟨t,rfl⟩:=ry
 obtain⟨its,r,pl,hz⟩:=I.tuple hq
 obtain⟨j,h1,h2,h3,h4,h5⟩:=ZfO he
 obtain⟨w,ew,rw'⟩:=r.get h2
 have hl:=r.length
 have hn:=Zd3
 have fin:EP X pins σ Q w s:=⟨z,H,I,rw',q⟩
 exact subscriptTail_builtinR (x:=w) pl.typeIs slot_tuple_getitem.lookup
  (getItem_tuple (j:=j) (Q:=fun r s'=>r=w∧EP X pins σ Q r s') pl (by omega) (by omega) (by rw[Qz,← hl];exact h1) (by simpa using ew) ⟨rfl,fin⟩) hs
theorem Zev:IxR X Znp:=by
 intro value slice pins s σ H x y v u Q I rx ry h hs
 obtain⟨z,i,c,rfl,rfl,hz,he,q⟩:=h
 obtain⟨t,rfl⟩:=rx
 obtain⟨t',rfl⟩:=ry
 obtain⟨j,h1,h2,h3,h4,h5⟩:=ZfO he
 have hl:z.cps.toList.length=z.length:=by simp[Str.length]
 rw[hl]at h1 h4 h5
 have hn:=Zd3
 exact tail_any (typeIs_str s z t) slot_str_getitem.lookup (getItem_str (c:=c) (by
  have e1:decide (i < -(2 ^ 63:Int))=false:=decide_eq_false (by omega)
  have e2:decide (i≥2 ^ 63)=false:=decide_eq_false (by omega)
  rw[e1,e2,Bool.or_false]) (by rw[h1];simpa using h2) ⟨.str ⟨#[c]⟩,H,I.tok _,⟨_,rfl⟩,q⟩) hs
def rIx(K:PySem.W.Frag):R2:=fun x y H Q=>ZlT K x y H Q∨ZmH K x y H Q∨Znp x y H Q
theorem ZhA(its:List Value)(n j:Nat)(u:Value):Obj.mapSeq (·.setIfInBounds j u) { cls:=.type "list",data:=.seq its.toArray n }={ cls:=.type "list",data:=.seq (its.set j u).toArray n }:=by
 simp[Obj.mapSeq]
theorem Inv.lst{pins:List (Addr×Obj)}{σ:St}{H:Hp}{s:Shared}{p:Addr}{xs:List V}(I:Inv X pins σ H s)(h:H p=some (.lst xs)) :
  ∃ (its:List Value) (n:Nat),ZB xs its∧s.heap.get? p=some { cls:=.type "list",data:=.seq its.toArray n }∧xs.length≤sizeLine:=by
 obtain⟨z,its,n,r,e⟩:=I.hok p _ h
 exact⟨its,n,r,e,z⟩
theorem Inv.lstUpd{pins:List (Addr×Obj)}{σ:St}{H:Hp}{s:Shared}{p:Addr}{xs ys:List V}{its its':List Value}{n n':Nat}{f:Obj→Obj}(I:Inv X pins σ H s)(h:H p=some (.lst xs))
  (ho:s.heap.get? p=some { cls:=.type "list",data:=.seq its.toArray n }) (hf:f { cls:=.type "list",data:=.seq its.toArray n }={ cls:=.type "list",data:=.seq its'.toArray n' }) (r:ZB ys its') (hz:ys.length≤sizeLine) (t:Nat) :
  Inv X pins σ (upd H p (.lst ys)) { s with heap:=s.heap.update p f,toks:=t }:=by
 have e:(s.heap.update p f).get? p=some { cls:=.type "list",data:=.seq its'.toArray n' }:=by
  rw[Heap.get?_update_self f ho (by rw[hf]<;>rfl),hf]
 refine I.write (x:=p) (e:=p) (by rw[h];trivial) (.inl rfl) (fun b u hb q=>(Heap.get?_update_other _ _ (Ne.symm hb)).trans q) ⟨_,e⟩ ?_
 exact⟨hz,its',n',r,e⟩
def Znz:V→V→V→Hp→(Hp→Prop)→Prop:=fun o i v H Q=>∃p xs k j,o=.ref p∧i=.int k∧H p=some (.lst xs)∧ixN xs.length k=some j∧Q (upd H p (.lst (xs.set j v)))
theorem Zgp:ZlV X Znz:=by
 intro pins s σ H o i v ov iv u Q I ro ri rv h
 obtain⟨p,xs,k,j,rfl,rfl,hp,hj,q⟩:=h
 cases ro
 obtain⟨t,rfl⟩:=ri
 obtain⟨its,n,r,ho,hz⟩:=I.lst hp
 obtain⟨h1,h2,h3,h4⟩:=ZhS hj
 have hl:=r.length
 have hn:=Zd3
 have I':Inv X pins σ (upd H p (.lst (xs.set j v))) { s with heap:=s.heap.update p (Obj.mapSeq (·.setIfInBounds j u)) } :=
  I.lstUpd hp ho (ZhA its n j u) (r.set rv j) (by rw[List.length_set];exact hz) s.toks
 by_cases h0:0≤k
 ·have hk:k.toNat=j:=by
   rw[seqIndex_of h0 h4]at h1
   exact Qe h1
  exact PySem.W.ki_setAt ho h0 (by omega) (by rw[Qz,← hl];exact h4) (by rw[hk];exact⟨_,I',q⟩)
 ·have hk:(k+(its.toArray.size:Int)).toNat=j:=by
   rw[seqIndex_neg (by omega) h3]at h1
   rw[Qz,← hl]
   exact Qe h1
  exact PySem.W.ki_setBack ho (by omega) (by rw[Qz,← hl];exact h3) (by omega) (by rw[hk];exact⟨_,I',q⟩)
theorem ZfS(lo hi:Option Int)(n:Nat):(sliceBounds lo hi none n).1=((HT.sIx n 0 lo:Nat):Int)∧(sliceBounds lo hi none n).2.1=((HT.sIx n n hi:Nat):Int)∧(sliceBounds lo hi none n).2.2=1:=by
 refine⟨?_,?_,rfl⟩
 ·cases lo with
  | none=>simp[sliceBounds,HT.sIx]
  | some i =>
   simp only[sliceBounds,HT.sIx,Option.getD_none,show (1:Int)>0 by decide,if_true]
   by_cases h:i<0
   ·simp only[h,if_true]<;>omega
   ·simp only[h,if_false]<;>omega
 ·cases hi with
  | none=>simp[sliceBounds,HT.sIx]
  | some i =>
   simp only[sliceBounds,HT.sIx,Option.getD_none,show (1:Int)>0 by decide,if_true]
   by_cases h:i<0
   ·simp only[h,if_true]<;>omega
   ·simp only[h,if_false]<;>omega
theorem Ze5(its:List Value)(lo hi:Option Int):slicePick its.toArray lo hi none=((its.drop (HT.sIx its.length 0 lo)).take (HT.sIx its.length its.length hi-HT.sIx its.length 0 lo)).toArray:=by
 obtain⟨h1,h2,h3⟩:=ZfS lo hi its.toArray.size
 unfold slicePick
 rw[h1,h2,h3]
 simp only[sliceRange_one,pick_run,List.size_toArray]<;>rfl
def Znd(K:PySem.W.Frag):V→Option Int→Option Int→Hp→VK→Prop:=fun x lo hi H Q=>∃a xs,x=.ref a∧SqL K H a xs∧∀p,H p=none→Q (.ref p) (upd H p (.lst (Ze6 xs lo hi)))
theorem Zky:SlR X (Znd X.K):=by
 intro pins s σ H x v vl vu lo hi sl Q I rx hs pl pu h
 obtain⟨a,xs,rfl,hx,q⟩:=h
 cases rx
 obtain⟨its,r,ht,hz⟩:=I.list hx
 have hlen:=r.length
 refine⟨"list",_,slot_list_getitem.lookup,ht.isList.typeIs,?_⟩
 refine wpAny_getItem_list_slice ht.isList hs pl pu .none (by simp) ?_ (by rw[Qz]<;>omega)
 rw[Ze5,← hlen]
 refine⟨.ref s.heap.objs.size,_,I.laid (t':=s.toks) (o:=.lst (Ze6 xs lo hi)) (fun b ob q=>Qj _ q) (Qd _) ?_,rfl,q _ (I.hok.fresh (Qd _))⟩
 exact⟨QC (Zee xs lo hi) hz,_,0,(r.drop (HT.sIx xs.length 0 lo)).take (HT.sIx xs.length xs.length hi-HT.sIx xs.length 0 lo),QD _ rfl⟩
def ZdD:V→Bool
 | .non=>true
 | .bl _=>true
 | .int _=>true
 | .str _=>true
 | _=>false
def eqV:V→V→Bool
 | .non,.non=>true
 | .bl a,.bl b=>a == b
 | .bl a,.int b=>(if a then 1 else 0) == b
 | .int a,.bl b=>a == (if b then 1 else 0)
 | .int a,.int b=>a == b
 | .str a,.str b=>a == b
 | _,_=>false
theorem ZmE{A:Around}{s:Shared}{y x:V}{u v:Value}(ry:Zy y u)(rx:Zy x v)(fy:ZdD y=true)(fx:ZdD x=true):SeqAt.EqAt A s u v (eqV y x):=by
 cases y with
 | non =>
  cases ry
  cases x with
  | non=>cases rx;exact SeqAt.EqAt.same _
  | bl b=>cases rx;exact SeqAt.EqAt.none_bool b
  | int b=>obtain⟨t,rfl⟩:=rx;exact SeqAt.EqAt.none_int b t
  | str b=>obtain⟨t,rfl⟩:=rx;exact SeqAt.EqAt.none_str b t
  | _=>exact absurd (show false=true from fx) Qi
 | bl a =>
  cases ry
  cases x with
  | non=>cases rx;exact SeqAt.EqAt.bool_none a
  | bl b=>cases rx;exact SeqAt.EqAt.bool_bool a b
  | int b=>obtain⟨t,rfl⟩:=rx;exact SeqAt.EqAt.bool_int a b t
  | str b=>obtain⟨t,rfl⟩:=rx;exact SeqAt.EqAt.bool_str a b t
  | _=>exact absurd (show false=true from fx) Qi
 | int a =>
  obtain⟨t',rfl⟩:=ry
  cases x with
  | non=>cases rx;exact SeqAt.EqAt.int_none a t'
  | bl b=>cases rx;exact SeqAt.EqAt.int_bool a t' b
  | int b=>obtain⟨t,rfl⟩:=rx;exact SeqAt.EqAt.int_int a t' b t
  | str b=>obtain⟨t,rfl⟩:=rx;exact SeqAt.EqAt.int_str a t' b t
  | _=>exact absurd (show false=true from fx) Qi
 | str a =>
  obtain⟨t',rfl⟩:=ry
  cases x with
  | non=>cases rx;exact SeqAt.EqAt.str_none a t'
  | bl b=>cases rx;exact SeqAt.EqAt.str_bool a t' b
  | int b=>obtain⟨t,rfl⟩:=rx;exact SeqAt.EqAt.str_int a t' b t
  | str b=>obtain⟨t,rfl⟩:=rx;exact SeqAt.EqAt.str_str a t' b t
  | _=>exact absurd (show false=true from fx) Qi
 | _=>exact absurd (show false=true from fy) Qi
def eqU(x:V)(u:Value):Bool:=match u with
 | .none=>eqV .non x
 | .bool b=>eqV (.bl b) x
 | .int i _=>eqV (.int i) x
 | .str z _=>eqV (.str z) x
 | _=>false
theorem Zj1{x y:V}{u:Value}(r:Zy y u)(f:ZdD y=true):eqU x u=eqV y x:=by
 cases y with
 | non=>cases r;rfl
 | bl b=>cases r;rfl
 | int i=>obtain⟨t,rfl⟩:=r;rfl
 | str z=>obtain⟨t,rfl⟩:=r;rfl
 | _=>exact absurd (show false=true from f) Qi
theorem ZfR{x:V}:∀ {xs:List V} {us:List Value},ZB xs us→xs.all ZdD=true→us.any (eqU x)=xs.any fun y=>eqV y x
 | _,_,.nil,_=>rfl
 | y::xs,u::us,.cons r t,f=>by
  rw[List.all_cons,QV]at f
  rw[Q9,Q9,Zj1 r f.1,ZfR t f.2]
theorem Zew{A:Around}{s:Shared}{x:V}{v:Value}(rx:Zy x v)(fx:ZdD x=true):∀ {xs:List V} {us:List Value},ZB xs us→xs.all ZdD=true→∀u∈us,SeqAt.EqAt A s u v (eqU x u)
 | _,_,.nil,_=>fun u hu=>by cases hu
 | y::xs,u::us,.cons r t,f=>fun u' hu=>by
  rw[List.all_cons,QV]at f
  rcases QE.mp hu with rfl|hu
  ·rw[Zj1 r f.1];exact ZmE r rx f.1 fx
  ·exact Zew rx fx t f.2 u' hu
def inV(x:V)(xs:List V):Bool:=xs.any fun y=>eqV y x
def rIn(K:PySem.W.Frag)(neg:Bool):R2:=fun x y H Q=>∃p xs,y=.ref p∧(SqL K H p xs∨SqT K H p xs)∧ZdD x=true∧xs.all ZdD=true∧Q (.bl (if neg then !inV x xs else inV x xs)) H
theorem ZiA:OpR X (compareOp .In) (rIn X.K false):=by
 intro pins s σ H x y v u Q I rx ry h
 obtain⟨p,xs,rfl,hq,fx,fs,q⟩:=h
 cases ry
 rcases hq with hq|hq
 ·obtain⟨its,r,pl,hz⟩:=I.list hq
  refine SeqAt.in_listAt (eqU x) pl.isList (fun w hw=>Zew rx fx r fs w (by simpa using hw)) ⟨.bl _,H,I,rfl,?_⟩
  rw[show its.toArray.any (eqU x)=its.any (eqU x) by simp,ZfR r fs]
  exact q
 ·obtain⟨its,r,pl,hz⟩:=I.tuple hq
  refine SeqAt.in_tupleAt (eqU x) pl (fun w hw=>Zew rx fx r fs w (by simpa using hw)) ⟨.bl _,H,I,rfl,?_⟩
  rw[show its.toArray.any (eqU x)=its.any (eqU x) by simp,ZfR r fs]
  exact q
theorem Zf2:Za1 X (.builtin "len") (fun xs H Q=>∃p ys,xs=[.ref p]∧(SqL X.K H p ys∨SqT X.K H p ys)∧Q (.int ys.length) H):=by
 intro pins s σ H xs us Q I r h
 obtain⟨p,ys,rfl,hq,q⟩:=h
 obtain⟨u,rfl,rx⟩:=Zc9 r
 cases rx
 have hn:=Zd3
 rcases hq with hq|hq
 ·obtain⟨its,r',pl,hz⟩:=I.list hq
  have hlen:=r'.length
  exact Calls.call_len_list pl.isList (by simp only[List.size_toArray]<;>omega) ⟨.int ys.length,H,I.tok _,⟨s.toks+1,by rw[Qz,hlen]⟩,q⟩
 ·obtain⟨its,r',pl,hz⟩:=I.tuple hq
  have hlen:=r'.length
  exact len_tuple pl (by simp only[List.size_toArray]<;>omega) ⟨.int ys.length,H,I.tok _,⟨s.toks+1,by rw[Qz,hlen]⟩,q⟩
theorem Zaj:Za1 X (.builtin "len") (fun xs H Q=>∃z,xs=[.str z]∧z.length≤sizeLine∧Q (.int z.length) H):=by
 intro pins s σ H xs us Q I r h
 obtain⟨z,rfl,hz,q⟩:=h
 obtain⟨u,rfl,t,rfl⟩:=Zc9 r
 have hn:=Zd3
 exact len_str (by omega) ⟨.int z.length,H,I.tok _,⟨_,rfl⟩,q⟩
theorem Zf3:Za1 X (.type "list") (fun xs H Q=>∃p ys,xs=[.ref p]∧(SqL X.K H p ys∨SqT X.K H p ys)∧∀l,H l=none→Q (.ref l) (upd H l (.lst ys))):=by
 intro pins s σ H xs us Q I r h
 obtain⟨p,ys,rfl,hq,q⟩:=h
 obtain⟨u,rfl,rx⟩:=Zc9 r
 cases rx
 have fin:∀ (its:List Value),ZB ys its→ys.length≤sizeLine→∀ (h':Heap) (c':Nat),(∀b o',s.heap.get? b=some o'→h'.get? b=some o') →
   h'.get? s.heap.objs.size=some { cls:=.type "list",dict:=none,data:=.seq its.toArray c',slots:=#[] }→EP X pins σ Q (.ref s.heap.objs.size) { s with heap:=h' }:=fun its r' hz h' c' kp e =>
  ⟨.ref s.heap.objs.size,_,I.laid (t':=s.toks) kp (Qd _) (show Zay X.prog X.w _ h' _ (.lst ys) from⟨hz,its,c',r',e⟩),rfl,q _ (I.hok.fresh (Qd _))⟩
 rcases hq with hq|hq
 ·obtain⟨its,r',pl,hz⟩:=I.list hq
  have hlen:=r'.length
  obtain⟨o,ho,hc,n,hd⟩:=pl.isList
  exact call_list_seq p (.inl rfl) ho hc hd (fun h' c' kp e=>fin its r' hz h' c' kp e) (by simp only[List.size_toArray]<;>omega)
 ·obtain⟨its,r',pl,hz⟩:=I.tuple hq
  have hlen:=r'.length
  obtain⟨o,ho,hc,n,hd⟩:=pl
  exact call_list_seq p (.inr rfl) ho hc hd (fun h' c' kp e=>fin its r' hz h' c' kp e) (by simp only[List.size_toArray]<;>omega)
def tyV(K:PySem.W.Frag)(T:String)(x:V)(H:Hp):Prop:=match x with
 | .str _=>T = "str"
 | .int _=>T = "int"
 | .ref p=>(T = "list"∧∃xs,SqL K H p xs)∨(T = "tuple"∧∃o,K.lookup p=some o∧o.cls=.type "tuple"∧o.dict=none) ∨
   (T = "dict"∧((∃kvs,H p=some (.dK kvs))∨∃kvs,H p=some (.dT kvs)))∨(T = "set"∧∃S n,H p=some (.set S n))
 | _=>False
theorem Zjb{pins:List (Addr×Obj)}{σ:St}{H:Hp}{s:Shared}{T:String}{x:V}{v:Value}(I:Inv X pins σ H s)(r:Zy x v)(ty:tyV X.K T x H) :
  s.TypeIs v T∧∀a,v=.ref a→∃ob,s.heap.get? a=some ob∧ob.dict=none:=by
 cases x with
 | str z =>
  obtain⟨t,rfl⟩:=r
  cases (show T = "str" from ty)
  exact⟨typeIs_str s z t,fun _ e=>nomatch e⟩
 | int i =>
  obtain⟨t,rfl⟩:=r
  cases (show T = "int" from ty)
  exact⟨typeIs_int s i t,fun _ e=>nomatch e⟩
 | ref p =>
  cases r
  rcases ty with⟨rfl,xs,hq⟩|⟨rfl,o,hk,hc,hd⟩|⟨rfl,hk⟩|⟨rfl,S,n,hk⟩
  ·obtain⟨its,_,pl,_⟩:=I.list hq
   refine⟨pl.isList.typeIs,fun a e=>?_⟩
   cases e
   obtain⟨o,n,e,c,hd,_⟩:=pl
   exact⟨o,e,hd⟩
  ·refine⟨⟨o,I.kIn p o hk,hc⟩,fun a e=>?_⟩
   cases e
   exact⟨o,I.kIn _ o hk,hd⟩
  ·have z:∃o,s.heap.get? p=some o∧o.ExactDict:=by
    rcases hk with⟨kvs,hk⟩|⟨kvs,hk⟩
    ·obtain⟨_,_,_,_,o,_,_,e,ex,_⟩:=I.hok p _ hk
     exact⟨o,e,ex⟩
    ·obtain⟨_,_,_,_,o,_,_,e,ex,_⟩:=I.hok p _ hk
     exact⟨o,e,ex⟩
   obtain⟨o,e,ex⟩:=z
   refine⟨⟨o,e,ex.1⟩,fun a e2=>?_⟩
   cases e2
   exact⟨o,e,ex.2.1⟩
  ·obtain⟨o,_,_,_,e,ex,_⟩:=I.hok p _ hk
   refine⟨⟨o,e,ex.1⟩,fun a e2=>?_⟩
   cases e2
   exact⟨o,e,ex.2.1⟩
 | _=>exact False.elim ty
def Zoj(K:PySem.W.Frag)(T:String)(r:V→List V→Hp→VK→Prop)(to:TE):TE:=fun σ H Q=>to σ H fun x H1=>tyV K T x H1∧r x [] H1 Q
def tBM(K:PySem.W.Frag)(T:String)(r:V→List V→Hp→VK→Prop)(to:TE)(t:TA):TE:=fun σ H Q=>to σ H fun x H1=>tyV K T x H1∧t σ H1 fun xs H2=>r x xs H2 Q
variable {o e:Expr} {es:List Expr} {to:TE} {t:TA} {name:Str} {apos cpos:Pos} {T id:String} {r:V→List V→Hp→VK→Prop}
theorem ZlY(pa:PlainAttrs T)(slot:Slot T name id)(hty:typeOf (.builtin id)=pure (.type "method_descriptor"))(hm:MtR X id r)(ho:PE X o to)
  (hbase:attributeBase o name X.env (eval o X.env)=eval o X.env:=by rfl) (hline:(apos.endLine == cpos.line)=true:=by rfl):PE X (.Call (.Attribute o name apos) [] [] cpos) (Zoj X.K T r to):=by
 intro pins s σ H Q I h
 refine wpAny_Call_method0_late hbase hline (thn (ho pins s σ H _ I h) fun v s1 ⟨x,H1,I1,r1,ty,q1⟩=>?_)
 obtain⟨h1,h2⟩:=Zjb I1 r1 ty
 exact⟨T,id,pa,slot,hty,h1,h2,Calls.callWith_builtin rfl (PySem.evalArgs_none (hm pins s1 σ H1 x [] v [] Q I1 r1 .nil q1))⟩
theorem ZeL(pa:PlainAttrs T)(slot:Slot T name id)(hty:typeOf (.builtin id)=pure (.type "method_descriptor"))(hm:MtR X id r)(ho:PE X o to)(ha:PA X (e::es) t)
  (hbase:attributeBase o name X.env (eval o X.env)=eval o X.env:=by rfl)
  (hfew:((backTo cpos (starEach (e::es) X.env)).all (fun x=>!x.1)&&(backToKw cpos (keywordEach [] X.env)).all (fun x=>x.1.isSome)
   && decide ((e::es).length+([]:List Keyword).length+(if ([]:List Keyword).isEmpty then 0 else 1)<30))=true:=by rfl)
  (hline:(apos.endLine == cpos.line)=true:=by rfl) (hs:starEach (e::es) X.env=(false,eval e X.env)::starEach es X.env:=by rfl) (hplain:(backTo cpos (starEach es X.env)).any (·.1)=false:=by rfl) :
  PE X (.Call (.Attribute o name apos) (e::es) [] cpos) (tBM X.K T r to t):=by
 intro pins s σ H Q I h
 refine wpAny_Call_method_late hbase hfew hline rfl (thn (ho pins s σ H _ I h) fun v s1 ⟨x,H1,I1,r1,ty,q1⟩=>?_)
 obtain⟨h1,h2⟩:=Zjb I1 r1 ty
 refine⟨T,id,pa,slot,hty,h1,h2,?_⟩
 have hA:=ha cpos pins s1 σ H1 _ I1 q1
 rw[hs]at hA ⊢
 refine Calls.callWith_builtin (by show (false||(backTo cpos (starEach es X.env)).any (·.1))=false;rw[hplain]<;>rfl) (Calls.evalArgs_plain ?_)
 exact thn hA fun us s2 ⟨vs,H2,I2,r2,q2⟩=>hm pins s2 σ H2 x vs v us Q I2 r1 r2 q2
end
def MtM(X:Cx)(id:String)(r:V→List V→Hp→VK→Prop):Prop :=
 ∀ (pins:List (Addr×Obj)) (s:Shared) (σ:St) (H:Hp) (x:V) (xs:List V) (v:Value) (us:List Value) (Q:VK),Inv X pins σ H s→Zy x v→ZB xs us→r x xs H Q →
  wpAny (model X.prog X.w) X.A (call (.builtin id) (v::us)) (EP X pins σ Q) X.xe s
theorem ZB.one:∀ {x:V} {us:List Value},ZB [x] us→∃u,us=[u]∧Zy x u
 | _,_,.cons r .nil=>⟨_,rfl,r⟩
theorem ZB.zero:∀ {us:List Value},ZB [] us→us=[]
 | _,.nil=>rfl
theorem ZB.reverse{xs:List V}{us:List Value}(h:ZB xs us):ZB xs.reverse us.reverse:=by
 induction h with
 | nil=>exact .nil
 | cons r t ih=>rw[Q7,Q7];exact ZB.append ih (.cons r .nil)
section
variable {X:Cx} {pins:List (Addr×Obj)} {σ:St} {H:Hp} {s:Shared} {l b:Addr} {xs ys zs:List V}
theorem Inv.lset{its its':List Value}{n:Nat}{f:Array Value→Array Value}{t':Nat}(I:Inv X pins σ H s)(hH:H l=some (.lst xs))
  (e:s.heap.get? l=some { cls:=.type "list",data:=.seq its.toArray n }) (hf:f its.toArray=its'.toArray) (hv:ZB ys its') (hz:ys.length≤sizeLine) :
  Inv X pins σ (upd H l (.lst ys)) { s with heap:=s.heap.update l (Obj.mapSeq f),toks:=t' }:=by
 have q:=PySem.IsL.update e f
 rw[hf]at q
 refine I.write (x:=l) (e:=l) (by rw[hH];exact trivial) (.inl rfl) (fun b' u hb hu=>(Heap.get?_update_other s.heap (Obj.mapSeq f) (Ne.symm hb)).trans hu) ⟨_,q⟩ ?_
 exact⟨hz,its',_,hv,q⟩
theorem Inv.lnew{its:List Value}{t':Nat}(I:Inv X pins σ H s)(hv:ZB ys its)(hz:ys.length≤sizeLine) :
  Inv X pins σ (upd H s.heap.objs.size (.lst ys)) { s with heap:=s.heap.push { cls:=.type "list",data:=.seq its.toArray },toks:=t' } :=
 I.laid (fun _ _ q=>Qj _ q) (Qd _) ⟨hz,its,0,hv,QD _ rfl⟩
theorem Inv.fresh(I:Inv X pins σ H s):H s.heap.objs.size=none:=I.hok.fresh (Qd _)
theorem Inv.lstM(I:Inv X pins σ H s)(hH:H l=some (.lst xs)):xs.length≤sizeLine∧∃ (its:List Value) (n:Nat),ZB xs its∧xs.length=its.length∧s.heap.get? l=some { cls:=.type "list",data:=.seq its.toArray n }:=by
 obtain⟨z,its,n,r,e⟩:=I.hok l _ hH
 exact⟨z,its,n,r,r.length,e⟩
end
section
variable {X:Cx}
def ZkX:V→List V→Hp→VK→Prop:=fun x vs H Q=>∃l xs y,x=.ref l∧vs=[y]∧H l=some (.lst xs)∧xs.length<sizeLine∧Q .non (upd H l (.lst (xs++[y])))
theorem Za4:MtM X "list.append" ZkX:=by
 intro pins s σ H x vs v us Q I rx rv h
 obtain⟨l,xs,y,rfl,rfl,hH,hz,q⟩:=h
 cases rx
 obtain⟨u,rfl,ru⟩:=rv.one
 obtain⟨z,its,n,r,hl,e⟩:=I.lstM hH
 refine call_meets F.slot_list_append ⟨_,e,rfl⟩ F.entry_list_append (F.args_list_append_2 _ _) (PySem.list_append l its.toArray n u (by rw[Qz];omega)) ⟨e,?_⟩
 refine⟨.non,_,I.lset (its':=its++[u]) hH e (by simp) (r.append (.cons ru .nil)) ?_,rfl,q⟩
 rw[Qo,QA]
 omega
def rExtend:V→List V→Hp→VK→Prop:=fun x vs H Q=>∃l b xs zs,x=.ref l∧vs=[.ref b]∧H l=some (.lst xs)∧H b=some (.lst zs)∧xs.length+zs.length≤sizeLine∧Q .non (upd H l (.lst (xs++zs)))
def rPop:V→List V→Hp→VK→Prop:=fun x vs H Q=>∃l xs y,x=.ref l∧vs=[]∧H l=some (.lst xs)∧xs[xs.length-1]? = some y∧Q y (upd H l (.lst xs.dropLast))
def rPopAt:V→List V→Hp→VK→Prop:=fun x vs H Q=>∃l xs i k y,x=.ref l∧vs=[.int i]∧H l=some (.lst xs) ∧ -(2 ^ 63)≤i∧i<2 ^ 63∧seqIndex? i xs.length=some k∧xs[k]? = some y∧Q y (upd H l (.lst (xs.eraseIdx k)))
def Zjk:V→List V→Hp→VK→Prop:=fun x vs H Q=>∃l xs,x=.ref l∧vs=[]∧H l=some (.lst xs)∧Q .non (upd H l (.lst xs.reverse))
theorem Zhk:MtM X "list.reverse" Zjk:=by
 intro pins s σ H x vs v us Q I rx rv h
 obtain⟨l,xs,rfl,rfl,hH,q⟩:=h
 cases rx
 have hus:=rv.zero
 subst hus
 obtain⟨z,its,n,r,hl,e⟩:=I.lstM hH
 refine call_meets F.slot_list_reverse ⟨_,e,rfl⟩ F.entry_list_reverse (F.args_list_reverse_1 _) (AutoSeq1.list_reverse_list_0 l its.toArray n (by rw[Qz];omega)) ⟨e,?_⟩
 refine⟨.non,_,I.lset (its':=its.reverse) hH e (by simp) r.reverse ?_,rfl,q⟩
 rw[List.length_reverse]
 omega
def rClear:V→List V→Hp→VK→Prop:=fun x vs H Q=>∃l xs,x=.ref l∧vs=[]∧H l=some (.lst xs)∧Q .non (upd H l (.lst []))
def rCat:R2:=fun x y H Q=>∃l b xs zs,x=.ref l∧y=.ref b∧H l=some (.lst xs)∧H b=some (.lst zs)∧xs.length+zs.length≤sizeLine∧∀p,H p=none→Q (.ref p) (upd H p (.lst (xs++zs)))
def rRep:R2:=fun x y H Q=>∃l k xs,x=.ref l∧y=.int k∧H l=some (.lst xs) ∧ -(2 ^ 63)≤k∧k<2 ^ 63∧xs.length*k.toNat≤sizeLine ∧
 ∀p,H p=none→Q (.ref p) (upd H p (.lst (List.replicate k.toNat xs).flatten))
end
section
variable {prog:Program} {w:World} {A:Around} {E:Value→Shared→Prop} {s:Shared}
end
section
variable {X:Cx}
end
end L2
namespace Att
open PySem PySem.W PySem.Calls PyProof.Rows
theorem Zeg{P:Params}{h:Heap}:∀ (ns:List Int) (vs:List Value),WellAll P h vs (ns.map WData.int)→IntsAre vs ns:=by
 intro ns
 induction ns with
 | nil =>
  intro vs w
  rw[List.map_nil]at w
  cases w
  exact .nil
 | cons n ns ih =>
  intro vs w
  rw[Qg]at w
  cases w with
  | cons a b =>
   cases a
   exact .cons _ _ (ih _ b)
theorem ZiC{l:OpenLaw}{n:Nat}(hn:l.most=some n){P:Params}{h:Heap}{args:List WData}{vals:List Value}
  (hpre:l.row.toRowW.claim.pre args=true) (hwl:WellAll P h vals args) :
  ∃a vs ns,vals=[Value.ref a]∧args=[WData.list (ns.map WData.int)]∧h.get? a=some { cls:=.type "list",data:=.seq vs.toArray }∧IntsAre vs ns∧ns.length≤n:=by
 have hsh:WShape.hasAll [] args [.list .int]=true:=(pre_splitW hpre).1
 have hc:l.pre.holds [] { args:=args }=true:=(pre_splitW hpre).2
 obtain⟨d,r,rfl,h1,h2⟩:=hasAllW_cons hsh
 obtain rfl:=hasAllW_nil h2
 obtain⟨xs,rfl,h3⟩:=hasW_list h1
 obtain⟨ns,rfl⟩:=items_int h3
 have hlen:ns.length≤n:=by
  unfold OpenLaw.pre at hc
  have h4:(WTm.not (.lt (.lit (.int (n:Int))) (.len (.arg 0)))).holds [] { args:=[.list (ns.map .int)] }=true:=by
   have h4:=(holds_andW hc).1
   rw[hn]at h4
   exact h4
  have h5:=condW_of h4 (w_not (w_lt w_lit (w_len_list (w_arg rfl))))
  rw[Qa]at h5
  refine Nat.le_of_not_lt fun q=>?_
  have q':(n:Int)<((ns.length:Nat):Int):=by omega
  first
   | (rw[decide_eq_true q']at h5;exact absurd h5 (by decide))
   | (simp at h5;omega)
 cases hwl with
 | cons w1 w2 =>
  cases w2
  cases w1 with
  | list ho hall=>exact⟨_,_,ns,rfl,rfl,ho,Zeg ns _ hall,hlen⟩
theorem ZiS(l:OpenLaw)(args:List WData):l.row.toRowW.claim.post args (.bool true) args=true :=
 postW_of (r:=l.row.toRowW) (X:=(true == true))
  (show WShape.has [] (.bool true) .bool=true by first|rfl|decide|simp[WShape.has,WShape.arms,WShape.armsAll])
  (show (WTm.eq .res (.lit (.bool true))).value [] { args:=args,res:=some (.bool true),after:=args }=some (.bool (true == true)) from w_eq_bool (w_res rfl) w_lit) rfl
theorem attach_call{l:OpenLaw}{n:Nat}{q:Program}{loose:List Str}{XP:(Str→Option Value)→Heap→Prop}{YP:World→Heap→Prop}{d:DefRec}
  (hn:l.most=some n) (hdf:d.params.defaults=[])
  (call:∀ (w:World) (s₀ s₁:Shared) (mg mb:Str→Option Value) (fa:Addr) (o:Obj) (pm cd doc:Value) (a:Addr) (vs:List Value) (ns:List Int),
   Ground q loose [] XP w s₀ mg mb s₁.heap→YP w s₁.heap →
   s₁.heap.get? fa=some o→o.data=.func (docDef d.name d.params d.body d.scope pm cd doc)→s₁.heap.CodeRec cd d.name→mg d.name=some (.ref fa) →
   s₁.heap.get? a=some { cls:=.type "list",data:=.seq vs.toArray }→IntsAre vs ns→ns.length≤n→s₁.gens = #[] →
   codeAny (model l.prog w) callerA (.call (.ref fa) ⟨[.ref a],[]⟩) (fun r s'=>r=.ok (.ret (.bool true))∧OldK s₁.heap s'.heap∧s'.os=s₁.os∧AllBare s'.gens) s₁) :
  WalkO q loose XP YP l.row.toRowW d [] (fun f vs=>PySem.call f vs):=by
 intro w s₀ s₁ mg mb G Y fa o pm cd doc dV kV ho hd hcd hD hmg hg args vals as hpre hlay hrd hwl hlo
 obtain rfl:dV=.none:=Dflts.none hD hdf
 obtain rfl:kV=.none:=Dflts.noKw hD
 obtain⟨a,vs,ns,rfl,rfl,hobj,hints,hlen⟩:=ZiC hn hpre hwl
 refine enter_call (codeAny_mono (call w s₀ s₁ mg mb fa o pm cd doc a vs ns G Y ho (fd_plain hd) hcd hmg hobj hints hlen hg) fun r s' hq=>?_)
 obtain⟨rfl,h2,h3,h4⟩:=hq
 exact⟨.inl ⟨.bool true,.bool true,[],rfl,fun _=>rfl,.bool true,ZiS l _,fun _=>⟨List.Pairwise.nil,fun _ hm=>(nomatch hm)⟩⟩,h2,h3,h4⟩
section
variable {prog:Program} {w:World} {A:Around} {E:Value→Shared→Prop} {s:Shared} {K:Frag}
def noObjs(h:Heap):Heap:={ h with objs:=#[] }
def ledger(h:Heap)(L d:Addr):List (Addr×Obj):=(List.range h.objs.size).filterMap fun a=>if a=L∨a=d then none else (h.get? a).map fun o=>(a,o)
end
end Att
namespace L2
open PySem PySem.Spec PyProof.Rows
theorem ZfG:∀ {vs:List Value} {ns:List Int},IntsAre vs ns→ZB (ns.map V.int) vs
 | _,_,.nil=>.nil
 | _,_,.cons n t h=>.cons ⟨t,rfl⟩ (ZfG h)
def ZmC(H:Hp):Prop:=∀b,H b=none∨∃o xs,H b=some (.frz o (.lst xs))
theorem ZjS{P:Program}{w:World}{K:PySem.W.Frag}{mg mb:Str→Option Value}{CX:CXT}{k:Nat}{fa a:Addr}{fd:FuncData}{x:Str}{sp:Sp}{s₁:Shared}{vs:List Value}{ns:List Int}
  (KX:K.In s₁.heap) (hns:s₁.heap.Ns mainGlobals mg) (hb:s₁.heap.Ns builtinsNs mb) (hbb:∀x:Str,x ≠ "__name__"→mb x=bootBuiltins x) (hlim:s₁.heap.NoLimit) (hg:s₁.gens = #[])
  (ha:s₁.heap.get? a=some { cls:=.type "list",data:=.seq vs.toArray }) (hi:IntsAre vs ns) (hl:ns.length≤sizeLine) (hr:ZaC k callerA)
  (F:∀base:Heap,K.In base→base.Ns mainGlobals mg→Zc5 P w K mg base CX k fa fd [x] sp) (hbind:∀ (s:Shared) (u:Value),BindsTo s fd ⟨[u],[]⟩ [(x,u)])
  (hsp:∀H:Hp,ZmC H→SqL K H a (ns.map V.int)→sp [.ref a] H (fun v _=>v=.bl true) fun _ _ _=>False)
  (hCX:∀H e s',CX [] H s₁ (fun _ _ _=>False) e s'→False) :
  codeAny (model P w) callerA (.call (.ref fa) ⟨[.ref a],[]⟩) (fun r s'=>r=.ok (.ret (.bool true))∧OldK s₁.heap s'.heap∧s'.os=s₁.os∧AllBare s'.gens) s₁:=by
 have rv:=ZfG hi
 have lenV:=hi.length
 have core:∀H:Hp,ZmC H→SqL K H a (ns.map V.int)→HOk P w H s₁.heap→(∀b,H b≠none→b=a)→(H a≠none→K.lookup a=none) →
   codeAny (model P w) callerA (.call (.ref fa) ⟨[.ref a],[]⟩) (fun r s'=>r=.ok (.ret (.bool true))∧OldK s₁.heap s'.heap∧s'.os=s₁.os∧AllBare s'.gens) s₁:=by
  intro H hO hS hok hA hK
  have base_of:∀ {b:Addr} {o:Obj},s₁.heap.get? b=some o→H b=none→(Zf6 s₁.heap H).get? b=some o:=fun e n=>Zjr e n
  have noA:∀ {b:Addr} {o:Obj} {es:Array DictEntry} {ep:Nat},s₁.heap.get? b=some o→o.data=.dict es ep→H b=none:=fun {b o es ep} e d=>by
   cases q:H b with
   | none=>rfl
   | some u =>
    have e':b=a:=hA b (by rw[q];simp)
    subst e'
    rw[ha]at e;cases e
    have d':Data.seq vs.toArray _=Data.dict es ep:=d
    cases d'
  have nsK:∀ {b:Addr} {m:Str→Option Value},s₁.heap.Ns b m→(Zf6 s₁.heap H).Ns b m:=fun {b m} ⟨o,es,ep,e,d,r⟩=>⟨o,es,ep,base_of e (noA e d),d,r⟩
  have hKb:K.In (Zf6 s₁.heap H):=fun b o e=>base_of (KX b o e) (by
   cases q:H b with
   | none=>rfl
   | some u =>
    have e':b=a:=hA b (by rw[q];simp)
    subst e'
    rw[hK (by rw[q];simp)]at e;cases e)
  have hM:Mod K mg (Zf6 s₁.heap H):=⟨hKb,nsK hns,⟨mb,nsK hb,hbb⟩,let ⟨mc,h1,h2⟩:=hlim;⟨mc,nsK h1,h2⟩⟩
  have e0:Zhd P w K mg (Zf6 s₁.heap H) callerA [] s₁ H:=⟨rfl,hM,fun b o e=>Zle e,Nat.le_of_eq (ZiT _ _),trivial,fun b hb=>absurd (show b∈([]:List Addr) from hb) (by simp),hok,.of_eq hg⟩
  refine codeAny_mono ((F _ hKb (nsK hns)).run callerA [] s₁ H ⟨[.ref a],[]⟩ [.ref a] [.ref a] _ _ hr e0 (hbind s₁ (.ref a)) (.cons rfl .nil) (hsp H hO hS)) fun r s' h=>?_
  cases r with
  | error e=>exact(hCX H e s' h).elim
  | ok fl =>
   cases fl with
   | next=>exact False.elim h
   | brk=>exact False.elim h
   | cont=>exact False.elim h
   | ret u =>
    obtain⟨v,H',os,bare,un,hok',r',q⟩:=h
    have q':v=.bl true:=q
    subst q'
    obtain rfl:u=Value.bool true:=r'
    refine⟨rfl,OldK.of_keep fun b o e=>?_,os,bare⟩
    cases q:H b with
    | none=>exact un.keep b o e q (by intro z;exact absurd (show b∈([]:List Addr) from z) (by simp)) (by simp)
    | some u =>
     rcases hO b with z|⟨ob,xs,z⟩
     ·rw[q]at z;cases z
     ·have z2:=un.frzs b ob _ z
      obtain⟨e1,_⟩:=hok b _ z
      obtain⟨e2,_⟩:=hok' b _ z2
      rw[e]at e1;cases e1
      exact e2
 cases hk:K.lookup a with
 | some o =>
  have e:=KX a o hk
  rw[ha]at e
  cases e
  refine core (fun _=>none) (fun _=>.inl rfl) (.inr ⟨_,vs.toArray,_,hk,rfl,rfl,rfl,by rw[Qz,lenV];exact hl,by simpa using rv⟩) (fun b u z=>by have z':(none:Option HO)=some u:=z;cases z') (fun b z=>absurd rfl z) fun z=>absurd rfl z
 | none =>
  refine core (fun b=>if b=a then some (.frz { cls:=.type "list",data:=.seq vs.toArray } (.lst (ns.map V.int))) else none) (fun b=>?_) (.inl (.inr ⟨{ cls:=.type "list",data:=.seq vs.toArray },if_pos rfl⟩)) (fun b u z=>?_) (fun b z=>?_) fun _=>hk
  ·by_cases hb:b=a
   ·exact .inr ⟨_,_,if_pos hb⟩
   ·exact .inl (if_neg hb)
  ·by_cases hb:b=a
   ·have z':=(if_pos hb).symm.trans z
    cases z'
    subst hb
    exact⟨ha,by rw[Qa];exact hl,vs,_,rv,ha⟩
   ·have z':=(if_neg hb).symm.trans z
    cases z'
  ·by_cases hb:b=a
   ·exact hb
   ·exact absurd (if_neg hb) z
abbrev KOf{K:PySem.W.Frag}{h:Heap}(_:K.In h):PySem.W.Frag:=K
theorem walk_of{l:PySem.W.OpenLaw}{n k:Nat}{q:Program}{loose:List Str}{XP:(Str→Option Value)→Heap→Prop}{YP:World→Heap→Prop}{d:DefRec}{K:Params→PySem.W.Frag}{CX:World→CXT}{sp:World→Sp}{x:Str}
  (hn:l.most=some n) (hn2:n≤sizeLine) (hdf:d.params.defaults=[]) (hr:ZaC k callerA)
  (hY:∀ (w:World) (h:Heap),YP w h→(K w.params).In h)
  (F:∀ (w:World) (mg:Str→Option Value) (fa:Addr) (h:Heap),(K w.params).In h→h.Ns mainGlobals mg→mg d.name=some (.ref fa) →
   ∃fd:FuncData,(∀ (s:Shared) (u:Value),BindsTo s fd ⟨[u],[]⟩ [(x,u)]) ∧
    ∀base:Heap,(K w.params).In base→base.Ns mainGlobals mg→Zc5 l.prog w (K w.params) mg base (CX w) k fa fd [x] (sp w))
  (hsp:∀ (w:World) (H:Hp) (a:Addr) (ns:List Int),ns.length≤n→ZmC H→SqL (K w.params) H a (ns.map V.int)→sp w [.ref a] H (fun v _=>v=.bl true) fun _ _ _=>False)
  (hCX:∀ (w:World) (H:Hp) (s:Shared) (e:Value) (s':Shared),CX w [] H s (fun _ _ _=>False) e s'→False) :
  PySem.W.WalkO q loose XP YP l.row.toRowW d [] (fun f vs=>PySem.call f vs):=by
 refine Att.attach_call hn hdf fun w s₀ s₁ mg mb fa o pm cd doc a vs ns G Y ho hd hcd hmg hobj hints hlen hg=>?_
 have KX:=hY w _ Y
 obtain⟨fd,hb,hF⟩:=F w mg fa _ KX G.T.g hmg
 exact ZjS KX G.T.g G.T.b G.T.builtins G.T.nolimit hg hobj hints (QC hlen hn2) hr hF hb (fun H hO hS=>hsp w H a ns hlen hO hS) fun H e s'=>hCX w H s₁ e s'
def ZQ(s:Stmt)(j:Nat):Stmt:=match s with
 | .ClassDef _ _ _ body _ _ _ _ _ _ _=>body.getD j (.Pass ⟨0,0,0,0⟩)
 | _=>.Pass ⟨0,0,0,0⟩
def Zn(s:Stmt):Arguments:=match s with
 | .FunctionDef _ a _ _ _ _ _ _ _ _=>a
 | _=>{ posonlyargs:=[],args:=[],vararg:=none,kwonlyargs:=[],kw_defaults:=[],kwarg:=none,defaults:=[] }
def Zm(s:Stmt):List Stmt:=match s with
 | .FunctionDef _ _ b _ _ _ _ _ _ _=>b
 | _=>[]
def Zd(s:Stmt):Scope:=match s with
 | .FunctionDef _ _ _ _ _ _ sc _ _ _=>sc
 | _=>{ kind:=.function,names:=[],isGenerator:=false,isCoroutine:=false }
abbrev CX0:CXT:=fun _ _ _ _ _ _=>False
abbrev E0:XK:=fun _ _ _=>False
theorem Zh6{X:Cx}:Zdo CX0 X E0:=fun _ _ _ _ _ _ _ h=>h.elim
structure Fun (K:PySem.W.Frag) (x qual:Str) (st:Stmt) (f:Addr) (fd:FuncData):Prop where
 ex:∃ (oc:Value) (od:Option Addr) (kV doc pm:Value) (an:Option Addr) (cdv ct:Value) (osl:Array (Option Value)),
  fd=PySem.W.fnOf x qual (Zn st) (Zm st) (Zd st) .none kV doc pm an cdv ct∧K.lookup f=some ⟨oc,od,.func fd,osl⟩∧PySem.W.codeIn K cdv qual=true
 kp:PySem.W.keepIn K (.ref f)=true
section
variable {P:Program} {w:World} {K:PySem.W.Frag} {mg:Str→Option Value} {base:Heap}
theorem Fun.ok{x qual:Str}{st:Stmt}{f:Addr}{fd:FuncData}{N ps:List Str}{k:Nat}{sp:Sp}(F:Fun K x qual st f fd)(S:Zq N ps (Zd st))(len:∀vs H Q E,sp vs H Q E→vs.length=ps.length)
  (hbody:∀ (cdv:Value) (A:Around) (outer:List Env) (s:Shared) (H:Hp) (vs:List V) (Q:VK) (E:XK),ZaC k (A.deeper (envOfC qual (Zd st) s.heap.objs.size f cdv))→sp vs H Q E →
   ∃t,PSs (Zf8 CX0 P w K mg base N qual (Zd st) f cdv A outer s H E).nox (Zm st) t∧t { nx:=fun _ H'=>Q .non H',rt:=Q } (ZcI N vs) H):Zc5 P w K mg base CX0 (k+1) f fd ps sp:=by
 obtain⟨oc,od,kV,doc,pm,an,cdv,ct,osl,rfl,lk,hcd⟩:=F.ex
 refine ZnM lk hcd S len fun A outer s H vs Q E hr hsp=>?_
 obtain⟨t,h,q⟩:=hbody cdv A outer s H vs Q E hr hsp
 exact⟨t,h.nox,q⟩
theorem Fun.binds{x qual:Str}{st:Stmt}{f:Addr}{fd:FuncData}{ps:List Str}(F:Fun K x qual st f fd)
  (h:∀ (kV doc pm:Value) (an:Option Addr) (cdv ct:Value) (us:List Value),us.length=ps.length→bindArgs (PySem.W.fnOf x qual (Zn st) (Zm st) (Zd st) .none kV doc pm an cdv ct) ⟨us,[]⟩=pure (ps.zip us)):Zbw K fd ps []:=by
 obtain⟨oc,od,kV,doc,pm,an,cdv,ct,osl,rfl,lk,hcd⟩:=F.ex
 exact .all (h kV doc pm an cdv ct)
theorem ZE{x qual:Str}{st:Stmt}{f:Addr}{oc:Value}{od an:Option Addr}{osl:Array (Option Value)}{kV doc pm cdv ct:Value}(l:K.lookup f=some ⟨oc,od,.func (PySem.W.fnOf x qual (Zn st) (Zm st) (Zd st) .none kV doc pm an cdv ct),osl⟩)
  (c:PySem.W.codeIn K cdv qual=true) (k:PySem.W.keepIn K (.ref f)=true):Fun K x qual st f (PySem.W.fnOf x qual (Zn st) (Zm st) (Zd st) .none kV doc pm an cdv ct):=⟨⟨oc,od,kV,doc,pm,an,cdv,ct,osl,rfl,l,c⟩,k⟩
end
theorem ZjK{A:Around}{k:Nat}(hr:ZaC k A):A.units+1<cLine:=Nat.lt_of_le_of_lt (Nat.add_le_add_left (by decide:1≤64) _) hr.units
theorem ZW{n:Nat}(h:n≤1000):n<sizeLine:=Nat.lt_of_le_of_lt h (by decide)
section
variable {X:Cx}
theorem pv(i:Nat){x:Str}{pos:Pos}(hN:X.N[i]? = some x:=by rfl)(hv:Vis X.env.scope x:=by first|exact Or.inl rfl|exact Or.inr (Or.inl rfl)|exact Or.inr (Or.inr rfl))(hd:(x == ("__debug__" : Str))=false:=by decide)
  (hcd:(x == ("__classdict__" : Str))=false:=by decide):PE X (.Name x pos) (ZkN i):=Zg6 hN hv hd hcd
end
theorem ZdW{A B:Prop}(h:B):if false=true then A else B:=by
 rw[if_neg Qi]
 exact h
theorem Zm1{A B:Prop}(h:A):if true=true then A else B:=by
 rw[if_pos rfl]
 exact h
theorem Zbd{c A B:Prop}[Decidable c](h1:c→A)(h2:¬ c→B):if c then A else B:=by
 by_cases h:c
 ·rw[if_pos h]
  exact h1 h
 ·rw[if_neg h]
  exact h2 h
theorem ZeO{c A B:Prop}[Decidable c](hc:c)(h:B):if (!decide c)=true then A else B:=by
 rw[decide_eq_true hc]
 exact ZdW h
def Zx(H H':Hp):Prop:=∀b o,H b=some o→H' b=some o
theorem Zx.refl(H:Hp):Zx H H:=fun _ _ h=>h
theorem Zx.trans{H H1 H2:Hp}(a:Zx H H1)(b:Zx H1 H2):Zx H H2:=fun c o h=>b c o (a c o h)
theorem Zx.free{H H':Hp}(e:Zx H H'){l:Addr}(h:H' l=Option.none):H l=Option.none:=by
 cases q:H l with
 | none=>rfl
 | some o =>
  rw[e l o q]at h
  cases h
theorem Zx.seq{K:PySem.W.Frag}{H H':Hp}{a:Addr}{xs:List V}(e:Zx H H')(h:SqL K H a xs):SqL K H' a xs:=by
 rcases h with(h|⟨o,h⟩)|h
 ·exact .inl (.inl (e _ _ h))
 ·exact .inl (.inr ⟨o,e _ _ h⟩)
 ·exact .inr h
def Zau(cells:List (Str×Addr)):List (Str×NameKind)→List (Str×Addr)→List (Str×Addr)
 | [],acc=>acc
 | (n,k)::r,acc=>if k == .free then Zau cells r ((n,(cells.lookup n).getD 0)::acc) else Zau cells r acc
theorem Ze3{sc:Scope}{env:Env}(h:∀y∈sc.names,y.2=.free→∃c,env.cells.lookup y.1=some c) :
  closureFor sc env=pure (Zau env.cells sc.names []):=by
 have go:∀ (names:List (Str×NameKind)) (acc:List (Str×Addr)),(∀y∈names,y.2=.free→∃c,env.cells.lookup y.1=some c) →
   (forIn names acc fun (x:Str×NameKind) (r:List (Str×Addr))=>if (x.2 == NameKind.free)=true then (do let c ← cellOf env x.1;pure (ForInStep.yield ((x.1,c)::r))) else pure (ForInStep.yield r):Sem (List (Str×Addr)))=pure (Zau env.cells names acc):=by
  intro names
  induction names with
  | nil=>intro acc _;rfl
  | cons y r ih =>
   intro acc hy
   obtain⟨n,k⟩:=y
   rw[List.forIn_cons]
   cases hk:(k == NameKind.free) with
   | false =>
    have e1:Zau env.cells ((n,k)::r) acc=Zau env.cells r acc:=by
     show (if (k == NameKind.free)=true then _ else _)=_
     rw[hk];rfl
    rw[e1,← ih acc fun z hz=>hy z (Qw _ hz)]
    simp only[hk,Bool.false_eq_true,if_false,pure_bind]
   | true =>
    have hk':k=.free:=by simpa using hk
    obtain⟨c,hc⟩:=hy (n,k) QX hk'
    have e1:Zau env.cells ((n,k)::r) acc=Zau env.cells r ((n,c)::acc):=by
     show (if (k == NameKind.free)=true then _ else _)=_
     rw[hk,hc];rfl
    have e2:cellOf env n=pure c:=by
     unfold cellOf
     rw[hc]
    rw[e1,← ih ((n,c)::acc) fun z hz=>hy z (Qw _ hz)]
    simp only[hk,if_true,e2,pure_bind]
 have q:=go sc.names [] h
 unfold closureFor
 first
  | (rw[show (forIn sc.names ([]:List (Str×Addr)) _:Sem (List (Str×Addr)))=pure (Zau env.cells sc.names []) from q];rfl)
  | (simp only[bind_pure];exact q)
  | exact q
theorem ZcP(cells:List (Str×Addr)):∀ (names:List (Str×NameKind)) (acc:List (Str×Addr)) (x:Str) (c:Addr),(Zau cells names acc).lookup x=some c →
  (∃y∈names,y.1=x∧y.2=.free∧c=(cells.lookup x).getD 0)∨acc.lookup x=some c
 | [],acc,x,c,h=>.inr h
 | (n,k)::r,acc,x,c,h=>by
  by_cases hk:(k == NameKind.free)=true
  ·have e:Zau cells ((n,k)::r) acc=Zau cells r ((n,(cells.lookup n).getD 0)::acc):=by
    show (if (k == NameKind.free)=true then _ else _)=_
    rw[if_pos hk]
   rw[e]at h
   rcases ZcP cells r _ x c h with⟨y,hy,q⟩|q
   ·exact .inl ⟨y,Qw _ hy,q⟩
   ·rw[Q8]at q
    by_cases hx:(x == n)=true
    ·rw[hx]at q
     have hx':x=n:=by simpa using hx
     subst hx'
     exact .inl ⟨(x,k),QX,rfl,by simpa using hk,(Qe q).symm⟩
    ·have hx':(x == n)=false:=by simpa using hx
     rw[hx']at q
     exact .inr q
  ·have e:Zau cells ((n,k)::r) acc=Zau cells r acc:=by
    show (if (k == NameKind.free)=true then _ else _)=_
    rw[if_neg hk]
   rw[e]at h
   rcases ZcP cells r _ x c h with⟨y,hy,q⟩|q
   ·exact .inl ⟨y,Qw _ hy,q⟩
   ·exact .inr q
theorem ZeD(cells:List (Str×Addr)):∀ (names:List (Str×NameKind)) (acc:List (Str×Addr)) (x:Str),((∃y∈names,y.1=x∧y.2=.free)∨∃c,acc.lookup x=some c) →
  ∃c,(Zau cells names acc).lookup x=some c
 | [],acc,x,h=>by
  rcases h with⟨y,hy,_⟩|h
  ·cases hy
  ·exact h
 | (n,k)::r,acc,x,h=>by
  by_cases hk:(k == NameKind.free)=true
  ·have e:Zau cells ((n,k)::r) acc=Zau cells r ((n,(cells.lookup n).getD 0)::acc):=by
    show (if (k == NameKind.free)=true then _ else _)=_
    rw[if_pos hk]
   rw[e]
   refine ZeD cells r _ x ?_
   by_cases hx:(x == n)=true
   ·exact .inr ⟨_,by rw[Q8,hx]⟩
   ·have hx':(x == n)=false:=by simpa using hx
    rcases h with⟨y,hy,q⟩|⟨c,q⟩
    ·rcases QE.mp hy with rfl|hy
     ·exact absurd (by simpa using q.1.symm) hx
     ·exact .inl ⟨y,hy,q⟩
    ·exact .inr ⟨c,by rw[Q8,hx'];exact q⟩
  ·have e:Zau cells ((n,k)::r) acc=Zau cells r acc:=by
    show (if (k == NameKind.free)=true then _ else _)=_
    rw[if_neg hk]
   rw[e]
   refine ZeD cells r _ x ?_
   rcases h with⟨y,hy,q⟩|h
   ·rcases QE.mp hy with rfl|hy
    ·exact absurd (by simpa using q.2) hk
    ·exact .inl ⟨y,hy,q⟩
   ·exact .inr h
structure Zan (N N':List Str) (o c:Scope):Prop where
 kind:c.kind=.function
 okind:o.kind=.function
 nocell:∀y∈c.names,y.2≠.cell
 loc:∀y∈c.names,y.2=.local→c.names.lookup y.1=some .local
 free:∀y∈c.names,y.2=.free→c.names.lookup y.1=some .free∧(o.names.lookup y.1=some .cell∨o.names.lookup y.1=some .free)
 len:N.length≤N'.length
 same:∀i∈List.range N.length,∀x∈N'[i]?,c.names.lookup x=some .local∨c.names.lookup x=some .free→c.names.lookup x=some .free∧N[i]? = some x
 nd:N'.Nodup
def ZaL(X:Cx)(c:Scope)(N':List Str)(C:Addr)(s:Shared)(H:Hp)(fp:List Addr):Cx :=
 { X with N:=N',s₀:=s,H₀:=H,env:=compEnvC c (Zau X.env.cells c.names []) C X.env,outer:=X.stack,stack:=X.stack,ex:=fp,fn:=fun _=>false,pn:=[],xe:=fun _ _=>False }
theorem Zcw{env:Env}(hf:env.scope.kind=.function):∀ (names:List (Str×NameKind)) (x:Str),
  (names.map fun (p:Str×NameKind)=>if (p.2 == NameKind.free&&env.scope.kind == .function&&env.kindOf p.1 == some .cell)=true then (p.1,NameKind.cell) else (p.1,p.2)).lookup x =
   match names.lookup x with
   | some .free=>if env.kindOf x=some .cell then some .cell else some .free
   | k=>k
 | [],x=>rfl
 | (n,k)::r,x=>by
  have ih:=Zcw hf r x
  rw[Qg]
  by_cases hx:(x == n)=true
  ·have hx':x=n:=by simpa using hx
   subst hx'
   have e2:List.lookup x ((x,k)::r)=some k:=by rw[Q8];simp
   rw[e2]
   by_cases hk:k=.free
   ·subst hk
    by_cases hc:env.kindOf x=some .cell
    ·simp[List.lookup_cons,hf,hc]
    ·simp[List.lookup_cons,hf,hc]
   ·have hk':(k == NameKind.free)=false:=by simpa using hk
    rw[hk']
    simp only[Bool.false_and,Bool.false_eq_true,if_false,List.lookup_cons,beq_self_eq_true]
    all_goals (cases k<;>first|rfl|exact absurd rfl hk)
  ·have hx':(x == n)=false:=by simpa using hx
   have e2:List.lookup x ((n,k)::r)=List.lookup x r:=by rw[Q8,hx']
   rw[e2,← ih]
   by_cases hc:(k == NameKind.free&&env.scope.kind == .function&&env.kindOf n == some .cell)=true
   ·simp only[hc,if_true,List.lookup_cons,hx']
   ·simp only[hc,if_false,List.lookup_cons,hx',Bool.false_eq_true]
section
variable {X:Cx} {N N':List Str} {o c:Scope}
theorem ZbR(S:Zan N N' o c)(ho:X.env.scope=o)(cl:List (Str×Addr))(C:Addr)(x:Str):(compEnvC c cl C X.env).kindOf x =
  match c.names.lookup x with
  | some .free=>if X.env.kindOf x=some .cell then some .cell else some .free
  | k=>k:=Zcw (env:=X.env) (by rw[ho];exact S.okind) c.names x
theorem Zcj{names:List (Str×NameKind)}{x:Str}{k:NameKind}(h:names.lookup x=some k):(x,k)∈names:=QT h
theorem Zbq(S:Zan N N' o c)(ho:X.env.scope=o)(ok:X.Ok){x:Str}{a:Addr}(h:(Zau X.env.cells c.names []).lookup x=some a) :
  X.env.cells.lookup x=some a∧c.names.lookup x=some .free:=by
 rcases ZcP _ _ _ _ _ h with⟨y,hy,rfl,hf,e⟩|q
 ·have hk:=S.free y hy hf
  have hv:X.env.kindOf y.1=some .cell∨X.env.kindOf y.1=some .free:=by
   show X.env.scope.names.lookup y.1=_∨X.env.scope.names.lookup y.1=_
   rw[ho];exact hk.2
  obtain⟨b,hb⟩:=ok.has y.1 hv
  rw[hb]at e
  exact⟨by rw[hb,e];rfl,hk.1⟩
 ·cases q
theorem ZgR(S:Zan N N' o c)(ho:X.env.scope=o)(ok:X.Ok){x:Str}(h:c.names.lookup x=some .free):∃a,(Zau X.env.cells c.names []).lookup x=some a∧X.env.cells.lookup x=some a:=by
 obtain⟨a,ha⟩:=ZeD X.env.cells c.names [] x (.inl ⟨(x,.free),Zcj h,rfl,rfl⟩)
 exact⟨a,ha,(Zbq S ho ok ha).1⟩
theorem ZkM(S:Zan N N' o c)(ho:X.env.scope=o){pins:List (Addr×Obj)}{σ:St}{H:Hp}{s:Shared}{fp:List Addr}(I:Inv X pins σ H s)
  (hf:∀b∈fp,Zet X pins H b) (ht:∀b∈fp,b<s.heap.objs.size):(ZaL X c N' s.heap.objs.size s H fp).Ok where
 mod:=I.ok.mod
 kind:=S.kind
 glob:=I.ok.glob
 blt:=I.ok.blt
 above:=Qd _
 inj:=fun x y a h1 h2=>I.ok.inj x y a (Zbq S ho I.ok h1).1 (Zbq S ho I.ok h2).1
 has:=fun x hx=>by
  have e:=ZbR (X:=X) S ho (Zau X.env.cells c.names []) s.heap.objs.size x
  have hx':(compEnvC c (Zau X.env.cells c.names []) s.heap.objs.size X.env).kindOf x=some .cell∨(compEnvC c (Zau X.env.cells c.names []) s.heap.objs.size X.env).kindOf x=some .free:=hx
  rw[e]at hx'
  cases q:c.names.lookup x with
  | none=>rw[q]at hx';rcases hx' with z|z<;>cases z
  | some k =>
   by_cases hk:k=.free
   ·subst hk
    obtain⟨a,ha,_⟩:=ZgR S ho I.ok q
    exact⟨a,ha⟩
   ·rw[q]at hx'
    have hc:k=.cell:=by
     cases k<;>first|rfl|exact absurd rfl hk|(rcases hx' with z|z<;>cases z)
    subst hc
    exact absurd rfl (S.nocell _ (Zcj q))
 cab:=fun x a h=>by cases (show false=true from h)
 hd:=I.ok.hd
 frames:=I.ok.frames
 stk:=.inl rfl
 exf:=fun b hb=>⟨QB (ht b hb),fun x a h=>(hf b hb).2.2.2.2.1 x a (Zbq S ho I.ok h).1⟩
 bs:=fun b ob e=>I.bs b ob e
 bsz:=QC I.ok.bsz I.sz
 noex:=fun b ob e hb=>by
  rcases(hf b hb).2.2.2.1 with z|z
  ·exact I.ok.noex b ob e z
  ·exact absurd (Qv (Qm e) (QC I.ok.bsz z)) (Q1 _)
 exfs:=fun b hb hb'=>by
  rcases QE.mp (I.stkSub b hb') with z|z
  ·exact(hf b hb).2.1 z
  ·exact(hf b hb).2.2.1 z
 funs:=I.stack
 frf:=I.stkFree
theorem ZjF(S:Zan N N' o c)(hN:X.N=N)(ho:X.env.scope=o){pins:List (Addr×Obj)}{σ:St}{H:Hp}{s:Shared}{fp:List Addr}{h₁:Heap}{tk:Nat}{m₀:Str→Option Value}(I:Inv X pins σ H s)
  (hf:∀b∈fp,Zet X pins H b) (ht:∀b∈fp,b<s.heap.objs.size) (hns:h₁.Ns s.heap.objs.size m₀) (hk:∀b ob,s.heap.get? b=some ob→h₁.get? b=some ob) :
  Inv (ZaL X c N' s.heap.objs.size s H fp) [] (σ++List.replicate (N'.length-N.length) none) H { s with heap:=h₁,toks:=tk } where
 ok:=ZkM S ho I hf ht
 os:=rfl
 bare:=I.bare
 base:=Un.kept hk
 loc:=by
  refine⟨m₀,hns,fun i x v e1 e2 e3=>?_⟩
  obtain⟨m,hn,hl⟩:=I.loc
  have hlen:σ.length=N.length:=by rw[I.len,hN]
  have hi:i<σ.length:=by
   by_cases hi:i<σ.length
   ·exact hi
   ·rw[QM (by omega),List.getElem?_replicate]at e2
    split at e2<;>cases e2
  have e2':σ[i]? = some (some v):=by rw[QR hi]at e2;exact e2
  have kd:=ZbR (X:=X) S ho (Zau X.env.cells c.names []) s.heap.objs.size x
  have vis:c.names.lookup x=some .local∨c.names.lookup x=some .free:=by
   have e3':(compEnvC c (Zau X.env.cells c.names []) s.heap.objs.size X.env).kindOf x=some .local∨(compEnvC c (Zau X.env.cells c.names []) s.heap.objs.size X.env).kindOf x=some .cell∨(compEnvC c (Zau X.env.cells c.names []) s.heap.objs.size X.env).kindOf x=some .free:=e3
   rw[kd]at e3'
   cases q:c.names.lookup x with
   | none=>rw[q]at e3';rcases e3' with z|z|z<;>cases z
   | some k =>
    cases k with
    | «local»=>exact .inl rfl
    | free=>exact .inr rfl
    | cell=>exact absurd rfl (S.nocell _ (Zcj q))
    | _=>rw[q]at e3';rcases e3' with z|z|z<;>cases z
  obtain⟨hfr,hNi⟩:=S.same i (List.mem_range.mpr (by omega)) x (by rw[show N'[i]? = some x from e1];rfl) vis
  have hok:X.env.kindOf x=some .cell∨X.env.kindOf x=some .free:=by
   show X.env.scope.names.lookup x=_∨X.env.scope.names.lookup x=_
   rw[ho];exact(S.free _ (Zcj hfr) rfl).2
  obtain⟨u,r,l⟩:=hl i x v (by rw[hN];exact hNi) e2' (.inr hok)
  refine⟨u,r,.inr ⟨?_,?_⟩⟩
  ·show (compEnvC c (Zau X.env.cells c.names []) s.heap.objs.size X.env).kindOf x=some .cell∨(compEnvC c (Zau X.env.cells c.names []) s.heap.objs.size X.env).kindOf x=some .free
   rw[kd,hfr]
   show (if X.env.kindOf x=some .cell then some NameKind.cell else some NameKind.free)=some .cell∨(if X.env.kindOf x=some .cell then some NameKind.cell else some NameKind.free)=some .free
   by_cases q:X.env.kindOf x=some .cell
   ·rw[if_pos q];exact .inl rfl
   ·rw[if_neg q];exact .inr rfl
  ·obtain⟨a,ha,ha'⟩:=ZgR S ho I.ok hfr
   refine⟨a,ha,?_⟩
   rcases l with⟨z,_⟩|⟨_,a',e,ob,hob,hd⟩
   ·rcases hok with q|q<;>rw[q]at z<;>cases z
   ·rw[ha']at e;cases e
    exact⟨ob,hk _ _ hob,hd⟩
 cell:=fun x a h=>by
  obtain⟨v,ob,e,d⟩:=I.cell x a (Zbq S ho I.ok h).1
  exact⟨v,ob,hk _ _ e,d⟩
 free:=I.hok.fresh (Qd _)
 freeC:=fun x a h=>I.freeC x a (Zbq S ho I.ok h).1
 pin:=fun p hp=>absurd (show p∈([]:List (Addr×Obj)) from hp) (by simp)
 hok:=I.hok.kept hk
 len:=by
  have hlen:σ.length=N.length:=by rw[I.len,hN]
  have:=S.len
  show (σ++List.replicate (N'.length-N.length) none).length=N'.length
  rw[Qo,List.length_replicate]
  omega
end
abbrev Zh0(ifs:List Expr)(env:Env):Sem Bool :=
 forIn ifs true fun k r=>if r=true then do let ok ← isTrue k env (eval k env);pure (ForInStep.yield ok) else pure (ForInStep.yield r)
def PTs(X:Cx)(ifs:List Expr)(t:TT):Prop :=
 ∀ (pins:List (Addr×Obj)) (s:Shared) (σ:St) (H:Hp) (Q:Bool→Hp→Prop),Inv X pins σ H s→t σ H Q→wpAny (model X.prog X.w) X.A (Zh0 ifs X.env) (TP X pins σ Q) X.xe s
def Zkh:TT:=fun _ H Q=>Q true H
theorem ZbG{X:Cx}:PTs X [] Zkh:=fun _ _ _ H _ I h=>wpAny_tests_nil ⟨H,I,h⟩
section
variable {prog:Program} {w:World} {A:Around} {R:Result→Shared→Prop} {s:Shared}
theorem Zgc{elt target iter:Expr}{ifs:List Expr}{scope:Scope}{pos:Pos}{it acc:Value}{env:Env}{E:Value→Shared→Prop}(I:Nat→Shared→Prop)
  (hE:∀e s',E e s'→False)
  (turn:∀n s,I n s→wpAny (model prog w) A (pyNext it) (fun r s₁=>match r with
   | none=>R (.ok .next) s₁
   | some v=>wpAny (model prog w) A (letOwnedTupleGo target it v) (fun _ s₀=>wpAny (model prog w) A (assign target env v) (fun _ s₂ =>
     wpAny (model prog w) A (Zh0 ifs env) (fun ok s₃ =>
      if ok=true then wpAny (model prog w) A (eval elt env) (fun x s₄ =>
       wpAny (model prog w) A (call (.builtin "list.append") [acc,x]) (fun _ s₅=>∃m,m<n∧I m s₅) E s₄) E s₃
      else ∃m,m<n∧I m s₃) E s₂) E s₀) E s₁) E s)
  (n:Nat) (h:I n s):codeAny (model prog w) A (.compLoop (.ListComp elt [⟨target,iter,ifs,0⟩] scope pos) 0 it acc env) R s:=by
 have go:∀ {α:Type} {t:Sem α} {Q:α→Shared→Prop} {s:Shared},wpAny (model prog w) A t Q E s→wpAny (model prog w) A t Q (notedBy (model prog w) A env fun e s'=>R (.error e) s') s :=
  fun {α t Q s} q=>wpAny_mono q (fun _ _ z=>z) fun e s' z=>(hE e s' z).elim
 refine codeAny_loop rfl I (fun n s hI=>?_) n h
 show wpAny _ A ((compTurn (.ListComp elt [⟨target,iter,ifs,0⟩] scope pos) 0 it acc env).onRaise (fun x=>do noteFrame x env;theTreesLotGoes x)) _ _ s
 refine wpAny_noted ?_
 rw[compTurn_list]
 refine wpAny_bind (wpAny_standAt (wpAny_bind (thn (go (turn n s hI)) fun r s₁ h₁=>?_)))
 cases r with
 | none=>exact wpAny_pure h₁
 | some v =>
  refine wpAny_bind (thn (go h₁) fun _ s₀ h₀=>wpAny_bind (thn (go h₀) fun _ s₂ h₂=>wpAny_bind (thn (go h₂) fun ok s₃ h₃=>?_)))
  cases ok with
  | false=>exact wpAny_pure ⟨rfl,h₃⟩
  | true =>
   exact wpAny_bind (wpAny_bind (thn (go h₃) fun x s₄ h₄=>wpAny_bind (thn (go h₄) fun _ s₅ h₅=>wpAny_pure (wpAny_pure ⟨rfl,h₅⟩))))
end
def ZdZ(J:It)(D:Addr)(k:Nat)(σ:St)(H1:Hp)(g:TG)(tc:TT)(te:TE)(Q:VK):Prop :=
 ∃W:Nat→Nat→List V→St→Hp→Prop,(∃m,W 0 m [] (σ++List.replicate k none) (upd H1 D (.lst []))) ∧
  ∀i m ys σ2 H2,W i m ys σ2 H2→(J.stop i H2∧Q (.ref D) H2) ∨
   (J.go i H2∧∃N:List V→St→Hp→Prop,(∀ys' σ' H',N ys' σ' H'→∃m',m'<m∧W (i+1) m' ys' σ' H')∧∀x H3,J.yld i H2 x H3→g x σ2 H3 fun σ4 H4=>tc σ4 H4 fun b H5 =>
    if b=true then te σ4 H5 fun y H6=>H6 D=some (.lst ys)∧ys.length<sizeLine∧N (ys++[y]) σ4 (upd H6 D (.lst (ys++[y]))) else N ys σ4 H5)
def ZlK(n:Nat)(wi:TI)(g:TG)(tc:TT)(te:TE):TE:=fun σ H Q=>wi σ H fun J H1=>∀D,H1 D=none→ZdZ J D n σ H1 g tc te Q
section
variable {X:Cx} {N N':List Str} {o c:Scope}
theorem Zj6{elt tg iter:Expr}{ifs:List Expr}{pos pos':Pos}{wi:TI}{g:TG}{tc:TT}{te:TE}{use:Option (Value→Sem Unit)}{QQ:Value→Shared→Prop}(S:Zan N N' o c)(hN:X.N=N)(ho:X.env.scope=o)(hc:X.calm=true)
  (hi:PI X tg iter wi) (hg:∀C s H fp,PG (ZaL X c N' C s H fp) tg g) (ht:∀C s H fp,PTs (ZaL X c N' C s H fp) ifs tc) (he:∀C s H fp,PE (ZaL X c N' C s H fp) elt te)
  (hs:∀x,foldedSetIterable iter X.env x=pure x) {pins:List (Addr×Obj)} {s:Shared} {σ:St} {H:Hp} {Q:VK} (I:Inv X pins σ H s) (h:ZlK (N'.length-N.length) wi g tc te σ H Q)
  (post:∀ (D C:Addr) (s5:Shared) (H5:Hp) (m:Str→Option Value),Inv X pins σ H5 s5→H5 C=none→s5.heap.Ns C m→C≠X.env.locals→X.s₀.heap.objs.size≤C→(∀x a,X.env.cells.lookup x=some a→a≠C)→(∀p∈X.pn++pins,p.1≠C) →
   Q (.ref D) H5→compPost (model X.prog X.w) X.A X.xe use QQ (.ref D) C (.ok .next) s5) :
  wpAny (model X.prog X.w) X.A (comprehension (.ListComp elt [⟨tg,iter,ifs,0⟩] c pos) c X.env pos' (newList []) false (eval iter X.env) use) QQ X.xe s:=by
 have hclos:closureFor c X.env=pure (Zau X.env.cells c.names []):=Ze3 fun y hy hf=>by
  refine I.ok.has y.1 ?_
  show X.env.scope.names.lookup y.1=_∨X.env.scope.names.lookup y.1=_
  rw[ho];exact(S.free y hy hf).2
 refine wpAny_comprehension_free (use:=use) rfl hs hclos S.kind S.loc (thn (hi pins s σ H _ I h) fun v s1 h1=>thn h1 fun itv s2 h2=>?_)
 obtain⟨it,fp,tn,J,H2,e,I2,T,st2,f2,hR⟩:=h2
 subst e
 have hD:H2 s2.heap.objs.size=none:=I2.fresh
 have I3:Inv X pins σ (upd H2 s2.heap.objs.size (.lst [])) { s2 with heap:=s2.heap.push { cls:=.type "list",data:=.seq ([]:List Value).toArray } } :=
  I2.lnew (ys:=[]) (its:=[]) (t':=s2.toks) .nil (Qq _)
 have fpl:∀b∈fp,b<s2.heap.objs.size:=fun b hb=>by
  obtain⟨ob,e,_⟩:=T.obj 0 _ st2 b hb
  exact Qm e
 refine wpAny_newObj_type (wpAny_newFunctionEnv S.nocell (by intro y hy;simp at hy) (fun h₁ hns₁ hsb₁=>?_) S.kind)
 have e3:∃s3:Shared,s3={ s2 with heap:=s2.heap.push { cls:=.type "list",data:=.seq ([]:List Value).toArray } }:=⟨_,rfl⟩
 obtain⟨s3,hs3⟩:=e3
 have e3:s3.heap=s2.heap.push { cls:=.type "list",data:=.seq ([]:List Value).toArray }:=by rw[hs3]
 have sz3:s3.heap.objs.size=s2.heap.objs.size+1:=by rw[e3,Heap.size_push]
 have fpl3:∀b∈fp,b<s3.heap.objs.size:=fun b hb=>Qv (fpl b hb) (by rw[sz3];exact Nat.le_succ _)
 have f3:∀b∈fp,Zet X pins (upd H2 s2.heap.objs.size (.lst [])) b:=fun b hb=>⟨by rw[Zc (QB (fpl b hb))];exact(f2 b hb).1,(f2 b hb).2⟩
 have st3:tn 0 s3.heap:=T.keep 0 _ _ st2 fun b _ ob e=>by rw[e3];exact Qj _ e
 rw[← hs3]at I3
 show codeAny (model X.prog X.w) X.A (.compStart _ 0 (.ref it) (.ref s2.heap.objs.size) (compEnvC c (Zau X.env.cells c.names []) (s2.heap.push { cls:=.type "list",data:=.seq ([]:List Value).toArray }).objs.size X.env))
  (compPost (model X.prog X.w) X.A X.xe use QQ (.ref s2.heap.objs.size) (s2.heap.push { cls:=.type "list",data:=.seq ([]:List Value).toArray }).objs.size)
  { s2 with heap:=h₁,toks:=s2.toks+([]:List (Str×Value)).length }
 have hns:h₁.Ns s3.heap.objs.size (fun x=>([]:List (Str×Value)).reverse.lookup x):=by rw[e3];exact hns₁
 have hk1:∀b ob,s3.heap.get? b=some ob→h₁.get? b=some ob:=fun b ob e=>by
  rw[e3]at e
  exact hsb₁.extBut b ob (QB (Qm e)) (Qj _ e)
 rw[← e3]
 have es4:({ s2 with heap:=h₁,toks:=s2.toks+([]:List (Str×Value)).length }:Shared)={ s3 with heap:=h₁,toks:=s2.toks }:=by rw[hs3];rfl
 rw[es4]
 obtain⟨W,⟨m0,w0⟩,turn⟩:=hR s2.heap.objs.size hD
 have I4:=ZjF (tk:=s2.toks) S hN ho I3 f3 fpl3 hns hk1
 have st4:tn 0 h₁:=T.keep 0 _ _ st3 fun b _ ob e=>hk1 b ob e
 generalize hX:ZaL X c N' s3.heap.objs.size s3 (upd H2 s2.heap.objs.size (.lst [])) fp=Y at I4
 have Yp:Y.prog=X.prog:=by rw[← hX];rfl
 have Yw:Y.w=X.w:=by rw[← hX];rfl
 have YK:Y.K=X.K:=by rw[← hX];rfl
 have Yc:Y.calm=true:=by rw[← hX];exact hc
 have YA:Y.A=X.A:=by rw[← hX];rfl
 have Yenv:Y.env=compEnvC c (Zau X.env.cells c.names []) s3.heap.objs.size X.env:=by rw[← hX];rfl
 have Yl:Y.env.locals=s3.heap.objs.size:=by rw[Yenv];rfl
 have Yxe:Y.xe=fun _ _=>False:=by rw[← hX];rfl
 have hg':=hg s3.heap.objs.size s3 (upd H2 s2.heap.objs.size (.lst [])) fp
 have ht':=ht s3.heap.objs.size s3 (upd H2 s2.heap.objs.size (.lst [])) fp
 have he':=he s3.heap.objs.size s3 (upd H2 s2.heap.objs.size (.lst [])) fp
 rw[hX]at hg' ht' he'
 have stat:∀ {H':Hp},(∀b∈fp,H' b=none)→∀b∈fp,Zet Y [] H' b:=fun {H'} hn b hb=>by
  obtain⟨_,q1,q2,q3,q4,_⟩:=f3 b hb
  have z1:=I4.ok.exf b (by rw[← hX];exact hb)
  refine⟨hn b hb,z1.1,I4.ok.exfs b (by rw[← hX];exact hb),.inl (by rw[← hX];exact hb),z1.2,fun p hp=>?_⟩
  have hp':p∈([]:List (Addr×Obj)):=by
   have:Y.pn=[]:=by rw[← hX];rfl
   rw[this]at hp;exact hp
  cases hp'
 have fin:∀ (s5:Shared) (σ5:St) (H5:Hp),Inv Y [] σ5 H5 s5→Q (.ref s2.heap.objs.size) H5→compPost (model X.prog X.w) X.A X.xe use QQ (.ref s2.heap.objs.size) s3.heap.objs.size (.ok .next) s5:=fun s5 σ5 H5 I5 q=>by
  obtain⟨m,hn,_⟩:=id I5.loc
  rw[Yl]at hn
  have hCn:H5 s3.heap.objs.size=none:=by have:=I5.free;rw[Yl]at this;exact this
  have un:Un (frs X.stack) fp (upd H2 s2.heap.objs.size (.lst [])) H5 s3.heap s5.heap:=by
   have:=I5.base
   rw[← hX]at this
   exact this
  have os5:s5.os=s3.os:=by have:=I5.os;rw[← hX]at this;exact this
  have hok5:HOk X.prog X.w H5 s5.heap:=by
   have:=I5.hok
   rw[Yp,Yw]at this
   exact this
  refine post _ _ s5 H5 m (I3.call' (s':=s5) (ch:=fp) os5 un hok5 I5.bare fun b hb=>?_) hCn hn (Nat.ne_of_gt I3.lt) I3.sz (fun x a e=>?_) (fun p hp=>?_) q
  ·obtain⟨_,q1,_,q3,q4,q5⟩:=f3 b hb
   exact⟨q3,q1,q4,q5⟩
  ·obtain⟨v,ob,e',_⟩:=I3.cell x a e
   exact QB (Qm e')
  ·exact QB (Qm (I3.pin p hp).1)
 have loop:codeAny (model X.prog X.w) X.A (.compLoop (.ListComp elt [⟨tg,iter,ifs,0⟩] c pos) 0 (.ref it) (.ref s2.heap.objs.size) (compEnvC c (Zau X.env.cells c.names []) s3.heap.objs.size X.env))
   (compPost (model X.prog X.w) X.A X.xe use QQ (.ref s2.heap.objs.size) s3.heap.objs.size) { s3 with heap:=h₁,toks:=s2.toks }:=by
  rw[← Yenv,← YA]
  refine Zgc (E:=fun _ _=>False) (fun n s'=>∃i ys σ' H',Inv Y [] σ' H' s'∧tn i s'.heap∧(∀b∈fp,H' b=none)∧W i n ys σ' H') (fun _ _ z=>z) ?_ m0
   ⟨0,[],_,_,I4,st4,fun b hb=>(f3 b hb).1,?_⟩
  ·rintro n s5 ⟨i,ys,σ5,H5,I5,st5,fr5,w5⟩
   rcases turn i n ys σ5 H5 w5 with⟨stop,qn⟩|⟨go,Nn,hNn,step⟩
   ·refine thn (T.done Y Yp Yw YK Yc i [] s5 σ5 H5 _ I5 (stat fr5) st5 stop) fun r s6 ⟨hr,I6⟩=>?_
    subst hr
    have fq:=fin s6 σ5 H5 I6 qn
    rw[← YA]at fq
    exact fq
   ·refine thn (T.item Y Yp Yw YK Yc i [] s5 σ5 H5 _ I5 (stat fr5) st5 go) fun r s6 ⟨u,hr,h6⟩=>?_
    subst hr
    refine thn h6 fun _ s7 ⟨x,H7,I7,r7,y7,st7,fr7⟩=>?_
    have I7':=I7.pinned (stat fr7) (T.obj _ _ st7)
    have back:∀ {σ9:St} {H9:Hp} {s9:Shared},Inv Y ([]++ZeM fp s7.heap) σ9 H9 s9→Inv Y [] σ9 H9 s9∧tn (i+1) s9.heap∧∀b∈fp,H9 b=none:=fun {σ9 H9 s9} I9=>by
     refine⟨I9.unpinned,T.keep _ _ _ st7 fun b hb ob e=>(I9.pin (b,ob) (Qn _ (Qn _ (Zch hb e)))).1,fun b hb=>?_⟩
     obtain⟨ob,e,d⟩:=T.obj _ _ st7 b hb
     exact(I9.pin (b,ob) (Qn _ (Qn _ (Zch hb e)))).2.1
    have P1:=hg' _ s7 σ5 H7 x u _ I7' r7 (step x H7 y7)
    rw[Yp,Yw,Yxe]at P1
    refine thn P1 fun _ s8 ⟨σ8,H8,I8,q8⟩=>?_
    have P2:=ht' _ s8 σ8 H8 _ I8 q8
    rw[Yp,Yw,Yxe]at P2
    refine thn P2 fun ok s9 ⟨H9,I9,q9⟩=>?_
    cases ok with
    | false =>
     rw[if_neg Qi]at q9
     rw[if_neg Qi]
     obtain⟨b1,b2,b3⟩:=back I9
     obtain⟨m',hm',w9⟩:=hNn _ _ _ q9
     exact⟨m',hm',i+1,ys,σ8,H9,b1,b2,b3,w9⟩
    | true =>
     rw[if_pos rfl]at q9
     rw[if_pos rfl]
     have P3:=he' _ s9 σ8 H9 _ I9 q9
     rw[Yp,Yw,Yxe]at P3
     refine thn P3 fun y s10 ⟨vy,H10,I10,r10,hDl,hsz,q10⟩=>?_
     have P4:=Za4 (X:=Y) _ s10 σ8 H10 (.ref s2.heap.objs.size) [vy] (.ref s2.heap.objs.size) [y] (fun _ H'=>Nn (ys++[vy]) σ8 H') I10 rfl (.cons r10 .nil) ⟨_,ys,vy,rfl,rfl,hDl,hsz,q10⟩
     rw[Yp,Yw,Yxe]at P4
     refine thn P4 fun _ s11 ⟨_,H11,I11,_,q11⟩=>?_
     obtain⟨b1,b2,b3⟩:=back I11
     obtain⟨m',hm',w11⟩:=hNn _ _ _ q11
     exact⟨m',hm',i+1,ys++[vy],σ8,H11,b1,b2,b3,w11⟩
  ·exact w0
 have lp:=T.self X.A 0 { s3 with heap:=h₁,toks:=s2.toks } (fun it' s'=>codeAny (model X.prog X.w) X.A (.compLoop (.ListComp elt [⟨tg,iter,ifs,0⟩] c pos) 0 it' (.ref s2.heap.objs.size) (compEnvC c (Zau X.env.cells c.names []) s3.heap.objs.size X.env))
   (compPost (model X.prog X.w) X.A X.xe use QQ (.ref s2.heap.objs.size) s3.heap.objs.size) s') (fun _ _=>False) st4 loop
 exact codeAny_compStart_list loop (wpAny_mono lp (fun _ _ z=>z) fun _ _ z=>z.elim)
theorem Inv.let{pins:List (Addr×Obj)}{σ:St}{H:Hp}{s:Shared}{C:Addr}{h':Heap}(I:Inv X pins σ H s)(hn:H C=none)(hL:C≠X.env.locals)(h1:X.s₀.heap.objs.size≤C)
  (h2:∀x a,X.env.cells.lookup x=some a→a≠C) (h3:∀p∈X.pn++pins,p.1≠C) (hs:Heap.SameBut C s.heap h'):Inv X pins σ H { s with heap:=h' } :=
 I.turned (t':=s.toks) (fun b ob hb e=>hs.extBut b ob hb e) hn hL (.inr h1) h2 h3
theorem ZbD{elt tg iter:Expr}{ifs:List Expr}{pos:Pos}{wi:TI}{g:TG}{tc:TT}{te:TE}(S:Zan N N' o c)(hN:X.N=N)(ho:X.env.scope=o)(hc:X.calm=true)
  (hi:PI X tg iter wi) (hg:∀C s H fp,PG (ZaL X c N' C s H fp) tg g) (ht:∀C s H fp,PTs (ZaL X c N' C s H fp) ifs tc) (he:∀C s H fp,PE (ZaL X c N' C s H fp) elt te)
  (hs:∀x,foldedSetIterable iter X.env x=pure x:=by intro _;rfl) :
  PE X (.ListComp elt [⟨tg,iter,ifs,0⟩] c pos) (ZlK (N'.length-N.length) wi g tc te):=by
 intro pins s σ H Q I h
 rw[eval_ListComp]
 refine Zj6 (use:=none) S hN ho hc hi hg ht he hs I h fun D C s5 H5 m I5 hCn hn n1 n2 n3 n4 q=>⟨m,hn,fun h' hsb=>?_⟩
 exact⟨.ref D,H5,I5.let hCn n1 n2 n3 n4 hsb,rfl,q⟩
end
theorem ZeT{ys:List Str}:∀ {us:List Value},ZB (ys.map V.str) us→StrsAre us ys:=by
 induction ys with
 | nil=>intro us r;rw[List.map_nil]at r;cases r;exact .nil
 | cons y ys ih =>
  intro us r
  rw[Qg]at r
  cases r with
  | cons r1 r2 =>
   obtain⟨t,e⟩:=r1
   subst e
   exact .cons _ _ (ih r2)
theorem Zfv:∀ {vs:List Value} {ys:List Str},StrsAre vs ys→ZB (ys.map V.str) vs
 | _,_,.nil=>.nil
 | _,_,.cons _ t h=>.cons ⟨t,rfl⟩ (Zfv h)
section
variable {X:Cx}
def rIsi(K:PySem.W.Frag):List V→Hp→VK→Prop:=fun xs H Q=>∃x c t b,xs=[x,.ty c]∧Zd2 K H x t∧PySem.W.kitOne K t (.type c)=some b∧Q (.bl b) H
def rIsiT(K:PySem.W.Frag):List V→Hp→VK→Prop:=fun xs H Q=>∃ (x:V) (tp:Addr) (cs:List String) (t:Value) (b:Bool),xs=[x,.ref tp]∧H tp=some (.tup (cs.map V.ty))∧Zd2 K H x t∧PySem.W.kitAny K t (cs.map Value.type)=some b∧Q (.bl b) H
theorem Zgf:Za1 X (.builtin "sorted") (fun xs H Q=>∃ (p:Addr) (ss:List Str),xs=[.ref p]∧SqL X.K H p (ss.map V.str)∧ss.length<64 ∧
  ∀ (l:Addr) (ss':List Str),H l=none→ss'.Perm ss→sortedS ss'=true→Q (.ref l) (upd H l (.lst (ss'.map V.str)))):=by
 intro pins s σ H xs us Q I r h
 obtain⟨p,ss,rfl,hq,h64,q⟩:=h
 obtain⟨u,rfl,rx⟩:=Zc9 r
 cases rx
 obtain⟨its,rv,pl,hz⟩:=I.list hq
 have hlen:=rv.length
 rw[Qa]at hlen hz
 refine sorted_strs pl.isList (ZeT rv) (by omega) fun out ss' a1 a2 a3=>?_
 obtain⟨e,he⟩:=sortedAll_at s.heap its out
 have hp:=a2.length_eq
 refine⟨.ref (s.heap.objs.size+1),_,I.laid (t':=s.toks) (o:=.lst (ss'.map V.str)) (fun _ _=>sortedAll_old) (Nat.le_succ _) ⟨by rw[Qa];omega,out.toList,e,Zfv a1,by simpa using he⟩,rfl,q _ ss' (I.hok.fresh (Nat.le_succ _)) a2 a3⟩
theorem Zll:MtR X "str.join" (fun x vs H Q=>∃ (sep:Str) (p:Addr) (ys:List Str),x=.str sep∧vs=[.ref p]∧SqL X.K H p (ys.map V.str)∧(ys.map (·.length)).sum+ys.length*sep.length≤16777216∧Q (.str (Txt.join sep ys)) H):=by
 intro pins s σ H x vs v us Q I rx rv h
 obtain⟨sep,p,ys,rfl,rfl,hq,hz,q⟩:=h
 obtain⟨t,rfl⟩:=rx
 obtain⟨u,rfl,ru⟩:=rv.one
 cases ru
 obtain⟨its,r',pl,_⟩:=I.list hq
 exact join_list pl.isList (ZeT r') hz fun t' k=>⟨.str _,H,I.tok _,⟨_,rfl⟩,q⟩
theorem Zk9:OpR X (binaryOp .Mult) (fun x y H Q=>∃a n,x=.str a∧y=.int n∧0≤n∧n≤1000000∧(a.length:Int)*n≤1000000∧Q (.str (Txt.mul a n)) H):=by
 intro pins s σ H x y v u Q I rx ry h
 obtain⟨a,n,rfl,rfl,h0,h1,h2,q⟩:=h
 obtain⟨t,rfl⟩:=rx
 obtain⟨t',rfl⟩:=ry
 have h2':a.length*n.toNat≤1000000:=by
  have e:((a.length*n.toNat:Nat):Int)=(a.length:Int)*n:=by rw[Int.natCast_mul,Int.toNat_of_nonneg h0]
  omega
 refine PySem.P.mul_str ?_ (fun c1 c2=>?_) (fun c1 c2=>?_) ?_
 ·have e1:decide (n < -(2 ^ 63:Int))=false:=decide_eq_false (by omega)
  have e2:decide (n≥2 ^ 63)=false:=decide_eq_false (by omega)
  rw[e1,e2];rfl
 ·have hn:(1:Int)≤n:=by omega
  have q1:(a.length:Int)*1≤(a.length:Int)*n:=Int.mul_le_mul_of_nonneg_left hn (Int.natCast_nonneg _)
  have q2:(1000000:Int)≤(2 ^ 63-1) / n:=by
   rw[Int.le_ediv_iff_mul_le (by omega)]
   have:(1000000:Int)*n≤1000000*1000000:=Int.mul_le_mul_of_nonneg_left h1 (by decide)
   omega
  omega
 ·unfold Builtin.Str.tooLong
  have hl:sizeLine=16777216:=sizeLine_eq
  exact decide_eq_false (by omega)
 ·have e:Txt.mul a n=if n<1 then Str.empty else if (n == 1||a.length == 0)=true then a else ⟨(List.replicate n.toNat a.cps).foldl (·++·) #[]⟩:=rfl
  rw[e]at q
  by_cases c1:n<1
  ·rw[if_pos c1]at q ⊢
   exact⟨by decide,.str _,H,I.tok _,⟨_,rfl⟩,q⟩
  ·rw[if_neg c1]at q ⊢
   by_cases c2:(n == 1||a.length == 0)=true
   ·rw[if_pos c2]at q ⊢
    exact⟨.str _,H,I,⟨_,rfl⟩,q⟩
   ·rw[if_neg c2]at q ⊢
    refine⟨?_,.str _,H,I.tok _,⟨_,rfl⟩,q⟩
    have hfold:∀ (k:Nat) (acc:Array Nat),((List.replicate k a.cps).foldl (·++·) acc).size=acc.size+k*a.cps.size:=by
     intro k
     induction k with
     | zero=>intro acc;simp
     | succ k ih=>intro acc;rw[List.replicate_succ,List.foldl_cons,ih,Array.size_append,Nat.succ_mul];omega
    show ((List.replicate n.toNat a.cps).foldl (·++·) #[]).size≤sizeLine
    rw[hfold]
    have e2:a.cps.size=a.length:=rfl
    have:n.toNat*a.cps.size≤1000000:=by rw[e2,Nat.mul_comm];exact h2'
    have hl:sizeLine=16777216:=sizeLine_eq
    simp only[List.size_toArray,List.length_nil]
    omega
def rSlS:V→Option Int→Option Int→Hp→VK→Prop:=fun x lo hi H Q=>∃z,x=.str z∧z.length≤sizeLine∧Q (.str (Txt.slice z lo hi)) H
end
inductive Src where
 | l (a:Addr)|t (a:Addr)|s (z:Str)
def Src.val:Src→V
 | .l a=>.ref a
 | .t a=>.ref a
 | .s z=>.str z
def Zk3(c:Nat):V:=.str ⟨#[c]⟩
def Src.its(K:PySem.W.Frag)(H:Hp):Src→List V→Prop
 | .l a,xs=>SqL K H a xs
 | .t a,xs=>SqT K H a xs
 | .s z,xs=>xs=z.cps.toList.map Zk3
def Src.at(h:Heap)(i:Addr):Src→Nat→Prop
 | .l a,k=>h.IsListIter i a k
 | .t a,k=>h.IsTupleIter i a k
 | .s z,k=>∃tk,h.IsStrIter i (strIterType z) z tk k
def Src.raw(h:Heap):Src→List Value→Prop
 | .l a,us=>h.IsList a us.toArray
 | .t a,us=>h.IsTuple a us.toArray
 | .s _,_=>True
def Src.fit:Src→List Value→Nat→Value→Prop
 | .l _,us,k,u=>us[k]? = some u
 | .t _,us,k,u=>us[k]? = some u
 | .s z,_,k,u=>∃c tk,z.cps[k]? = some c∧u=.str ⟨#[c]⟩ tk
def Src.many:Src→List Value→Nat
 | .l _,us=>us.length
 | .t _,us=>us.length
 | .s z,_=>z.cps.size
def Src.off:Src→Addr→Prop
 | .l a,b=>a≠b
 | .t a,b=>a≠b
 | .s _,_=>True
section
variable {prog:Program} {w:World} {A:Around} {E:Value→Shared→Prop} {s:Shared}
structure ZipOff (z TI TO i1 i2:Addr) (S1 S2:Src):Prop where
 TIz:TI≠z
 TOz:TO≠z
 i1z:i1≠z
 i2z:i2≠z
 TITO:TI≠TO
 TIi1:TI≠i1
 TIi2:TI≠i2
 TOi1:TO≠i1
 TOi2:TO≠i2
 i12:i1≠i2
 s1z:S1.off z
 s1TO:S1.off TO
 s1i1:S1.off i1
 s1i2:S1.off i2
 s2z:S2.off z
 s2TO:S2.off TO
 s2i1:S2.off i1
 s2i2:S2.off i2
end
def Src.iter(tk:Tok):Src→Obj
 | .l a=>{ cls:=.type "list_iterator",data:=.fields #[.ref a,.int 0 0] }
 | .t a=>{ cls:=.type "tuple_iterator",data:=.fields #[.ref a,.int 0 0] }
 | .s z=>{ cls:=.type (strIterType z),data:=.fields #[.str z tk,.int 0 0] }
def Src.value(tk:Tok):Src→Value
 | .l a=>.ref a
 | .t a=>.ref a
 | .s z=>.str z tk
abbrev zH1(h:Heap)(S1:Src)(t1:Tok):Heap:=h.push (S1.iter t1)
abbrev zH2(h:Heap)(S1 S2:Src)(t1 t2:Tok):Heap:=(zH1 h S1 t1).push (S2.iter t2)
abbrev zH3(h:Heap)(S1 S2:Src)(t1 t2:Tok):Heap:=(zH2 h S1 S2 t1 t2).push { cls:=.type "tuple",data:=.seq #[.ref h.objs.size,.ref (zH1 h S1 t1).objs.size] }
abbrev zH4(h:Heap)(S1 S2:Src)(t1 t2:Tok):Heap:=(zH3 h S1 S2 t1 t2).push { cls:=.type "tuple",data:=.seq #[.none,.none] }
abbrev zH5(h:Heap)(S1 S2:Src)(t1 t2:Tok):Heap:=(zH4 h S1 S2 t1 t2).push { cls:=.type "zip",data:=.fields #[.none,.bool false,.bool false,.ref (zH2 h S1 S2 t1 t2).objs.size,.ref (zH3 h S1 S2 t1 t2).objs.size] }
section
variable {prog:Program} {w:World} {A:Around} {E:Value→Shared→Prop} {s:Shared}
end
def Itz(K:PySem.W.Frag)(S1 S2:Src):It :=
 ⟨fun i H=>∃xs ys,S1.its K H xs∧S2.its K H ys∧i<xs.length∧i<ys.length,
  fun i H v H'=>∃p,H p=none∧v=.ref p∧∀xs ys,S1.its K H xs→S2.its K H ys→∀x y,xs[i]? = some x→ys[i]? = some y→H'=upd H p (.tup [x,y]),
  fun i H=>∃xs ys,S1.its K H xs∧S2.its K H ys∧(xs.length≤i∨ys.length≤i)⟩
section
variable {X:Cx} {pins:List (Addr×Obj)} {σ:St} {H:Hp} {s:Shared}
theorem Inv.zipped{fp:List Addr}{h':Heap}{tk:Nat}{x y:V}{u v:Value}(I:Inv X pins σ H s)(hf:∀b∈fp,Zet X pins H b)(rx:Zy x u)(ry:Zy y v)
  (hp:IsPair h' s.heap.objs.size u v) (hfh:∀b∈fp,∃o,h'.get? b=some o) (hk:∀c o,c ∉ fp→s.heap.get? c=some o→h'.get? c=some o) :
  Inv X pins σ (upd H s.heap.objs.size (.tup [x,y])) { s with heap:=h',toks:=tk }:=by
 have hn:H s.heap.objs.size=none:=I.fresh
 have ne:∀b ob,s.heap.get? b=some ob→b≠s.heap.objs.size:=fun b ob e=>QB (Qm e)
 have nt:∀b u,H b=some u→b≠s.heap.objs.size:=fun b u e=>Zb e hn
 have nfp:∀b u,H b=some u→b ∉ fp:=fun b u e hb=>by rw[(hf b hb).1]at e;cases e
 refine I.step (g':=s.gens) (d':=s.drawn) (ch:=fp) (fun b hb=>⟨(hf b hb).2.2.2.1,(hf b hb).2.1,(hf b hb).2.2.2.2.1,(hf b hb).2.2.2.2.2⟩)
  (fun b ob _ _ hc e _=>hk b ob hc e) (fun b ob _ _ hc e _=>⟨ob.slots,hk b ob hc e⟩) (fun b ob _ e n=>by rw[Zc (ne b ob e)];exact n) (fun b ob hc e=>⟨ob,hk b ob hc e⟩)
  (fun b xs e=>by rw[Zc (nt b _ e)];exact e) (fun b ob u e=>by rw[Zc (nt b _ e)];exact e) (fun b ps e=>⟨#[],by rw[Zc (nt b _ e),e];simp⟩) (fun m hm=>?_) (fun b ub e=>?_) I.bare
 ·obtain⟨ob,es,ep,ho,r⟩:=hm
  exact⟨ob,es,ep,hk _ ob (fun z=>(hf _ z).2.1 rfl) ho,r⟩
 ·by_cases hb:b=s.heap.objs.size
  ·subst hb
   rw[Zg]at e;cases e
   exact⟨by show 2≤sizeLine;decide,[u,v],.cons rx (.cons ry .nil),⟨_,hp,rfl,_,rfl⟩⟩
  ·rw[Zc hb]at e
   refine(I.hok b ub e).stay (fun c w' hc q=>hk c w' ?_ q) (fun c q=>by rw[Zc (nt c _ q)];exact q) fun c xs q=>by rw[Zc (nt c _ q)];exact q
   rcases hc with z|z
   ·rw[z];exact nfp b ub e
   ·exact nfp c _ z
end
def iZip(K:PySem.W.Frag)(ta:TA):TI:=fun σ H R=>ta σ H fun vs H1=>∃S1 S2 xs ys,vs=[Src.val S1,Src.val S2]∧S1.its K H1 xs∧S2.its K H1 ys∧R (Itz K S1 S2) H1
section
variable {X:Cx} (K:PySem.W.Frag)
theorem ixL(h:X.K=K:=by rfl):IxR X (ZlT K):=by subst h;exact ZkC
theorem ixT(h:X.K=K:=by rfl):IxR X (ZmH K):=by subst h;exact ZmO
theorem slL(h:X.K=K:=by rfl):SlR X (Znd K):=by subst h;exact Zky
def ZnO:List V→Hp→VK→Prop:=fun xs H Q=>∃p ys,xs=[.ref p]∧(SqL K H p ys∨SqT K H p ys)∧Q (.int ys.length) H
theorem ZdP(h:X.K=K:=by rfl):Za1 X (.builtin "len") (ZnO K):=by subst h;exact Zf2
def rAllQ:List V→Hp→VK→Prop:=fun xs H Q=>∃ (p:Addr) (bs:List Bool),xs=[.ref p]∧SqL K H p (bs.map V.bl)∧Q (.bl (bs.all id)) H
def rSrtI:List V→Hp→VK→Prop:=fun xs H Q=>∃ (p:Addr) (ns:List Int),xs=[.ref p]∧SqL K H p (ns.map V.int)∧ns.length<64 ∧
  ∀ (l:Addr) (ns':List Int),H l=none→ns'.Perm ns→ns'.Pairwise (·≤·)→Q (.ref l) (upd H l (.lst (ns'.map V.int)))
def Zna:List V→Hp→VK→Prop:=fun xs H Q=>∃ (p:Addr) (ss:List Str),xs=[.ref p]∧SqL K H p (ss.map V.str)∧ss.length<64 ∧
  ∀ (l:Addr) (ss':List Str),H l=none→ss'.Perm ss→sortedS ss'=true→Q (.ref l) (upd H l (.lst (ss'.map V.str)))
theorem Zom(h:X.K=K:=by rfl):Za1 X (.builtin "sorted") (Zna K):=by subst h;exact Zgf
def ZnL:V→List V→Hp→VK→Prop:=fun x vs H Q=>∃ (sep:Str) (p:Addr) (ys:List Str),x=.str sep∧vs=[.ref p]∧SqL K H p (ys.map V.str)∧(ys.map (·.length)).sum+ys.length*sep.length≤16777216∧Q (.str (Txt.join sep ys)) H
theorem ZnP(h:X.K=K:=by rfl):MtR X "str.join" (ZnL K):=by subst h;exact Zll
theorem iL{tg l:Expr}{tl:TE}(hl:PE X l tl)(h:X.K=K:=by rfl):PI X tg l (ZlC K tl):=by subst h;exact Zk6 hl
theorem gT{es:List Expr}{k:Nat}{t:TGs}{n:Nat}{pos:Pos}(h:PGs X es t)(hK:X.K=K:=by rfl)(hc:X.calm=true:=by rfl)
  (hn:(assignEach es X.env).length=n:=by rfl) (hst:(assignEach es X.env).findIdx? (·.1)=none:=by rfl):PG X (.Tuple es k pos) (Znb K n t):=by subst hK;exact Zmy hc h hn hst
end
structure Df (P:Program) (w:World) (K:PySem.W.Frag) (mg:Str→Option Value) (base:Heap) (k:Nat) (x:Str) (ps:List Str) (sp:Sp):Prop where
 ex:∃f fd,Zc5 P w K mg base CX0 k f fd ps sp∧mg x=some (.ref f)∧PySem.W.keepIn K (.ref f)=true∧Zbw K fd ps []
section
variable {P:Program} {w:World} {K:PySem.W.Frag} {mg:Str→Option Value} {base:Heap}
structure Top (K:PySem.W.Frag) (mg:Str→Option Value) (x:Str) (st:Stmt) (ps:List Str):Prop where
 ex:∃f fd,Fun K x x st f fd∧mg x=some (.ref f)∧Zbw K fd ps []
theorem Top.df{x:Str}{st:Stmt}{N ps:List Str}{k:Nat}{sp:Sp}(T:Top K mg x st ps)(S:Zq N ps (Zd st))(len:∀vs H Q E,sp vs H Q E→vs.length=ps.length)
  (hbody:∀ (cdv:Value) (f:Addr) (A:Around) (outer:List Env) (s:Shared) (H:Hp) (vs:List V) (Q:VK) (E:XK),ZaC k (A.deeper (envOfC x (Zd st) s.heap.objs.size f cdv))→sp vs H Q E →
   ∃t,PSs (Zf8 CX0 P w K mg base N x (Zd st) f cdv A outer s H E).nox (Zm st) t∧t { nx:=fun _ H'=>Q .non H',rt:=Q } (ZcI N vs) H):Df P w K mg base (k+1) x ps sp:=by
 obtain⟨f,fd,F,m,b⟩:=T.ex
 exact⟨f,fd,F.ok S len (fun cdv A outer s H vs Q E hr h=>hbody cdv f A outer s H vs Q E hr h),m,F.kp,b⟩
end
section
variable {X:Cx} {k j:Nat} {x:Str} {ps:List Str} {sp:Sp} {e:Expr} {es:List Expr} {t:TA} {p pos:Pos}
theorem Zz(F:Df X.prog X.w X.K X.mg X.base k x ps sp)(hr:ZaC j X.A)(ha:PA X (e::es) t)(hjk:k≤j:=by decide)(hg:Gl X x:=by rfl)(hdb:(x == ("__debug__" : Str))=false:=by decide)
  (he:starEach (e::es) X.env=(false,eval e X.env)::starEach es X.env:=by rfl) (hpl:(backTo pos (starEach es X.env)).any (·.1)=false:=by rfl) :
  PE X (.Call (.Name x p) (e::es) [] pos) (ZlG sp [] E0 t):=by
 obtain⟨f,fd,F,m,kp,b⟩:=F.ex
 exact ZkA F (hr.mono hjk) hg m kp b .nil Zh6 ha hdb he hpl
end
theorem Zdl{lo:Int}{n k:Nat}{D:Addr}{σ:St}{H1:Hp}{g:TG}{te:TE}{Q:VK}(Pv:Nat→List V→St→Hp→Prop)(h0:Pv 0 [] (σ++List.replicate k none) (upd H1 D (.lst [])))
  (hs:∀i ys σ H,i<n→Pv i ys σ H→g (.int (lo+i)) σ H fun σ4 H4=>te σ4 H4 fun y H6=>H6 D=some (.lst ys)∧ys.length<sizeLine∧Pv (i+1) (ys++[y]) σ4 (upd H6 D (.lst (ys++[y]))))
  (hd:∀ys σ H,Pv n ys σ H→Q (.ref D) H):ZdZ (Itr lo n) D k σ H1 g Zkh te Q:=by
 refine⟨fun i m ys σ H=>m=n-i∧i≤n∧Pv i ys σ H,⟨n,by simp,Qq _,h0⟩,?_⟩
 rintro i m ys σ H ⟨rfl,hi,p⟩
 by_cases hlt:i<n
 ·refine .inr ⟨hlt,Pv (i+1),fun ys' σ' H' p'=>⟨n-(i+1),by omega,rfl,hlt,p'⟩,fun x H' y=>?_⟩
  obtain⟨e,y⟩:=y
  subst e y
  simp only[Zkh,↓reduceIte]
  exact hs i ys σ _ hlt p
 ·have e:i=n:=by omega
  subst e
  exact .inl ⟨Qd _,hd ys σ H p⟩
section
variable {X:Cx} {N N':List Str} {o c:Scope} {x:Str} {pos:Pos} {C:Addr} {s:Shared} {H:Hp} {fp:List Addr}
theorem Zdf(S:Zan N N' o c)(ho:X.env.scope=o)(hl:c.names.lookup x=some .local):(ZaL X c N' C s H fp).env.scope.names.lookup x=some .local:=by
 have e:=ZbR (X:=X) S ho (Zau X.env.cells c.names []) C x
 rw[hl]at e
 exact e
theorem ZcY(S:Zan N N' o c)(ho:X.env.scope=o)(hl:c.names.lookup x=some .globalImplicit):Gl (ZaL X c N' C s H fp) x:=by
 have e:=ZbR (X:=X) S ho (Zau X.env.cells c.names []) C x
 rw[hl]at e
 exact e
theorem Zjm(S:Zan N N' o c)(ho:X.env.scope=o)(hl:c.names.lookup x=some .free):Vis (ZaL X c N' C s H fp).env.scope x:=by
 have e:=ZbR (X:=X) S ho (Zau X.env.cells c.names []) C x
 rw[hl]at e
 have e':(ZaL X c N' C s H fp).env.scope.names.lookup x=if X.env.kindOf x=some .cell then some NameKind.cell else some NameKind.free:=e
 by_cases z:X.env.kindOf x=some .cell
 ·rw[if_pos z]at e';exact .inr (.inl e')
 ·rw[if_neg z]at e';exact .inr (.inr e')
theorem cv(i:Nat)(S:Zan N N' o c)(ho:X.env.scope=o)(hl:c.names.lookup x=some .free)(hN:N'[i]? = some x:=by rfl)(hd:(x == ("__debug__" : Str))=false:=by decide)(hcd:(x == ("__classdict__" : Str))=false:=by decide) :
  PE (ZaL X c N' C s H fp) (.Name x pos) (ZkN i):=Zg6 hN (Zjm S ho hl) hd hcd
theorem cw(i:Nat)(S:Zan N N' o c)(ho:X.env.scope=o)(hl:c.names.lookup x=some .local)(hN:N'[i]? = some x:=by rfl)(hd:(x == ("__debug__" : Str))=false:=by decide)(hcd:(x == ("__classdict__" : Str))=false:=by decide) :
  PE (ZaL X c N' C s H fp) (.Name x pos) (ZkN i):=Zg6 hN (.inl (Zdf S ho hl)) hd hcd
theorem cg(i:Nat)(S:Zan N N' o c)(ho:X.env.scope=o)(hl:c.names.lookup x=some .local)(hi:N'[i]? = some x:=by rfl):PG (ZaL X c N' C s H fp) (.Name x pos) (ZjW i) :=
 ZR S.nd hi (.inl (Zdf S ho hl)) (.inr (Zdf S ho hl))
end
mutual
inductive DV (K:PySem.W.Frag) (H:Hp):V→PyData→Prop where
 | non:DV K H .non .none
 | bl (b:Bool):DV K H (.bl b) (.bool b)
 | int (i:Int):DV K H (.int i) (.int i)
 | str (s:Str):DV K H (.str s) (.str s)
 | lst {a:Addr} {xs:List V} {ds:List PyData}:SqL K H a xs→DVs K H xs ds→DV K H (.ref a) (.list ds)
 | tup {a:Addr} {xs:List V} {ds:List PyData}:SqT K H a xs→DVs K H xs ds→DV K H (.ref a) (.tuple ds)
inductive DVs (K:PySem.W.Frag) (H:Hp):List V→List PyData→Prop where
 | nil:DVs K H [] []
 | cons {x:V} {d:PyData} {xs:List V} {ds:List PyData}:DV K H x d→DVs K H xs ds→DVs K H (x::xs) (d::ds)
end
section
variable {X:Cx} {pins:List (Addr×Obj)} {σ:St} {H:Hp} {s:Shared}
mutual
theorem Inv.reads(I:Inv X pins σ H s):∀ {x:V} {d:PyData} {u:Value},DV X.K H x d→Zy x u→∃as,Reads s.heap u d as
 | _,_,_,.non,r=>by cases r;exact⟨_,.none⟩
 | _,_,_,.bl b,r=>by cases r;exact⟨_,.bool b⟩
 | _,_,_,.int i,r=>by obtain⟨t,rfl⟩:=r;exact⟨_,.int i t⟩
 | _,_,_,.str z,r=>by obtain⟨t,rfl⟩:=r;exact⟨_,.str z t⟩
 | _,_,_,.lst h hs,r=>by
  cases r
  obtain⟨its,rv,⟨o,n,e,hc,_,hd⟩,_⟩:=I.list h
  obtain⟨as,q⟩:=Inv.readsAll I hs rv
  exact⟨_,reads_list_at e hc hd (by simpa using q)⟩
 | _,_,_,.tup h hs,r=>by
  cases r
  obtain⟨its,rv,⟨o,e,hc,n,hd⟩,_⟩:=I.tuple h
  obtain⟨as,q⟩:=Inv.readsAll I hs rv
  exact⟨_,reads_tuple_at e hc hd (by simpa using q)⟩
theorem Inv.readsAll(I:Inv X pins σ H s):∀ {xs:List V} {ds:List PyData} {us:List Value},DVs X.K H xs ds→ZB xs us→∃as,ReadsAll s.heap us ds as
 | _,_,_,.nil,r=>by cases r;exact⟨_,.nil⟩
 | _,_,_,.cons h hs,r=>by
  cases r with
  | cons r1 r2 =>
   obtain⟨as,q1⟩:=Inv.reads I h r1
   obtain⟨bs,q2⟩:=Inv.readsAll I hs r2
   exact⟨_,.cons q1 q2⟩
end
def Znh(K:PySem.W.Frag)(neg:Bool):R2:=fun x y H Q=>∃d e,DV K H x d∧DV K H y e∧SeqAt.shaped d=true∧SeqAt.shaped e=true∧Q (.bl (if neg then !PyData.eqv d e else PyData.eqv d e)) H
theorem Zmi(hu:X.A.units+64<cLine):OpR X (compareOp .NotEq) (Znh X.K true):=by
 intro pins s σ H x y v u Q I rx ry h
 obtain⟨d,e,h1,h2,s1,s2,q⟩:=h
 obtain⟨as,r1⟩:=I.reads h1 rx
 obtain⟨bs,r2⟩:=I.reads h2 ry
 exact ne_dataH r1 r2 s1 s2 hu ⟨.bl _,H,I,rfl,q⟩
end
theorem neD{X:Cx}(K:PySem.W.Frag){k:Nat}(hr:ZaC k X.A)(h:X.K=K:=by rfl):OpR X (compareOp .NotEq) (Znh K true):=by subst h;exact Zmi hr.units
mutual
theorem DV.mono{K:PySem.W.Frag}{H H':Hp}(s:Zx H H'):∀ {x:V} {d:PyData},DV K H x d→DV K H' x d
 | _,_,.non=>.non
 | _,_,.bl b=>.bl b
 | _,_,.int i=>.int i
 | _,_,.str z=>.str z
 | _,_,.lst h hs=>.lst (s.seq h) (DVs.mono s hs)
 | _,_,.tup h hs=>.tup (by
   rcases h with(h|⟨ob,h⟩)|h
   ·exact .inl (.inl (s _ _ h))
   ·exact .inl (.inr ⟨ob,s _ _ h⟩)
   ·exact .inr h) (DVs.mono s hs)
theorem DVs.mono{K:PySem.W.Frag}{H H':Hp}(s:Zx H H'):∀ {xs:List V} {ds:List PyData},DVs K H xs ds→DVs K H' xs ds
 | _,_,.nil=>.nil
 | _,_,.cons h hs=>.cons (DV.mono s h) (DVs.mono s hs)
end
def Ite(K:PySem.W.Frag)(a:Addr):It :=
 ⟨fun i H=>∃xs,SqL K H a xs∧i<xs.length,
  fun i H v H'=>∃p,H p=none∧v=.ref p∧∀xs,SqL K H a xs→∀x,xs[i]? = some x→H'=upd H p (.tup [.int i,x]),
  fun i H=>∃xs,SqL K H a xs∧xs.length≤i⟩
theorem Ziq{P:Program}{w:World}{K:PySem.W.Frag}{elts:List Expr}{x1:Nat}{tpos:Pos}{a e it:Addr}(hne:e≠it) :
  ZjO P w K (.Tuple elts x1 tpos) (Ite K a) [e,it] e (fun i h=>(∃old,IsEnum h e it i old)∧h.IsListIter it a i) where
 mem:=by simp
 obj:=fun i h st b hb=>by
  obtain⟨⟨old,he⟩,o,hit,hc,hd⟩:=st
  simp only[List.mem_cons,List.not_mem_nil,or_false]at hb
  rcases hb with rfl|rfl
  ·exact⟨_,he,fun v z=>by cases z⟩
  ·exact⟨o,hit,fun v z=>by rw[hd]at z;cases z⟩
 keep:=fun i h h' st k=>by
  obtain⟨⟨old,he⟩,hit⟩:=st
  exact⟨⟨old,k e (by simp) _ he⟩,hit.at fun o q=>k it (by simp) o q⟩
 item:=by
  intro X hP hw hK hc i pins s σ H E I hf st hg
  subst hP hw hK
  obtain⟨⟨old,he⟩,hit⟩:=st
  obtain⟨xs,q1,l1⟩:=hg
  obtain⟨its,rv,pl,_⟩:=I.list q1
  obtain⟨u,hu,ru⟩:=rv.get (Qb l1)
  refine wpAny_pyNext_enum_item he hit pl.isList (x:=u) (by simpa using hu) hne fun h' a1 a2 a3 a4 a5=>?_
  have lt:∀ {b:Addr} {o:Obj},s.heap.get? b=some o→s.heap.objs.size≠b:=fun q=>Nat.ne_of_gt (Qm q)
  have hes:s.heap.objs.size≠e:=lt he
  refine⟨_,rfl,wpAny_letOwnedTupleGo_enum a1 fun h'' he'' hs''=>?_⟩
  have hs':Heap.SameBut e h' h'':=hs''
  have hit'':h''.IsListIter it a (i+1):=a2.extBut hs'.extBut hne.symm
  have I2:Inv X pins σ (upd H s.heap.objs.size (.tup [.int i,xs[i]])) { s with heap:=h'',toks:=s.toks+1 }:=by
   refine I.zipped (fp:=[e,it]) (u:=.int i s.toks) (v:=u) hf ⟨_,rfl⟩ ru (hs'.extBut _ _ hes a3) (fun b hb=>?_) fun c o hc q=>?_
   ·simp only[List.mem_cons,List.not_mem_nil,or_false]at hb
    rcases hb with rfl|rfl
    ·exact⟨_,he''⟩
    ·obtain⟨o,q,_⟩:=hit'';exact⟨o,q⟩
   ·simp only[List.mem_cons,List.not_mem_nil,or_false,not_or]at hc
    exact hs'.extBut _ _ hc.1 (a5 c o hc.1 hc.2 q)
  refine⟨.ref s.heap.objs.size,_,I2,rfl,⟨s.heap.objs.size,I.fresh,rfl,fun xs' w1 x' e1=>?_⟩,⟨⟨_,he''⟩,hit''⟩,fun b hb=>?_⟩
  ·have e3:=I.list_inj w1 q1
   subst e3
   rw[Qb l1]at e1
   cases e1
   rfl
  ·rw[Zc (fun z=>by
    obtain⟨o,q⟩:∃o,s.heap.get? b=some o:=by
     simp only[List.mem_cons,List.not_mem_nil,or_false]at hb
     rcases hb with rfl|rfl
     ·exact⟨_,he⟩
     ·obtain⟨o,q,_⟩:=hit;exact⟨o,q⟩
    exact lt q z.symm)]
   exact(hf b hb).1
 done:=by
  intro X hP hw hK hc i pins s σ H E I hf st hg
  subst hP hw hK
  obtain⟨⟨old,he⟩,hit⟩:=st
  obtain⟨xs,q1,l1⟩:=hg
  obtain⟨its,rv,pl,_⟩:=I.list q1
  obtain⟨f0,f1,f2,f3,f4,f5⟩:=hf it (by simp)
  have hl:=rv.length
  exact wpAny_pyNext_enum_end (I.ok.hd hc) he hit pl.isList (by rw[List.getElem?_toArray];exact Q6 (by omega)) fun h' eb=>⟨rfl,I.turned (t':=s.toks) (fun b o hb q=>eb b o hb q) f0 f1 f3 f4 f5⟩
 self:=fun _ _ _ _ _ st h=>by obtain⟨⟨old,he⟩,_⟩:=st;exact wpAny_pyIter_enum he h
def ZlD(K:PySem.W.Frag)(ta:TA):TI:=fun σ H R=>ta σ H fun vs H1=>∃a xs,vs=[V.ref a]∧SqL K H1 a xs∧R (Ite K a) H1
theorem Zk2{X:Cx}{l:Expr}{ta:TA}{p pos:Pos}{elts:List Expr}{x1:Nat}{tpos:Pos}(hg:Gl X "enumerate")(hm:X.mg "enumerate" = none)(ha:PA X [l] ta)
  (hs:starEach [l] X.env=[(false,eval l X.env)]:=by rfl):PI X (.Tuple elts x1 tpos) (.Call (.Name "enumerate" p) [l] [] pos) (ZlD X.K ta):=by
 intro pins s σ H R I h
 refine Call_ (Zer I hg hm boot_enumerate (QU (thn (ha pos pins s σ H _ I h) fun us s1 ⟨vs,H1,I1,r1,q1⟩=>?_) hs rfl))
 obtain⟨a,xs,e,y1,q⟩:=q1
 subst e
 obtain⟨u,rfl,ru⟩:=r1.one
 cases ru
 obtain⟨its,rv,pl,_⟩:=I1.list y1
 refine call_enumerate_list pl.isList fun h' he hit hsz hk=>wpAny_pyIter_enum he ?_
 have I2:Inv X pins σ H1 { s1 with heap:=h' }:=I1.kept (t':=s1.toks) hk
 refine⟨_,_,_,_,H1,rfl,I2,Ziq (a:=a) (e:=s1.heap.objs.size+1) (it:=s1.heap.objs.size) (Nat.ne_of_gt (Nat.lt_succ_self _)),⟨⟨_,he⟩,hit⟩,fun b hb=>?_,q⟩
 have hb':s1.heap.objs.size≤b:=by
  simp only[List.mem_cons,List.not_mem_nil,or_false]at hb
  rcases hb with rfl|rfl
  ·exact Nat.le_add_right _ 1
  ·exact Qd _
 exact I1.fpOk hb' (I1.hok.fresh hb')
theorem iE{X:Cx}(K:PySem.W.Frag){l:Expr}{ta:TA}{p pos:Pos}{elts:List Expr}{x1:Nat}{tpos:Pos}(hm:X.mg "enumerate" = none)(ha:PA X [l] ta)(hg:Gl X "enumerate":=by rfl)(hK:X.K=K:=by rfl)
  (hs:starEach [l] X.env=[(false,eval l X.env)]:=by rfl):PI X (.Tuple elts x1 tpos) (.Call (.Name "enumerate" p) [l] [] pos) (ZlD K ta):=by subst hK;exact Zk2 hg hm ha hs
theorem ZgE{K:PySem.W.Frag}{a:Addr}{xs:List V}{g:TG}{tb:TS}{D:ZbJ}{σ:St}{H:Hp}(Pv:Nat→St→Hp→Prop)(h0:Pv 0 σ H)(hl:∀i σ H,Pv i σ H→SqL K H a xs)
  (hs:∀i x σ H p,xs[i]? = some x→Pv i σ H→H p=none→g (.ref p) σ (upd H p (.tup [.int i,x])) fun σ2 H2=>tb { D with nx:=Pv (i+1),ct:=Pv (i+1),bk:=D.nx } σ2 H2) (hd:∀σ H,Pv xs.length σ H→D.nx σ H) :
  ∃W:Nat→Nat→St→Hp→Prop,(∃m,W 0 m σ H)∧∀i m σ H,W i m σ H →
   ((Ite K a).stop i H∧D.nx σ H)∨((Ite K a).go i H∧∃N:St→Hp→Prop,(∀σ' H',N σ' H'→∃m',m'<m∧W (i+1) m' σ' H')∧∀x H',(Ite K a).yld i H x H'→g x σ H' fun σ2 H2=>tb { D with nx:=N,ct:=N,bk:=D.nx } σ2 H2):=by
 refine⟨fun i m σ H=>m=xs.length-i∧i≤xs.length∧Pv i σ H,⟨xs.length,by simp,Qq _,h0⟩,?_⟩
 rintro i m σ H ⟨rfl,hi,p⟩
 have q1:=hl i σ H p
 by_cases hlt:i<xs.length
 ·refine .inr ⟨⟨xs,q1,hlt⟩,Pv (i+1),fun σ' H' p'=>⟨xs.length-(i+1),by omega,rfl,hlt,p'⟩,fun x H' y=>?_⟩
  obtain⟨r,hr,rfl,e⟩:=y
  have e':=e xs q1 _ (Qb hlt)
  subst e'
  exact hs i _ σ H r (Qb hlt) p hr
 ·have e:i=xs.length:=by omega
  exact .inl ⟨⟨xs,q1,by omega⟩,hd σ H (e ▸ p)⟩
def rMinL(K:PySem.W.Frag):List V→Hp→VK→Prop:=fun vs H Q=>∃ (p:Addr) (ns:List Int),vs=[.ref p]∧SqL K H p (ns.map V.int)∧0<ns.length∧∀M,M∈ns→(∀a∈ns,M≤a)→Q (.int M) H
def Zmc(K:PySem.W.Frag):List V→Hp→VK→Prop:=fun xs H Q=>∃p ys,xs=[.ref p]∧(SqL K H p ys∨SqT K H p ys)∧∀l,H l=none→Q (.ref l) (upd H l (.lst ys))
theorem ZmY{X:Cx}(K:PySem.W.Frag)(h:X.K=K:=by rfl):Za1 X (.type "list") (Zmc K):=by subst h;exact Zf3
section
variable {prog:Program} {w:World} {A:Around} {E:Value→Shared→Prop} {s:Shared}
end
def gLst(K:PySem.W.Frag)(n:Nat)(t:TGs):TG:=fun v σ H Q=>∃a xs,v=.ref a∧SqL K H a xs∧xs.length=n∧t xs σ H Q
def Znr(xs:List V)(lo hi:Option Int)(st:Int):List V :=
 (sliceRange (sliceBounds lo hi (some st) xs.length).1 (sliceBounds lo hi (some st) xs.length).2.1 (sliceBounds lo hi (some st) xs.length).2.2).filterMap fun i=>xs[i]?
def SlRS(X:Cx)(r:V→Option Int→Option Int→Int→Hp→VK→Prop):Prop :=
 ∀ (pins:List (Addr×Obj)) (s:Shared) (σ:St) (H:Hp) (x:V) (v vl vu vs:Value) (lo hi:Option Int) (st:Int) (sl:Addr) (Q:VK),Inv X pins σ H s→Zy x v→s.heap.IsSliceOf sl vl vu vs→IsPart vl lo→IsPart vu hi→IsPart vs (some st)→r x lo hi st H Q →
  ∃T id,typeLookup (.type T) "__getitem__" = pure (some (.builtin id))∧s.TypeIs v T∧wpAny (model X.prog X.w) X.A (getItem v (.ref sl)) (EP X pins σ Q) X.xe s
def tSlS(r:V→Option Int→Option Int→Int→Hp→VK→Prop)(te:TE)(tl th ts:TO):TE:=fun σ H Q=>te σ H fun x H1=>tl σ H1 fun l H2=>th σ H2 fun u H3=>ts σ H3 fun k H4=>∃i,k=some i∧r x l u i H4 Q
section
variable {X:Cx} {e st:Expr} {te:TE} {lo hi:Option Expr} {tl th ts:TO} {pos p2:Pos}
def rSlLS(K:PySem.W.Frag):V→Option Int→Option Int→Int→Hp→VK→Prop:=fun x lo hi st H Q=>∃a xs,x=.ref a∧SqL K H a xs∧st≠0∧∀p,H p=none→Q (.ref p) (upd H p (.lst (Znr xs lo hi st)))
end
section
variable {X:Cx}
def rInsert:V→List V→Hp→VK→Prop:=fun x vs H Q=>∃l xs i y,x=.ref l∧vs=[.int i,y]∧H l=some (.lst xs)∧0≤i∧i≤xs.length∧xs.length<sizeLine∧Q .non (upd H l (.lst (xs.take i.toNat++y::xs.drop i.toNat)))
def rBits:V→List V→Hp→VK→Prop:=fun x vs H Q=>∃i,x=.int i∧vs=[]∧Q (.int (Builtin.Int.intBits i:Nat)) H
theorem inQ(K:PySem.W.Frag)(h:X.K=K:=by rfl):OpR X (compareOp .In) (rIn K false):=by subst h;exact ZiA
def rTupQ(K:PySem.W.Frag):List V→Hp→VK→Prop:=fun xs H Q=>∃p ys,xs=[.ref p]∧((SqL K H p ys∧∀l,H l=none→Q (.ref l) (upd H l (.tup ys)))∨(SqT K H p ys∧Q (.ref p) H))
end
def Its(z:Str):It:=⟨fun i _=>i<z.cps.size,fun i H v H'=>H'=H∧∃c,z.cps[i]? = some c∧v=.str ⟨#[c]⟩,fun i _=>z.cps.size≤i⟩
section
variable {X:Cx} {tg:Expr}
def iStr(tl:TE):TI:=fun σ H R=>tl σ H fun x H1=>∃z,x=.str z∧R (Its z) H1
end
def Zoc:PyData→Str
 | .str z=>z
 | d=>d.shown
def rStrD(K:PySem.W.Frag):List V→Hp→VK→Prop:=fun xs H Q=>∃x d,xs=[x]∧DV K H x d∧PyData.layable0 d=true∧d.intsShort 13=true∧d.showable=true∧Q (.str (Zoc d)) H
def ZgN(kvs:List (List Key×V))(k:List Key):Option V:=(kvs.find? fun kv=>decide (kv.1=k)).map (·.2)
abbrev PairT(H:Hp):List (List Key×V)→List (List Key×Addr×Value)→Prop:=Paired fun (p:List Key×V) (q:List Key×Addr×Value)=>p.1=q.1∧H q.2.1=some (.tup (p.1.map kV))∧Zy p.2 q.2.2
section
variable {X:Cx} {pins:List (Addr×Obj)} {σ:St} {H:Hp} {s:Shared}
def ZnH:TE:=fun _ H Q=>∀p,H p=none→Q (.ref p) (upd H p (.dT []))
theorem ZhX{pos:Pos}:PE X (.Dict [] [] pos) ZnH:=by
 intro pins s σ H Q I h
 have hb:sysModules<s.heap.objs.size:=Nat.lt_trans (by decide) (show mainGlobals<s.heap.objs.size from(I.mod.glob.keeps I.bk).lt)
 refine wpAny_Dict_empty ⟨.ref s.heap.objs.size,upd H s.heap.objs.size (.dT []),?_,rfl,h _ (I.hok.fresh (Qd _))⟩
 refine I.laid (t':=s.toks) (fun _ _ q=>Qj _ q) (Qd _) ?_
 refine⟨Qq _,?_,[],.nil,_,#[],0,QD _ rfl,⟨rfl,rfl,rfl⟩,rfl,rfl,List.nodup_nil⟩
 exact beq_eq_false_iff_ne.mpr fun z=>Q1 _ (z ▸ hb)
end
def rSetDef:V→List V→Hp→VK→Prop:=fun x vs H Q=>∃d kvs b ks y,x=.ref d∧vs=[.ref b,y]∧H d=some (.dT kvs)∧H b=some (.tup (ks.map kV))∧kvs.length<sizeLine ∧
 (∀v,ZgN kvs ks=some v→Q v H)∧(ZgN kvs ks=none→Q y (upd H d (.dT (kvs++[(ks,y)]))))
def Zou:List V→Hp→VK→Prop:=fun xs H Q=>∃j:Int,xs=[.int j]∧∀p,H p=none→Q (.ref p) (upd H p (.rng 0 j))
def Zot:List V→Hp→VK→Prop:=fun xs H Q=>∃i j:Int,xs=[.int i,.int j]∧∀p,H p=none→Q (.ref p) (upd H p (.rng i j))
def Zde(lo:Int)(n:Nat):List Int:=(List.range n).map fun (k:Nat)=>lo+k
theorem ZeY(lo:Int)(n:Nat):(Zde lo n).length=n:=by simp[Zde]
def rListR:List V→Hp→VK→Prop:=fun xs H Q=>∃ (p:Addr) (lo hi:Int),xs=[.ref p]∧H p=some (.rng lo hi) ∧ -(2 ^ 62)≤lo∧lo<2 ^ 62 ∧ -(2 ^ 62)≤hi∧hi<2 ^ 62∧(hi-lo).toNat≤1000 ∧
 ∀l,H l=none→Q (.ref l) (upd H l (.lst ((Zde lo (hi-lo).toNat).map V.int)))
section
variable {prog:Program} {w:World} {A:Around} {E:Value→Shared→Prop} {s:Shared}
end
section
variable {X:Cx}
def rSlTS(K:PySem.W.Frag):V→Option Int→Option Int→Int→Hp→VK→Prop:=fun x lo hi st H Q=>∃a xs,x=.ref a∧SqT K H a xs∧lo=none∧hi=none∧st = -1∧∀p,H p=none→Q (.ref p) (upd H p (.tup xs.reverse))
def rExtendT(K:PySem.W.Frag):V→List V→Hp→VK→Prop:=fun x vs H Q=>∃l b xs zs,x=.ref l∧vs=[.ref b]∧H l=some (.lst xs)∧H b=some (.tup zs)∧xs.length+zs.length≤sizeLine∧Q .non (upd H l (.lst (xs++zs)))
def gSlice(to:TE)(tl th:TO):TG:=fun v σ H Q=>to σ H fun o H1=>tl σ H1 fun l H2=>th σ H2 fun u H3=>∃ (p b:Addr) (xs ys:List V) (a c:Int),o=.ref p∧v=.ref b∧l=some a∧u=some c∧H3 p=some (.lst xs)∧H3 b=some (.lst ys)∧p≠b∧0≤a∧a≤c∧c≤xs.length∧xs.length+ys.length≤sizeLine ∧
 Q σ (upd H3 p (.lst (xs.take a.toNat++ys++xs.drop c.toNat)))
def rSumB(K:PySem.W.Frag):List V→Hp→VK→Prop:=fun vs H Q=>∃ (p:Addr) (ns:List Int),vs=[.ref p]∧SqL K H p (ns.map V.int)∧ns.length≤1000∧(∀n∈ns,0≤n∧n≤10000000000)∧Q (.int ns.sum) H
theorem Zdr(ns:List Int):∀n,n≤ns.length→preSum (fun j=>ns.getD j 0) n=(ns.take n).sum
 | 0,_=>rfl
 | n+1,h=>by
  have ih:=Zdr ns n (by omega)
  have e:ns.take (n+1)=ns.take n++[ns.getD n 0]:=by
   rw[QS,Qb (by omega),Qt,Qb (by omega)]
   rfl
  rw[e,List.sum_append,← ih]
  simp[preSum]
end
section
variable {prog:Program} {w:World} {A:Around} {E:Value→Shared→Prop} {s:Shared} {κ:PyProof.Rows.KeyKind} {k0:SortKind} {a₀:Array Keyed} {st:SortSt}
def LtAt(prog:Program)(w:World)(A:Around)(s:Shared)(k0:SortKind)(κ:PyProof.Rows.KeyKind):Prop :=
 ∀ (E:Value→Shared→Prop) (x y:Value) (a b:κ.α) (Q:Bool→Shared→Prop),κ.keyOf x=some a→κ.keyOf y=some b→Q (κ.blt a b) s→wpAny (model prog w) A (keyLt' k0 x y) Q E s
structure SB (k0:SortKind) (a₀:Array Keyed) (st:SortSt):Prop where
 perm:(arrOf st).Perm a₀
 kind:kindOf st=k0
 failed:failedOf st=none
 pend:pendingOf st = #[]
theorem ZnQ(st:SortSt)(xs:Array Keyed):arrOf (setArr st xs)=xs:=rfl
end
section
variable {prog:Program} {w:World} {A:Around} {E:Value→Shared→Prop} {s:Shared} {κ:PyProof.Rows.KeyKind}
end
def kLt:Key→Key→Bool
 | .inl i,.inl j=>decide (i<j)
 | .inr x,.inr y=>decide (x.cps.toList<y.cps.toList)
 | .inl _,.inr _=>true
 | .inr _,.inl _=>false
theorem ZhF:∀a:Key,kLt a a=false
 | .inl i=>decide_eq_false (by omega)
 | .inr x=>decide_eq_false (List.lt_irrefl _)
theorem Ziz:∀a b c:Key,kLt a b=true→kLt b c=true→kLt a c=true
 | .inl i,.inl j,.inl k,h1,h2=>by have:=of_decide_eq_true h1;have:=of_decide_eq_true h2;exact decide_eq_true (by omega)
 | .inr x,.inr y,.inr z,h1,h2=>decide_eq_true (List.lt_trans (of_decide_eq_true h1) (of_decide_eq_true h2))
 | .inl _,.inl _,.inr _,_,_=>rfl
 | .inl _,.inr _,.inr _,_,_=>rfl
 | .inl _,.inr _,.inl _,_,h=>by cases h
 | .inr _,.inl _,_,h,_=>by cases h
 | .inr _,.inr _,.inl _,_,h=>by cases h
theorem ZiF:∀a b:Key,kLt a b=false→kLt b a=false→a=b
 | .inl i,.inl j,h1,h2=>by have:=of_decide_eq_false h1;have:=of_decide_eq_false h2;congr 1;omega
 | .inr x,.inr y,h1,h2=>by
  have a1:¬ x.cps.toList<y.cps.toList:=of_decide_eq_false h1
  have a2:¬ y.cps.toList<x.cps.toList:=of_decide_eq_false h2
  have e:x.cps.toList=y.cps.toList:=List.le_antisymm a2 a1
  obtain⟨xs⟩:=x
  obtain⟨ys⟩:=y
  congr 2
  exact Array.toList_inj.mp e
 | .inl _,.inr _,h,_=>by cases h
 | .inr _,.inl _,_,h=>by cases h
def ZbA:List Key→List Key→Bool
 | [],[]=>false
 | [],_::_=>true
 | _::_,[]=>false
 | x::xs,y::ys=>if x=y then ZbA xs ys else kLt x y
theorem ZmX(x y:Key)(xs ys:List Key):ZbA (x::xs) (y::ys)=if x=y then ZbA xs ys else kLt x y:=rfl
theorem Zeb:∀a:List Key,ZbA a a=false
 | []=>rfl
 | x::r=>by unfold ZbA;rw[if_pos rfl];exact Zeb r
theorem Zdh:∀a b c:List Key,ZbA a b=true→ZbA b c=true→ZbA a c=true
 | [],[],_,h,_=>by cases h
 | [],_::_,[],_,h=>by cases h
 | [],_::_,_::_,_,_=>rfl
 | _::_,[],_,h,_=>by cases h
 | _::_,_::_,[],_,h=>by cases h
 | x::r,y::s,z::t,h1,h2=>by
  have ih:=Zdh r s t
  unfold ZbA at h1 h2 ⊢
  by_cases e1:x=y
  ·rw[if_pos e1]at h1
   by_cases e2:y=z
   ·rw[if_pos e2]at h2
    rw[if_pos (e1.trans e2)]
    exact ih h1 h2
   ·rw[if_neg e2]at h2
    rw[if_neg (fun e=>e2 (e1.symm.trans e)),e1]
    exact h2
  ·rw[if_neg e1]at h1
   by_cases e2:y=z
   ·rw[if_neg (fun e=>e1 (e.trans e2.symm)),← e2]
    exact h1
   ·rw[if_neg e2]at h2
    have h3:=Ziz _ _ _ h1 h2
    rw[if_neg (fun e=>by rw[e,ZhF]at h3;cases h3)]
    exact h3
theorem Zdg:∀a b:List Key,ZbA a b=false→ZbA b a=false→a=b
 | [],[],_,_=>rfl
 | [],_::_,h,_=>by cases h
 | _::_,[],_,h=>by cases h
 | x::r,y::s,h1,h2=>by
  unfold ZbA at h1 h2
  by_cases e:x=y
  ·rw[if_pos e]at h1
   rw[if_pos e.symm]at h2
   rw[e,Zdg r s h1 h2]
  ·rw[if_neg e]at h1
   rw[if_neg fun z=>e z.symm]at h2
   exact absurd (ZiF _ _ h1 h2) e
theorem Zjq(a b c:List Key)(h:ZbA a c=true):ZbA a b=true∨ZbA b c=true:=by
 by_cases h1:ZbA a b=true
 ·exact .inl h1
 ·by_cases h2:ZbA b a=true
  ·exact .inr (Zdh _ _ _ h2 h)
  ·have e:=Zdg a b (by simpa using h1) (by simpa using h2)
   rw[← e];exact .inr h
def unV:V→Option Key
 | .int i=>some (.inl i)
 | .str x=>some (.inr x)
 | _=>none
def ZlB:List V→Option (List Key)
 | []=>some []
 | x::r=>(unV x).bind fun k=>(ZlB r).map (k::·)
def Zfn(ks:List Key):List Bool:=ks.map fun k=>k.isLeft
def Znl(H:Hp)(sh:List Bool):Value→Option (List Key)
 | .ref a=>match H a with
  | some (.tup xs)=>(ZlB xs).bind fun ks=>if Zfn ks=sh then some ks else none
  | _=>none
 | _=>none
def tupKind(H:Hp)(sh:List Bool):PyProof.Rows.KeyKind:=⟨⟨List Key,ZbA,Zeb,Zdh,fun a b c h=>Zjq a b c h,Zdg⟩,Znl H sh,[]⟩
section
variable {prog:Program} {w:World} {A:Around} {E:Value→Shared→Prop} {s:Shared}
end
section
variable {prog:Program} {w:World} {A:Around} {E:Value→Shared→Prop} {s:Shared}
end
abbrev ZhD:=List (Addr×List Key)
def Zix(ts:ZhD):List V:=ts.map fun t=>V.ref t.1
def AtT(H:Hp)(ts:ZhD):Prop:=∀t∈ts,H t.1=some (.tup (t.2.map kV))
def rSrtT(K:PySem.W.Frag):List V→Hp→VK→Prop:=fun xs H Q=>∃ (p:Addr) (ts:ZhD) (sh:List Bool),xs=[.ref p]∧SqL K H p (Zix ts)∧AtT H ts∧sh≠[]∧(∀t∈ts,Zfn t.2=sh)∧ts.length<64 ∧
 ∀ (l:Addr) (ts':ZhD),H l=none→ts'.Perm ts→ts'.Pairwise (fun a b=>ZbA b.2 a.2=false)→Q (.ref l) (upd H l (.lst (Zix ts')))
section
open PySem.SeqAt
open PySem.AutoSeq1 (wpAny_loadPart')
open PySem.MeetsSeq PySem.MeetsSeq2 PySem.MeetsSeq3
end
section
variable {prog:Program} {w:World} {A:Around} {E:Value→Shared→Prop} {s:Shared}
end
section
variable {prog:Program} {w:World}
end
section
variable {X:Cx}
def rMinT(K:PySem.W.Frag):List V→Hp→VK→Prop:=fun vs H Q=>∃ (p:Addr) (ts:ZhD) (sh:List Bool),vs=[.ref p]∧SqL K H p (Zix ts)∧AtT H ts∧ts≠[]∧(∀t∈ts,Zfn t.2=sh) ∧
 ∀t:Addr×List Key,t∈ts→(∀u∈ts,ZbA u.2 t.2=false)→Q (.ref t.1) H
def tMinD(K:PySem.W.Frag)(te:TA):TE:=fun σ H Q=>te σ H fun vs H1=>∃ (p:Addr) (ts:ZhD) (sh:List Bool),vs=[.ref p]∧SqL K H1 p (Zix ts)∧AtT H1 ts∧(∀t∈ts,Zfn t.2=sh)∧(ts=[]→Q .non H1) ∧
 ∀t:Addr×List Key,t∈ts→(∀u∈ts,ZbA u.2 t.2=false)→Q (.ref t.1) H1
end
def EqS(s:Shared)(items:List Value)(v:Value)(e:Nat→Bool):Prop:=∀ (prog:Program) (w:World) (A:Around) (E:Value→Shared→Prop) (Q:Bool→Shared→Prop) (m:Nat) (x:Value),A.units+2<cLine→items[m]? = some x→Q (e m) s→wpAny (model prog w) A (eqBool x v) Q E s
section
variable {X:Cx}
def rRemI:V→List V→Hp→VK→Prop:=fun x vs H Q=>∃ (l:Addr) (ns:List Int) (n:Int),x=.ref l∧vs=[.int n]∧H l=some (.lst (ns.map V.int))∧n∈ns∧ns.length≤1000∧Q .non (upd H l (.lst ((ns.erase n).map V.int)))
def rRemT:V→List V→Hp→VK→Prop:=fun x vs H Q=>∃ (l:Addr) (ts:ZhD) (t:Addr×List Key),x=.ref l∧vs=[.ref t.1]∧H l=some (.lst (Zix ts))∧AtT H ts∧t∈ts∧ts.length≤1000∧∀ (i:Nat) (hi:i<ts.length),ts[i].2=t.2→Q .non (upd H l (.lst (Zix (ts.eraseIdx i))))
end
section
open PySem.SeqAt
open PySem.AutoSeq1 (wpAny_loadPart')
open PySem.MeetsSeq PySem.MeetsSeq2 PySem.MeetsSeq3
end
section
variable {prog:Program} {w:World} {A:Around} {E:Value→Shared→Prop} {s:Shared}
end
section
variable {X:Cx}
def rGeK(K:PySem.W.Frag):R2:=fun x y H Q=>∃ (a b:Addr) (ks ms:List Key),x=.ref a∧y=.ref b∧SqT K H a (ks.map kV)∧SqT K H b (ms.map kV)∧Zfn ks=Zfn ms∧Q (.bl (!ZbA ks ms)) H
end
def rMaxL(K:PySem.W.Frag):List V→Hp→VK→Prop:=fun vs H Q=>∃ (p:Addr) (ns:List Int),vs=[.ref p]∧SqL K H p (ns.map V.int)∧0<ns.length∧∀M,M∈ns→(∀a∈ns,a≤M)→Q (.int M) H
def isNum(n:Int):Value→Bool
 | .int a _=>a == n
 | _=>false
section
variable {X:Cx}
def rCountI:V→List V→Hp→VK→Prop:=fun x vs H Q=>∃ (l:Addr) (ns:List Int) (n:Int),x=.ref l∧vs=[.int n]∧H l=some (.lst (ns.map V.int))∧Q (.int ((ns.count n:Nat):Int)) H
end
section
variable {X:Cx} {T name id:String} {r:V→List V→Hp→VK→Prop} {o e:Expr} {es:List Expr} {to:TE} {t:TA} {apos cpos:Pos}
end
def Zov(s:Shared)(items:List Value)(v:Value)(e:Nat→Bool):Prop:=∀ (prog:Program) (w:World) (A:Around) (E:Value→Shared→Prop) (Q:Bool→Shared→Prop) (m:Nat) (x:Value),A.units+60<cLine→items[m]? = some x→Q (e m) s→wpAny (model prog w) A (eqBool x v) Q E s
section
variable {X:Cx}
def rRemD(K:PySem.W.Frag):V→List V→Hp→VK→Prop:=fun x vs H Q=>∃ (l:Addr) (xs:List V) (ds:List PyData) (y:V) (d:PyData) (i:Nat),x=.ref l∧vs=[y]∧H l=some (.lst xs)∧DVs K H xs ds∧DV K H y d∧(∀e∈ds,e.canLay0=true)∧d.canLay0=true∧d.depth≤56∧xs.length≤1000 ∧
 i<ds.length∧(∀e,ds[i]? = some e→PyData.eqv e d=true)∧(∀m e,m<i→ds[m]? = some e→PyData.eqv e d=false)∧Q .non (upd H l (.lst (xs.eraseIdx i)))
def rInD(K:PySem.W.Frag):R2:=fun x y H Q=>∃ (l:Addr) (xs:List V) (ds:List PyData) (d:PyData),y=.ref l∧SqL K H l xs∧DVs K H xs ds∧DV K H x d∧PyData.canLayAll0 ds=true∧SeqAt.shaped d=true∧d.depth≤60∧Q (.bl (ds.any fun e=>PyData.eqv e d)) H
def ZlN(K:PySem.W.Frag):List V→Hp→VK→Prop:=fun vs H Q=>∃ (p:Addr) (ns:List Int),vs=[.ref p]∧SqL K H p (ns.map V.int)∧ns.length≤1000∧(∀n∈ns,0≤n∧n≤10000000000000)∧Q (.int ns.sum) H
theorem ZiV(hc:X.calm=true):Za1 X (.builtin "sum") (ZlN X.K):=by
 intro pins s σ H vs us Q I r h
 obtain⟨p,ns,rfl,hq,hn,hb,q⟩:=h
 obtain⟨u,rfl,rx⟩:=Zc9 r
 cases rx
 obtain⟨its,rv,pl,_⟩:=I.list hq
 have hi:=Zhg rv
 obtain⟨xs,e⟩:=hi.allInts.items
 have hns:ns=xs.toList.map (·.1):=by rw[← hi.numsOf,← nums_intItems,← e]
 have hsz:xs.size=ns.length:=by rw[hns,Qa,Array.length_toList]
 have hnum:numAt xs=fun j=>ns.getD j 0:=by funext j;rw[numAt_eq,hns]
 have hl:=pl.isList
 rw[e]at hl
 have bound:∀n,n≤ns.length→0≤(ns.take n).sum∧(ns.take n).sum≤10000000000000*n:=by
  intro n
  induction n with
  | zero=>intro _;exact⟨by simp,by simp⟩
  | succ n ih =>
   intro h
   have ih:=ih (by omega)
   have hm:=hb ns[n] (QW (by omega))
   have e2:ns.take (n+1)=ns.take n++[ns[n]]:=by rw[QS,Qb (by omega)];rfl
   rw[e2,List.sum_append]
   have e3:([ns[n]]:List Int).sum=ns[n]:=by simp
   rw[e3]
   omega
 refine sum_intList (I.ok.hd hc) hl (fun j hj=>?_) fun h' tk t' hk=>⟨.int _,H,I.kept hk,⟨t',rfl⟩,?_⟩
 ·rw[hnum]
  have hm:=hb ns[j] (QW (by omega))
  have hg:ns.getD j 0=ns[j]:=by rw[Qt,Qb (by omega)];rfl
  have hp:=bound (j+1) (by omega)
  refine⟨⟨?_,?_⟩,⟨?_,?_⟩⟩
  ·show -(2 ^ 63)≤ns.getD j 0
   rw[hg];omega
  ·show ns.getD j 0<2 ^ 63
   rw[hg];omega
  ·rw[Zdr ns (j+1) (by omega)];omega
  ·rw[Zdr ns (j+1) (by omega)];omega
 ·rw[hnum,hsz,Zdr ns ns.length (Qd _),QN (Qd _)]
  exact q
theorem ZnY(K:PySem.W.Frag)(hc:X.calm=true:=by rfl)(h:X.K=K:=by rfl):Za1 X (.builtin "sum") (ZlN K):=by subst h;exact ZiV hc
theorem slT{X:Cx}(K:PySem.W.Frag)(h:X.K=K:=by rfl):SlR X (ZnC K):=by subst h;exact Zmv
end
section
variable {X:Cx}
def rIxD:R2:=fun x y H Q=>∃d kvs b ks v,x=.ref d∧y=.ref b∧H d=some (.dT kvs)∧H b=some (.tup (ks.map kV))∧ZgN kvs ks=some v∧Q v H
def rSetDT:ZiP:=fun o i v H Q=>∃d kvs b ks,o=.ref d∧i=.ref b∧H d=some (.dT kvs)∧H b=some (.tup (ks.map kV))∧ZgN kvs ks=none∧kvs.length<sizeLine∧Q (upd H d (.dT (kvs++[(ks,v)])))
end
abbrev IsZipG(h:Heap)(z TI TO:Addr)(f0:Value)(fl:Bool):Prop :=
 h.get? z=some { cls:=.type "zip",dict:=none,data:=.fields #[f0,.bool fl,.bool false,.ref TI,.ref TO],slots:=#[] }
section
variable {prog:Program} {w:World} {A:Around} {E:Value→Shared→Prop} {s:Shared}
end
section
variable {prog:Program} {w:World} {A:Around} {R:Result→Shared→Prop} {s:Shared}
end
def ZkR(J:It)(D:Addr)(ys:List V)(σ:St)(H:Hp)(g:TG)(te:TE)(N:List V→St→Hp→Prop):Prop :=
 ∃W:Nat→Nat→List V→St→Hp→Prop,(∃m,W 0 m ys σ H) ∧
  ∀i m ys σ2 H2,W i m ys σ2 H2→(J.stop i H2∧N ys σ2 H2) ∨
   (J.go i H2∧∃N2:List V→St→Hp→Prop,(∀ys' σ' H',N2 ys' σ' H'→∃m',m'<m∧W (i+1) m' ys' σ' H')∧∀x H3,J.yld i H2 x H3→g x σ2 H3 fun σ4 H4 =>
    te σ4 H4 fun y H6=>H6 D=some (.lst ys)∧ys.length<sizeLine∧N2 (ys++[y]) σ4 (upd H6 D (.lst (ys++[y]))))
def Zlr(J:It)(D:Addr)(k:Nat)(σ:St)(H1:Hp)(g:TG)(wi2:TI)(g2:TG)(te:TE)(Q:VK):Prop :=
 ∃W:Nat→Nat→List V→St→Hp→Prop,(∃m,W 0 m [] (σ++List.replicate k none) (upd H1 D (.lst []))) ∧
  ∀i m ys σ2 H2,W i m ys σ2 H2→(J.stop i H2∧Q (.ref D) H2) ∨
   (J.go i H2∧∃N:List V→St→Hp→Prop,(∀ys' σ' H',N ys' σ' H'→∃m',m'<m∧W (i+1) m' ys' σ' H')∧∀x H3,J.yld i H2 x H3→g x σ2 H3 fun σ4 H4=>wi2 σ4 H4 fun J2 H5=>ZkR J2 D ys σ4 H5 g2 te N)
def Zn7(n:Nat)(wi:TI)(g:TG)(wi2:TI)(g2:TG)(te:TE):TE:=fun σ H Q=>wi σ H fun J H1=>∀D,H1 D=none→Zlr J D n σ H1 g wi2 g2 te Q
section
variable {X:Cx} {N N':List Str} {o c:Scope}
end
end L2
namespace Hf
open L2
abbrev PW:=List (Int×Nat)
def val(P:PW):Int:=(P.map fun p=>p.1*(p.2:Int)).sum
def ws(P:PW):List Int:=P.map (·.1)
def ds(P:PW):List Nat:=P.map (·.2)
def zs(z:Nat):List Int:=List.replicate z 0
def kr(w E:Nat)(D:List Nat):Nat:=(D.map fun d=>w ^ (E-d)).sum
def Kr(w:Nat)(D:List Nat):Prop:=∃E,(∀d∈D,d≤E)∧kr w E D=w ^ E
inductive Hu (w:Nat):List Int→Nat→Int→Prop
 | stop {e:Int} {m:Nat}:Hu w [e] m 0
 | step {E L:List Int} {m:Nat} {C:Int}:1<L.length→E.Perm L→L.Pairwise (·≤·)→Hu w (L.drop m++[(L.take m).sum]) w C→Hu w E m (C+(L.take m).sum)
def Fit(w n m:Nat):Prop:=n=1∨∃t,n=m+t*(w-1)
structure Fits (w n m:Nat):Prop where
 w2:2≤w
 m2:2≤m
 mw:m≤w
 ok:Fit w n m
end Hf
namespace L2
open PySem PySem.Spec PyProof.Rows
section
variable {prog:Program} {w:World} {A:Around} {R:Result→Shared→Prop} {s:Shared}
end
def ZmN(J:It)(D:Addr)(k:Nat)(σ:St)(H1:Hp)(g:TG)(tc:TT)(tk te:TE)(Q:VK):Prop :=
 ∃W:Nat→Nat→List (List Key×V)→St→Hp→Prop,(∃m,W 0 m [] (σ++List.replicate k none) (upd H1 D (.dT []))) ∧
  ∀i m ys σ2 H2,W i m ys σ2 H2→(J.stop i H2∧Q (.ref D) H2) ∨
   (J.go i H2∧∃N:List (List Key×V)→St→Hp→Prop,(∀ys' σ' H',N ys' σ' H'→∃m',m'<m∧W (i+1) m' ys' σ' H')∧∀x H3,J.yld i H2 x H3→g x σ2 H3 fun σ4 H4=>tc σ4 H4 fun b H5 =>
    if b=true then tk σ4 H5 fun kv H6=>te σ4 H6 fun y H7=>∃ (b:Addr) (ks:List Key),kv=.ref b∧H7 D=some (.dT ys)∧H7 b=some (.tup (ks.map kV))∧ZgN ys ks=none∧ys.length<sizeLine∧N (ys++[(ks,y)]) σ4 (upd H7 D (.dT (ys++[(ks,y)]))) else N ys σ4 H5)
def tDComp(n:Nat)(wi:TI)(g:TG)(tc:TT)(tk te:TE):TE:=fun σ H Q=>wi σ H fun J H1=>∀D,H1 D=none→ZmN J D n σ H1 g tc tk te Q
section
variable {X:Cx} {N N':List Str} {o c:Scope}
end
section
variable {κ:Type} [DecidableEq κ]
def ZaU(kvs:List (κ×V))(k:κ):Option V:=(kvs.find? fun kv=>decide (kv.1=k)).map (·.2)
def Zcg(kvs:List (κ×V))(k:κ)(v:V):List (κ×V) :=
 if (kvs.any fun kv=>decide (kv.1=k))=true then kvs.map (fun kv=>if kv.1=k then (kv.1,v) else kv) else kvs++[(k,v)]
def ZhO(kvs:List (κ×V))(k:κ):List (κ×V):=kvs.filter fun kv=>decide (kv.1≠k)
theorem ZmZ{k:κ}:ZaU ([]:List (κ×V)) k=none:=rfl
theorem ZcG{p:κ×V}{r:List (κ×V)}{k:κ}(e:p.1=k):ZaU (p::r) k=some p.2:=by simp[ZaU,List.find?_cons,e]
theorem ZcC{p:κ×V}{r:List (κ×V)}{k:κ}(e:¬ p.1=k):ZaU (p::r) k=ZaU r k:=by simp[ZaU,List.find?_cons,e]
theorem ZeA(k:κ):∀kvs:List (κ×V),(kvs.any fun kv=>decide (kv.1=k))=(ZaU kvs k).isSome
 | []=>rfl
 | p::r=>by
  rw[Q9]
  by_cases e:p.1=k
  ·simp only[ZcG e,decide_eq_true e,Bool.true_or,Option.isSome_some]
  ·rw[ZcC e,decide_eq_false e,Bool.false_or];exact ZeA k r
theorem Zec(kvs:List (κ×V))(k:κ)(v:V):(Zcg kvs k v).length≤kvs.length+1:=by
 unfold Zcg
 split
 ·rw[Qa];omega
 ·rw[Qo,QF,List.length_nil];omega
theorem ZgM{kvs:List (κ×V)}{k:κ}(v:V)(h:ZaU kvs k=none):Zcg kvs k v=kvs++[(k,v)]:=by
 unfold Zcg
 rw[ZeA,h]
 exact if_neg (by decide)
theorem Zcr.isSome_eq{o:Option V}{u:Option Value}(r:Zcr o u):o.isSome=u.isSome:=by
 cases o with
 | none=>cases u with
  | none=>rfl
  | some _=>exact(show False from r).elim
 | some _=>cases u with
  | none=>exact(show False from r).elim
  | some _=>rfl
theorem Zcr.getD{o:Option V}{u:Option Value}{d:V}{d':Value}(r:Zcr o u)(rd:Zy d d'):Zy (o.getD d) (u.getD d'):=by
 cases o with
 | none=>cases u with
  | none=>exact rd
  | some _=>exact(show False from r).elim
 | some _=>cases u with
  | none=>exact(show False from r).elim
  | some _=>exact r
theorem KV.val{kvs:List (κ×V)}{vs:List (κ×Value)}(r:KV kvs vs)(k:κ):Zcr (ZaU kvs k) (valueAt vs k):=by
 unfold KV at r
 induction r with
 | nil=>exact True.intro
 | @cons p q ps qs h t ih =>
  obtain⟨h1,h2⟩:=h
  by_cases e:p.1=k
  ·have e':q.1=k:=h1.symm.trans e
   have b:valueAt (q::qs) k=some q.2:=by simp[valueAt,List.find?_cons,e']
   rw[ZcG e,b];exact h2
  ·have e':¬ q.1=k:=fun z=>e (h1.trans z)
   have b:valueAt (q::qs) k=valueAt qs k:=by simp[valueAt,List.find?_cons,e']
   rw[ZcC e,b];exact ih
theorem KV.any{kvs:List (κ×V)}{vs:List (κ×Value)}(r:KV kvs vs)(k:κ):(kvs.any fun kv=>decide (kv.1=k))=vs.any fun kv=>decide (kv.1=k):=by
 unfold KV at r
 induction r with
 | nil=>rfl
 | cons h t ih=>rw[Q9,Q9,ih,h.1]
theorem KV.repl{kvs:List (κ×V)}{vs:List (κ×Value)}(r:KV kvs vs)(k:κ){y:V}{u:Value}(ry:Zy y u) :
  KV (kvs.map fun kv=>if kv.1=k then (kv.1,y) else kv) (vs.map fun kv=>if kv.1=k then (kv.1,u) else kv):=by
 unfold KV at r ⊢
 induction r with
 | nil=>exact .nil
 | @cons p q ps qs h t ih =>
  rw[Qg,Qg]
  refine .cons ?_ ih
  obtain⟨h1,h2⟩:=h
  by_cases e:p.1=k
  ·rw[if_pos e,if_pos (h1.symm.trans e)];exact⟨h1,ry⟩
  ·rw[if_neg e,if_neg (fun z=>e (h1.trans z))];exact⟨h1,h2⟩
theorem KV.put{kvs:List (κ×V)}{vs:List (κ×Value)}(r:KV kvs vs)(k:κ){y:V}{u:Value}(ry:Zy y u):KV (Zcg kvs k y) (stored vs k u):=by
 unfold Zcg stored
 rw[r.any k]
 by_cases e:(vs.any fun kv=>decide (kv.1=k))=true
 ·rw[if_pos e,if_pos e];exact r.repl k ry
 ·rw[if_neg e,if_neg e];exact Paired.snoc r ⟨rfl,ry⟩
theorem KV.length{kvs:List (κ×V)}{vs:List (κ×Value)}(r:KV kvs vs):kvs.length=vs.length:=Paired.length r
end
theorem Zij{P:Program}{w:World}{k:Key}{u:Value}(r:Zy (kV k) u):(ZX P w).is k u=true:=by
 cases k with
 | inl i=>obtain⟨t,e⟩:=(show ∃t,u=Value.int i t from r);subst e;exact Zg5 P w i t
 | inr x=>obtain⟨t,e⟩:=(show ∃t,u=Value.str x t from r);subst e;exact ZgK P w x t
theorem Zfr{P:Program}{w:World}:∀ {ks:List Key} {us:List Value},ZB (ks.map kV) us→ItemsAre (ZX P w) ks us
 | [],_,r=>by rw[List.map_nil]at r;cases r;exact .nil
 | k::ks,_,r=>by
  rw[Qg]at r
  cases r with
  | cons h t=>exact .cons (Zij h) (Zfr t)
abbrev KT(H:Hp):List (List Key×V)→List (List Key×Addr×Value)→Prop:=Paired fun p q=>p.1=q.1∧H q.2.1=some (.tup (p.1.map kV))∧Zy p.2 q.2.2
theorem KT.val{H:Hp}{kvs:List (List Key×V)}{xs:List (List Key×Addr×Value)}(r:KT H kvs xs)(k:List Key):Zcr (ZaU kvs k) ((atKey xs k).map (·.2)):=by
 induction r with
 | nil=>exact True.intro
 | @cons p q ps qs h t ih =>
  obtain⟨h1,_,h2⟩:=h
  by_cases e:p.1=k
  ·have e':q.1=k:=h1.symm.trans e
   have b:atKey (q::qs) k=some q.2:=by simp[atKey,List.find?_cons,e']
   rw[ZcG e,b];exact h2
  ·have e':¬ q.1=k:=fun z=>e (h1.trans z)
   have b:atKey (q::qs) k=atKey qs k:=by simp[atKey,List.find?_cons,e']
   rw[ZcC e,b];exact ih
theorem KT.repl{H:Hp}{kvs:List (List Key×V)}{xs:List (List Key×Addr×Value)}(r:KT H kvs xs)(k:List Key){y:V}{u:Value}(ry:Zy y u) :
  KT H (kvs.map fun kv=>if kv.1=k then (kv.1,y) else kv) (xs.map (putAt k u)):=by
 induction r with
 | nil=>exact .nil
 | @cons p q ps qs h t ih =>
  rw[Qg,Qg]
  refine .cons ?_ ih
  obtain⟨h1,h2,h3⟩:=h
  unfold putAt
  by_cases e:p.1=k
  ·rw[if_pos e,if_pos (h1.symm.trans e)];exact⟨h1,h2,ry⟩
  ·rw[if_neg e,if_neg (fun z=>e (h1.trans z))];exact⟨h1,h2,h3⟩
theorem KT.put{H:Hp}{kvs:List (List Key×V)}{xs:List (List Key×Addr×Value)}(r:KT H kvs xs)(k:List Key){b:Addr}{y:V}{u:Value}(hb:H b=some (.tup (k.map kV)))(ry:Zy y u) :
  KT H (Zcg kvs k y) (storedH xs k b u):=by
 have e:(kvs.any fun kv=>decide (kv.1=k))=(atKey xs k).isSome:=by
  rw[ZeA,(r.val k).isSome_eq,Option.isSome_map]
 unfold Zcg storedH
 rw[e]
 by_cases q:(atKey xs k).isSome=true
 ·rw[if_pos q,if_pos q];exact r.repl k ry
 ·rw[if_neg q,if_neg q];exact Paired.snoc r ⟨rfl,hb,ry⟩
theorem KT.keeps{H H':Hp}{kvs:List (List Key×V)}{xs:List (List Key×Addr×Value)}(r:KT H kvs xs)(ht:∀b ys,H b=some (.tup ys)→H' b=some (.tup ys)):KT H' kvs xs :=
 Paired.mapP r fun _ _ z=>⟨z.1,ht _ _ z.2.1,z.2.2⟩
section
variable {P:Program} {w:World} {H:Hp} {h:Heap} {a:Addr}
theorem Zlz{u:HO}(ok:HOk P w H h)(e:Rd H a u):Zay P w H h a u:=e.ok ok
theorem ZfA{kvs:List (Key×V)}(ok:HOk P w H h)(e:Rd H a (.dK kvs)):kvs.length≤sizeLine∧(a == sysModules)=false∧∃vs,KV kvs vs∧h.DictOf (ZX P w) a vs :=
 show Zay P w H h a (.dK kvs) from Zlz ok e
theorem Zm6{kvs:List (Key×V)}(ok:HOk P w H h)(e:H a=some (.dK kvs)):kvs.length≤sizeLine∧(a == sysModules)=false∧∃vs,KV kvs vs∧h.DictOf (ZX P w) a vs:=ZfA ok (.inl e)
theorem ZfX{ks:List Key}(ok:HOk P w H h)(e:H a=some (.tup (ks.map kV))):(tupleKind (ZX P w)).is h ks a:=by
 obtain⟨_,its,r,o,h1,h2,n,h3⟩:=(show Zay P w H h a (.tup (ks.map kV)) from ok a _ e)
 exact⟨o,its.toArray,n,h1,h2,h3,by simpa using Zfr r⟩
theorem Zgz{kvs:List (List Key×V)}(ok:HOk P w H h)(e:Rd H a (.dT kvs)):kvs.length≤sizeLine∧(a == sysModules)=false ∧
  ∃xs,KT H kvs xs∧h.DictOfH (tupleKind (ZX P w)) a xs:=by
 obtain⟨z,y,xs,r,o,es,ep,h1,h2,h3,h4,h5⟩:=(show Zay P w H h a (.dT kvs) from Zlz ok e)
 refine⟨z,y,xs,r,o,es,ep,h1,h2,h3,h4,fun x hx=>?_,h5⟩
 have all:∀ {l:List (List Key×V)} {m:List (List Key×Addr×Value)},KT H l m→∀x∈m,(tupleKind (ZX P w)).is h x.1 x.2.1:=by
  intro l m q
  induction q with
  | nil=>intro x hx;exact nomatch hx
  | @cons p q ps qs hq t ih =>
   intro x hx
   rcases QE.mp hx with e|hx
   ·subst e
    exact ZfX ok (by rw[← hq.1];exact hq.2.1)
   ·exact ih x hx
 exact all r x hx
theorem ZnI{kvs:List (List Key×V)}(ok:HOk P w H h)(e:H a=some (.dT kvs)):kvs.length≤sizeLine∧(a == sysModules)=false ∧
  ∃xs,KT H kvs xs∧h.DictOfH (tupleKind (ZX P w)) a xs:=Zgz ok (.inl e)
end
def Zbg(H:Hp)(a:Addr)(y:V)(r:Option V):Prop :=
 (∃kvs k,Rd H a (.dK kvs)∧y=kV k∧r=ZaU kvs k)∨∃kvs k b,Rd H a (.dT kvs)∧y=.ref b∧H b=some (.tup (k.map kV))∧r=ZaU kvs k
def Zdu(H:Hp)(a:Addr)(y v:V)(H':Hp):Prop :=
 (∃kvs k,H a=some (.dK kvs)∧y=kV k∧kvs.length<sizeLine∧H'=upd H a (.dK (Zcg kvs k v))) ∨
 ∃kvs k b,H a=some (.dT kvs)∧y=.ref b∧H b=some (.tup (k.map kV))∧kvs.length<sizeLine∧H'=upd H a (.dT (Zcg kvs k v))
theorem Zbg.k{H:Hp}{a:Addr}{kvs:List (Key×V)}{k:Key}(e:H a=some (.dK kvs)):Zbg H a (kV k) (ZaU kvs k):=.inl ⟨kvs,k,.inl e,rfl,rfl⟩
theorem Zbg.t{H:Hp}{a b:Addr}{kvs:List (List Key×V)}{k:List Key}(e:H a=some (.dT kvs))(eb:H b=some (.tup (k.map kV))):Zbg H a (.ref b) (ZaU kvs k):=.inr ⟨kvs,k,b,.inl e,rfl,eb,rfl⟩
theorem Zdu.k{H:Hp}{a:Addr}{kvs:List (Key×V)}{k:Key}{v:V}(e:H a=some (.dK kvs))(hl:kvs.length<sizeLine):Zdu H a (kV k) v (upd H a (.dK (Zcg kvs k v))):=.inl ⟨kvs,k,e,rfl,hl,rfl⟩
theorem Zdu.t{H:Hp}{a b:Addr}{kvs:List (List Key×V)}{k:List Key}{v:V}(e:H a=some (.dT kvs))(eb:H b=some (.tup (k.map kV)))(hl:kvs.length<sizeLine) :
  Zdu H a (.ref b) v (upd H a (.dT (Zcg kvs k v))):=.inr ⟨kvs,k,b,e,rfl,eb,hl,rfl⟩
section
variable {X:Cx} {pins:List (Addr×Obj)} {σ:St} {H:Hp} {s:Shared} {a:Addr} {y v:V} {u r:Value} {o:Option V} {A:Around} {E:Value→Shared→Prop}
theorem Inv.big(I:Inv X pins σ H s):sysModules<s.heap.objs.size:=by
 have h:mainGlobals<s.heap.objs.size:=(I.mod.glob.keeps I.bk).lt
 exact Nat.lt_trans (by decide) h
theorem ZiZ{Q:Value→Shared→Prop}(hu:A.units+1<cLine)(I:Inv X pins σ H s)(g:Zbg H a y (some v))(ry:Zy y u)(h:∀w' s',Inv X pins σ H s'→Zy v w'→Q w' s') :
  wpAny (model X.prog X.w) A (getItem (.ref a) u) Q E s:=by
 rcases g with⟨kvs,k,e,ey,l⟩|⟨kvs,k,b,e,ey,eb,l⟩
 ·subst ey
  obtain⟨z,hd,vs,rel,dd⟩:=ZfA I.hok e
  obtain⟨w',hw,rw'⟩:=Zcr.some_of (v:=v) (o:=valueAt vs k) (by rw[l];exact rel.val k)
  exact wpAny_getItem_of (Zij ry) dd.mapOf hw (h w' _ (I.tok _) rw')
 ·subst ey
  cases (show u=Value.ref b from ry)
  obtain⟨z,hd,xs,rel,dd⟩:=Zgz I.hok e
  obtain⟨w',hw,rw'⟩:=Zcr.some_of (v:=v) (o:=(atKey xs k).map (·.2)) (by rw[l];exact rel.val k)
  obtain⟨p,hp,hp2⟩:=Qad.mp hw
  refine wpAny_getItem_heap (tupleKind_room_in1 hu) (ZfX I.hok eb) dd hp ?_
  rw[hp2]
  exact h w' _ (I.tok _) rw'
theorem Zh2{h':Heap}{t':Nat}{ob:HO}(I:Inv X pins σ H s)(mu:Mut (H a))(hs:Heap.SameBut a s.heap h')(he:∃q,h'.get? a=some q)(new:Zay X.prog X.w (upd H a ob) h' a ob) :
  Inv X pins σ (upd H a ob) { s with heap:=h',toks:=t' } :=
 I.write (x:=a) (e:=a) mu (.inl rfl) (fun b q hb z=>(hs.2 b hb).trans z) he new
theorem ZmR{P:Program}{w:World}{H':Hp}{h':Heap}{kvs:List (Key×V)}{vs:List (Key×Value)}(z:kvs.length≤sizeLine)(hd:(a == sysModules)=false)(rel:KV kvs vs)(dd:h'.DictOf (ZX P w) a vs) :
  Zay P w H' h' a (.dK kvs):=⟨z,hd,vs,rel,dd⟩
theorem ZiE{H':Hp}{Q:Unit→Shared→Prop}(hu:A.units+1<cLine)(I:Inv X pins σ H s)(g:Zdu H a y v H')(ry:Zy y u)(rv:Zy v r)(h:∀s',Inv X pins σ H' s'→Q () s') :
  wpAny (model X.prog X.w) A (setItem (.ref a) u r) Q E s:=by
 rcases g with⟨kvs,k,e,ey,l,eH⟩|⟨kvs,k,b,e,ey,eb,l,eH⟩
 ·subst ey eH
  obtain⟨z,hd,vs,rel,dd⟩:=Zm6 I.hok e
  have hz:vs.length≤sizeLine:=by rw[← rel.length];exact z
  have hl:(Zcg kvs k v).length≤sizeLine:=by have:=Zec kvs k v;omega
  refine wpAny_setItem_pairs (hsz:=hz) (Zij ry) dd fun h' dd' hs=>h _ ?_
  have he:∃q,h'.get? a=some q:=let ⟨q,_,_,hq,_⟩:=dd';⟨q,hq⟩
  exact Zh2 I (by rw[e];exact True.intro) hs he (ZmR hl hd (rel.put k rv) dd')
 ·subst ey eH
  cases (show u=Value.ref b from ry)
  obtain⟨z,hd,xs,rel,dd⟩:=ZnI I.hok e
  have hz:xs.length≤sizeLine:=by rw[← Paired.length rel];exact z
  have hl:(Zcg kvs k v).length≤sizeLine:=by have:=Zec kvs k v;omega
  refine wpAny_setItem_heap (hsz:=hz) (tupleKind_room_in1 hu) (ZfX I.hok eb) dd fun h' dd' hs=>h _ ?_
  obtain⟨q,es,ep,hq,h2,h3,h4,_,h5⟩:=dd'
  refine Zh2 I (by rw[e];exact True.intro) hs ⟨q,hq⟩ ⟨hl,hd,_,(rel.put k eb rv).keeps fun c ys ec=>?_,q,es,ep,hq,h2,h3,h4,h5⟩
  rw[Zc (Zke ec e (fun z=>nomatch z))]
  exact ec
end
section
variable {X:Cx} {pins:List (Addr×Obj)} {σ:St} {H:Hp} {s:Shared} {a:Addr} {kvs:List (Key×V)} {k:Key} {u:Value} {A:Around} {E:Value→Shared→Prop}
theorem Znu{Q:Value→Shared→Prop}(I:Inv X pins σ H s)(e:Rd H a (.dK kvs))(h:∀t s',Inv X pins σ H s'→Q (.int kvs.length t) s'):wpAny (model X.prog X.w) A (call (.builtin "len") [.ref a]) Q E s:=by
 obtain⟨z,hd,vs,rel,dd⟩:=ZfA I.hok e
 refine call_len_dict hd dd (by rw[← rel.length];rw[sizeLine_eq]at z;omega) ?_
 rw[← rel.length]
 exact h _ _ (I.tok _)
end
def NoSl(i:Expr):Prop:=∀ov iv,subscripted i false ov iv=operate [ov,iv] (getItem ov iv)
theorem ZgP{X:Cx}{pins:List (Addr×Obj)}{σ:St}{H:Hp}{s:Shared}{a:Addr}{y:V}{o:Option V}(I:Inv X pins σ H s)(g:Zbg H a y o):s.TypeIs (.ref a) "dict":=by
 rcases g with⟨kvs,k,e,_,_⟩|⟨kvs,k,b,e,_,_,_⟩
 ·obtain⟨_,_,vs,_,dd⟩:=ZfA I.hok e
  exact dd.typeIs
 ·obtain⟨_,_,xs,_,dd⟩:=Zgz I.hok e
  exact dd.typeIs
def tDGet(td ty:TE):TE:=fun σ H Q=>td σ H fun x H1=>ty σ H1 fun y H2=>∃a v,x=.ref a∧Zbg H2 a y (some v)∧Q v H2
def tDIn(ty td:TE):TE:=fun σ H Q=>ty σ H fun y H1=>td σ H1 fun x H2=>∃a o,x=.ref a∧Zbg H2 a y o∧Q (.bl o.isSome) H2
def tDNotIn(ty td:TE):TE:=fun σ H Q=>ty σ H fun y H1=>td σ H1 fun x H2=>∃a o,x=.ref a∧Zbg H2 a y o∧Q (.bl (!o.isSome)) H2
def sDPut(td ty tv:TE):TS:=fun D σ H=>tv σ H fun v H1=>td σ H1 fun x H2=>ty σ H2 fun y H3=>∃a H4,x=.ref a∧Zdu H3 a y v H4∧D.nx σ H4
def sDAug(td ty tv:TE)(rd:V→V→Hp→VK→Prop):TS:=fun D σ H=>td σ H fun x H1=>ty σ H1 fun y H2=>∃a v,x=.ref a∧Zbg H2 a y (some v) ∧
 tv σ H2 fun y2 H3=>rd v y2 H3 fun z H4=>∃H5,Zdu H4 a y z H5∧D.nx σ H5
def sDDel(td ty:TE):TS:=fun D σ H=>td σ H fun x H1=>ty σ H1 fun y H2=>∃a kvs k,x=.ref a∧H2 a=some (.dK kvs)∧y=kV k∧(ZaU kvs k).isSome=true∧D.nx σ (upd H2 a (.dK (ZhO kvs k)))
section
variable {X:Cx} {o i e value:Expr} {pos pos' tpos:Pos} {td ty tv:TE}
end
theorem Zkf{P:Program}{w:World}{H:Hp}(h:Heap)(hb:sysModules<h.objs.size):Zay P w H (h.push { cls:=.type "dict",data:=.dict #[] }) h.objs.size (.dK []) :=
 ⟨Qq _,beq_eq_false_iff_ne.mpr (Ne.symm (QB hb)),[],.nil,Heap.DictOf.new h⟩
def ZmM:TE:=fun _ H Q=>∀p,H p=none→Q (.ref p) (upd H p (.dK []))
def tDNewT:TE:=fun _ H Q=>∀p,H p=none→Q (.ref p) (upd H p (.dT []))
section
variable {X:Cx} {pos:Pos}
theorem Zjd:PE X (.Dict [] [] pos) ZmM:=fun pins s σ H Q I h =>
 wpAny_Dict_empty ⟨.ref s.heap.objs.size,_,I.laid (a:=s.heap.objs.size) (o:=.dK []) (t':=s.toks) (fun _ _ q=>Qj _ q) (Qd _) (Zkf s.heap I.big),rfl,h _ (I.hok.fresh (Qd _))⟩
end
def Zho:List (TE×TE)→St→Hp→(List (V×V)→Hp→Prop)→Prop
 | [],_,H,Q=>Q [] H
 | (tk,tv)::r,σ,H,Q=>tk σ H fun x H1=>tv σ H1 fun y H2=>Zho r σ H2 fun ps H3=>Q ((x,y)::ps) H3
abbrev VV:List (V×V)→List (Value×Value)→Prop:=Paired fun p q=>Zy p.1 q.1∧Zy p.2 q.2
def PPs(X:Cx)(pos:Pos)(keys:List (Option Expr))(values:List Expr)(trs:List (TE×TE)):Prop :=
 ∀ (pins:List (Addr×Obj)) (s:Shared) (σ:St) (H:Hp) (Q:List (V×V)→Hp→Prop),Inv X pins σ H s→Zho trs σ H Q →
  wpAny (model X.prog X.w) X.A (evalPairs (pairTrees keys values X.env pos)) (fun vs s'=>∃ps H',Inv X pins σ H' s'∧VV ps vs∧Q ps H') X.xe s
def Zhq(kvs more:List (Key×V)):List (Key×V):=more.foldl (fun acc kv=>Zcg acc kv.1 kv.2) kvs
def tDisp(trs:List (TE×TE)):TE:=fun σ H Q=>∀p,H p=none→Zho trs σ (upd H p (.dK [])) fun ps H2=>H2 p=some (.dK [])∧∃kvs:List (Key×V),ps=kvs.map (fun kv=>(kV kv.1,kv.2))∧kvs.length≤15∧Q (.ref p) (upd H2 p (.dK (Zhq [] kvs)))
structure M1 (X:Cx) (o:Expr) (m:Str) (apos:Pos) (e:Expr) (cpos:Pos):Prop where
 base:attributeBase o m X.env (eval o X.env)=eval o X.env
 few:((backTo cpos (starEach [e] X.env)).all (fun x=>!x.1)&&(backToKw cpos (keywordEach [] X.env)).all (fun x=>x.1.isSome)
  && decide (([e]:List Expr).length+([]:List Keyword).length+(if ([]:List Keyword).isEmpty then 0 else 1)<30))=true
 line:(apos.endLine == cpos.line)=true
 trees:backTo cpos (starEach [e] X.env)=[(false,eval e X.env)]
structure M2 (X:Cx) (o:Expr) (m:Str) (apos:Pos) (e f:Expr) (cpos:Pos):Prop where
 base:attributeBase o m X.env (eval o X.env)=eval o X.env
 few:((backTo cpos (starEach [e,f] X.env)).all (fun x=>!x.1)&&(backToKw cpos (keywordEach [] X.env)).all (fun x=>x.1.isSome)
  && decide (([e,f]:List Expr).length+([]:List Keyword).length+(if ([]:List Keyword).isEmpty then 0 else 1)<30))=true
 line:(apos.endLine == cpos.line)=true
 trees:backTo cpos (starEach [e,f] X.env)=[(false,eval e X.env),(false,eval f X.env)]
def IsD(H:Hp)(a:Addr):Prop:=(∃kvs,Rd H a (.dK kvs))∨∃kvs,Rd H a (.dT kvs)
theorem ZlU{X:Cx}{pins:List (Addr×Obj)}{σ:St}{H:Hp}{s:Shared}{a:Addr}(I:Inv X pins σ H s)(d:IsD H a) :
  s.TypeIs (.ref a) "dict"∧(∀b,Value.ref a=.ref b→∃ob,s.heap.get? b=some ob∧ob.dict=none)∧(a == sysModules)=false:=by
 rcases d with⟨kvs,e⟩|⟨kvs,e⟩
 ·obtain⟨_,hd,vs,_,dd⟩:=ZfA I.hok e
  refine⟨dd.typeIs,fun b q=>?_,hd⟩
  cases q
  obtain⟨ob,_,_,h1,h2,_⟩:=dd
  exact⟨ob,h1,h2.2.1⟩
 ·obtain⟨_,hd,xs,_,dd⟩:=Zgz I.hok e
  refine⟨dd.typeIs,fun b q=>?_,hd⟩
  cases q
  obtain⟨ob,_,_,h1,h2,_⟩:=dd
  exact⟨ob,h1,h2.2.1⟩
section
variable {X:Cx} {pins:List (Addr×Obj)} {σ:St} {H:Hp} {s:Shared} {a:Addr} {y d:V} {u r:Value} {o:Option V} {A:Around} {E:Value→Shared→Prop}
theorem Zme{Q:Value→Shared→Prop}(hu:A.units+1<cLine)(I:Inv X pins σ H s)(g:Zbg H a y o)(ry:Zy y u)(h:∀w' s',Inv X pins σ H s'→Zy (o.getD .non) w'→Q w' s') :
  wpAny (model X.prog X.w) A (call (.builtin "dict.get") [.ref a,u]) Q E s:=by
 rcases g with⟨kvs,k,e,ey,l⟩|⟨kvs,k,b,e,ey,eb,l⟩
 ·subst ey
  obtain⟨z,hd,vs,rel,dd⟩:=ZfA I.hok e
  refine call_meetsIn PySem.F.slot_dict_get dd.typeIs PySem.F.entry_dict_get (PySem.F.args_dict_get_2 _ _) (meets_dict_get (ZX X.prog X.w) a (Zij ry) hd) ⟨_,dd.mapOf,h _ _ (I.tok _) ?_⟩
  rw[l]
  exact(rel.val k).getD rfl
 ·subst ey
  cases (show u=Value.ref b from ry)
  obtain⟨z,hd,xs,rel,dd⟩:=Zgz I.hok e
  refine call_meetsIn PySem.F.slot_dict_get dd.typeIs PySem.F.entry_dict_get (PySem.F.args_dict_get_2 _ _) (meetsH_dict_get (tupleKind (ZX X.prog X.w)) a b hd) ⟨tupleKind_room_in1 hu,k,xs,ZfX I.hok eb,dd,h _ _ (I.tok _) ?_⟩
  rw[l]
  exact(rel.val k).getD rfl
end
def Zj5(td ty:TE):TE:=fun σ H Q=>td σ H fun x H1=>∃a,x=.ref a∧IsD H1 a∧ty σ H1 fun y H2=>∃o,Zbg H2 a y o∧Q (o.getD .non) H2
def Zob(td ty tx:TE):TE:=fun σ H Q=>td σ H fun x H1=>∃a,x=.ref a∧IsD H1 a∧ty σ H1 fun y H2=>tx σ H2 fun z H3=>∃o,Zbg H3 a y o∧Q (o.getD z) H3
def Zok(td ty:TE):TE:=fun σ H Q=>td σ H fun x H1=>∃a,x=.ref a∧IsD H1 a∧ty σ H1 fun y H2=>∃kvs k v,H2 a=some (.dK kvs)∧y=kV k∧ZaU kvs k=some v∧Q v (upd H2 a (.dK (ZhO kvs k)))
def Zos(td ty tx:TE):TE:=fun σ H Q=>td σ H fun x H1=>∃a,x=.ref a∧IsD H1 a∧ty σ H1 fun y H2=>tx σ H2 fun z H3=>∃kvs k,H3 a=some (.dK kvs)∧y=kV k ∧
 (∀v,ZaU kvs k=some v→Q v (upd H3 a (.dK (ZhO kvs k))))∧(ZaU kvs k=none→Q z H3)
section
variable {X:Cx} {o e f:Expr} {apos cpos:Pos} {td ty tx:TE}
theorem ZjH(hu:X.A.units+1<cLine)(ho:PE X o td)(he:PE X e ty)(m:M1 X o "get" apos e cpos):PE X (.Call (.Attribute o "get" apos) [e] [] cpos) (Zj5 td ty):=by
 intro pins s σ H Q I h
 refine wpAny_Call_method m.base m.few m.line PySem.F.plainAttrs_dict PySem.F.slot_dict_get PySem.F.type_dict_get (thn (ho pins s σ H _ I h) fun u s1 ⟨x,H1,I1,rx,a,ex,d,q1⟩=>?_)
 subst ex
 obtain rfl:u=Value.ref a:=rx
 obtain⟨t1,t2,_⟩:=ZlU I1 d
 refine⟨t1,t2,?_⟩
 rw[m.trees]
 refine Calls.callWith_builtin rfl (Calls.evalArgs_plain (Calls.spliced_cons (thn (he pins s1 σ H1 _ I1 q1) fun iv s2 ⟨y,H2,I2,ry,ov,g,q2⟩=>Calls.spliced_nil ?_)))
 exact Zme hu I2 g ry fun w' s3 I3 rw'=>⟨_,H2,I3,rw',q2⟩
end
section
variable {X:Cx} {pins:List (Addr×Obj)} {σ:St} {H:Hp} {s:Shared} {a:Addr} {kvs:List (Key×V)} {A:Around} {E:Value→Shared→Prop}
end
section
variable {X:Cx} {pins:List (Addr×Obj)} {σ:St} {H:Hp} {s:Shared} {a:Addr} {y:V} {u:Value} {A:Around} {E:Value→Shared→Prop}
end
section
variable {X:Cx}
theorem ZiN:Za1 X (.builtin "len") (fun xs H Q=>∃a kvs,xs=[V.ref a]∧H a=some (.dK kvs)∧Q (.int kvs.length) H):=by
 intro pins s σ H xs us Q I r h
 obtain⟨a,kvs,rfl,ha,q⟩:=h
 obtain⟨u,rfl,ru⟩:=Zc9 r
 cases ru
 exact Znu I (.inl ha) fun t s' I'=>⟨.int kvs.length,H,I',⟨t,rfl⟩,q⟩
end
section
variable {κ:Type} [DecidableEq κ]
end
structure Mf (P:Program) (w:World) (K:PySem.W.Frag) (mg:Str→Option Value) (base:Heap) (k:Nat) (C:Addr) (m:Str) (ps:List Str) (sp:Sp):Prop where
 ex:∃f fd,Zc5 P w K mg base CX0 k f fd ps sp∧Zji K C m f∧Zbw K fd ps []
structure Cf (P:Program) (w:World) (K:PySem.W.Frag) (mg:Str→Option Value) (base:Heap) (k:Nat) (C:Addr) (x:Str) (ps:List Str) (sp:Sp):Prop where
 ex:∃f fd,Zc5 P w K mg base CX0 k f fd ps sp∧Mk K C f∧Zbw K fd ps []∧mg x=some (.ref C)
structure Zc7 (K:PySem.W.Frag) (C:Addr) (m qual:Str) (st:Stmt) (ps:List Str):Prop where
 ex:∃f fd,Fun K m qual st f fd∧Zji K C m f∧Zbw K fd ps []
structure ZkP (K:PySem.W.Frag) (mg:Str→Option Value) (C:Addr) (x qual:Str) (st:Stmt) (ps:List Str):Prop where
 ex:∃f fd,Fun K "__init__" qual st f fd∧Mk K C f∧Zbw K fd ps []∧mg x=some (.ref C)
section
variable {P:Program} {w:World} {K:PySem.W.Frag} {mg:Str→Option Value} {base:Heap}
theorem Zc7.mf{C:Addr}{m qual:Str}{st:Stmt}{N ps:List Str}{k:Nat}{sp:Sp}(T:Zc7 K C m qual st ps)(S:Zq N ps (Zd st))(len:∀vs H Q E,sp vs H Q E→vs.length=ps.length)
  (hbody:∀ (cdv:Value) (f:Addr) (A:Around) (outer:List Env) (s:Shared) (H:Hp) (vs:List V) (Q:VK) (E:XK),ZaC k (A.deeper (envOfC qual (Zd st) s.heap.objs.size f cdv))→sp vs H Q E →
   ∃t,PSs (Zf8 CX0 P w K mg base N qual (Zd st) f cdv A outer s H E).nox (Zm st) t∧t { nx:=fun _ H'=>Q .non H',rt:=Q } (ZcI N vs) H):Mf P w K mg base (k+1) C m ps sp:=by
 obtain⟨f,fd,F,m,b⟩:=T.ex
 exact⟨f,fd,F.ok S len (fun cdv A outer s H vs Q E hr h=>hbody cdv f A outer s H vs Q E hr h),m,b⟩
theorem ZkP.cf{C:Addr}{x qual:Str}{st:Stmt}{N ps:List Str}{k:Nat}{sp:Sp}(T:ZkP K mg C x qual st ps)(S:Zq N ps (Zd st))(len:∀vs H Q E,sp vs H Q E→vs.length=ps.length)
  (hbody:∀ (cdv:Value) (f:Addr) (A:Around) (outer:List Env) (s:Shared) (H:Hp) (vs:List V) (Q:VK) (E:XK),ZaC k (A.deeper (envOfC qual (Zd st) s.heap.objs.size f cdv))→sp vs H Q E →
   ∃t,PSs (Zf8 CX0 P w K mg base N qual (Zd st) f cdv A outer s H E).nox (Zm st) t∧t { nx:=fun _ H'=>Q .non H',rt:=Q } (ZcI N vs) H):Cf P w K mg base (k+1) C x ps sp:=by
 obtain⟨f,fd,F,m,b,g⟩:=T.ex
 exact⟨f,fd,F.ok S len (fun cdv A outer s H vs Q E hr h=>hbody cdv f A outer s H vs Q E hr h),m,b,g⟩
end
section
variable {X:Cx} {k j:Nat} {C:Addr} {m x:Str} {ps:List Str} {sp:Sp} {o e:Expr} {es:List Expr} {ta:TE} {t:TA} {p apos pos:Pos} {pl:Sem Bool}
theorem Zda(F:Mf X.prog X.w X.K X.mg X.base k C m ps sp)(c:Cls X.K C)(hr:ZaC j X.A)(he:PE X o ta)(ha:PA X (e::es) t)(hjk:k≤j:=by decide)
  (hst:starEach (e::es) X.env=(false,eval e X.env)::starEach es X.env:=by rfl) (hpl:(backTo pos (starEach es X.env)).any (·.1)=false:=by rfl)
  (ht:eval (.Call (.Attribute o m apos) (e::es) [] pos) X.env=(do
   let ov ← eval o X.env
   standAt apos.atName
   let (f,first) ← holding [ov] (getMethod ov m pl)
   callWith pos f first (backTo pos (starEach (e::es) X.env)) (backToKw pos (keywordEach [] X.env))):=by rfl) :
  PE X (.Call (.Attribute o m apos) (e::es) [] pos) (Zh7 C m sp [] E0 ta t):=by
 obtain⟨f,fd,F,g,b⟩:=F.ex
 exact Zlp he c g F (hr.mono hjk) b .nil Zh6 ha hst hpl ht
theorem Z0(F:Mf X.prog X.w X.K X.mg X.base k C m ps sp)(c:Cls X.K C)(hr:ZaC j X.A)(he:PE X o ta)(hjk:k≤j:=by decide)
  (ht:eval (.Call (.Attribute o m apos) [] [] pos) X.env=(do
   let ov ← eval o X.env
   standAt apos.atName
   let (f,first) ← holding [ov] (getMethod ov m pl)
   callWith pos f first (backTo pos (starEach [] X.env)) (backToKw pos (keywordEach [] X.env))):=by rfl) :
  PE X (.Call (.Attribute o m apos) [] [] pos) (Zh7 C m sp [] E0 ta Zms):=by
 obtain⟨f,fd,F,g,b⟩:=F.ex
 exact Zkm he c g F (hr.mono hjk) b .nil Zh6 ht
theorem Zfm(F:Cf X.prog X.w X.K X.mg X.base k C x ps sp)(hr:ZaC j X.A)(ha:PA X (e::es) t)(hjk:k+1≤j:=by decide)(hg:Gl X x:=by rfl)(hdb:(x == ("__debug__" : Str))=false:=by decide)
  (he:starEach (e::es) X.env=(false,eval e X.env)::starEach es X.env:=by rfl) (hpl:(backTo pos (starEach es X.env)).any (·.1)=false:=by rfl) :
  PE X (.Call (.Name x p) (e::es) [] pos) (ZlO C sp [] E0 t):=by
 obtain⟨f,fd,F,g,b,gm⟩:=F.ex
 exact Zlh g F (hr.mono hjk) hg gm b .nil Zh6 ha hdb he hpl
end
section
variable {X:Cx} {pins:List (Addr×Obj)} {σ:St} {H:Hp} {s:Shared} {d:Addr} {o:Obj} {u:HO}
theorem Inv.freeze(I:Inv X pins σ H s)(e:H d=some u)(mu:Mut (some u))(ho:s.heap.get? d=some o):Inv X pins σ (upd H d (.frz o u)) s:=by
 have h:=I.write (x:=d) (e:=d) (o:=.frz o u) (t':=s.toks) (h':=s.heap) (by rw[e];exact mu) (.inl rfl) (fun b v _ q=>q) ⟨o,ho⟩ ?_
 ·exact h
 ·refine⟨ho,(I.hok d u e).stay (fun b v _ q=>q) (fun b q=>?_) (fun b xs q=>?_)⟩
  ·rw[Zc (fun z=>by rw[z,e]at q;cases q;exact mu)];exact q
  ·rw[Zc (fun z=>by rw[z,e]at q;cases q;exact mu)];exact q
theorem Inv.nofrz(I:Inv X pins σ H s)(e:H d=some u)(mu:Mut (some u)):∀o' u',X.H₀ d≠some (.frz o' u'):=fun o' u' z=>by
 have:=I.base.frzs d o' u' z
 rw[e]at this
 cases this
 exact mu
theorem Inv.thaw(I:Inv X pins σ H s)(e:H d=some (.frz o u))(mu:Mut (some u))(n:∀o' u',X.H₀ d≠some (.frz o' u')):Inv X pins σ (upd H d u) s:=by
 have hne:∀b,H b=none→b≠d:=fun b z=>Zb (H:=H) e z |>.symm
 refine⟨I.ok,I.os,I.bare,⟨I.base.keep,I.base.slot,fun b v a1 a2 a3=>?_,I.base.there,fun b xs q=>?_,fun b o' u' q=>?_,fun b ps q=>?_⟩,I.loc,I.cell,?_,fun x c q=>?_,fun p hp=>?_,?_,I.len⟩
 ·have:=I.base.free b v a1 a2 a3
  rw[Zc (hne b this)];exact this
 ·have:=I.base.tups b xs q
  rw[Zc (fun z=>by rw[z,e]at this;cases this)];exact this
 ·have:=I.base.frzs b o' u' q
  rw[Zc (fun z=>by rw[z]at q;exact n o' u' q)];exact this
 ·obtain⟨more,this⟩:=I.base.tbls b ps q
  refine⟨more,?_⟩
  rw[Zc (fun z=>by rw[z,e]at this;cases this)];exact this
 ·rw[Zc (hne _ I.free)];exact I.free
 ·rw[Zc (hne _ (I.freeC x c q))];exact I.freeC x c q
 ·obtain⟨a1,a2,a3⟩:=I.pin p hp
  exact⟨a1,by rw[Zc (hne _ a2)];exact a2,a3⟩
 ·intro b v q
  have own:∀c a,H c=some (.own a)→(upd H d u) c=some (.own a):=fun c a q=>by rw[Zc (fun z=>by rw[z,e]at q;cases q)];exact q
  have tup:∀c xs,H c=some (.tup xs)→(upd H d u) c=some (.tup xs):=fun c xs q=>by rw[Zc (fun z=>by rw[z,e]at q;cases q)];exact q
  by_cases hb:b=d
  ·subst hb
   rw[Zg]at q
   cases q
   obtain⟨_,h2⟩:=(show Zay X.prog X.w H s.heap b (.frz o u) from I.hok b _ e)
   exact h2.stay (fun c v _ q=>q) (fun c q=>own c b q) tup
  ·rw[Zc hb]at q
   exact(I.hok b v q).stay (fun c v _ q=>q) (fun c q=>own c b q) tup
end
def Zm5(t:TE):TE:=fun σ H Q=>∃d u,H d=some u∧Mut (some u)∧t σ H fun v H'=>∃o,H' d=some (.frz o u)∧Q v (upd H' d u)
theorem ZkZ{X:Cx}{e:Expr}{t:TE}(h:PE X e t):PE X e (Zm5 t):=by
 intro pins s σ H Q I q
 obtain⟨d,u,e1,mu,q⟩:=q
 have n:=I.nofrz e1 mu
 refine thn (h pins s σ H _ I q) fun v s1 ⟨x,H1,I1,r1,o,e2,q1⟩=>?_
 exact⟨x,_,I1.thaw e2 mu n,r1,q1⟩
theorem Zic{P:Program}{w:World}{k:Key}{v:Value}(h:(ZX P w).is k v=true):Zy (kV k) v:=by
 rw[Zhv]at h
 rcases Zaf h with⟨i,t,rfl,rfl⟩|⟨x,t,rfl,rfl⟩
 ·exact⟨t,rfl⟩
 ·exact⟨t,rfl⟩
def Zjv:List V→Hp→VK→Prop:=fun xs H Q=>∃d kvs,xs=[.ref d]∧H d=some (.dK kvs)∧∀l,H l=none→Q (.ref l) (upd H l (.lst (kvs.map fun kv=>kV kv.1)))
theorem ZiM{P:Program}{w:World}:∀ (kvs:List (Key×V)) (vs:List (Key×Value)) (us:List Value),KV kvs vs→us.length=vs.length→(∀ (j:Nat) (v:Value),us[j]? = some v→∃k x,vs[j]? = some (k,x)∧(ZX P w).is k v=true)→ZB (kvs.map fun kv=>kV kv.1) us:=by
 intro kvs vs us r
 unfold KV at r
 induction r generalizing us with
 | nil =>
  intro hl _
  cases us with
  | nil=>exact .nil
  | cons a b=>simp at hl
 | @cons p q ps qs h t ih =>
  intro hl hp
  cases us with
  | nil=>simp at hl
  | cons a b =>
   obtain⟨k,x,e,hk⟩:=hp 0 a rfl
   have e':q=(k,x):=by simpa using e
   rw[Qg]
   refine .cons ?_ (ih b (by simpa using hl) fun j v hv=>?_)
   ·rw[h.1,e'];exact Zic hk
   ·simpa using hp (j+1) v (by simpa using hv)
theorem Zg7{X:Cx}(hc:X.calm=true):Za1 X (.type "list") Zjv:=by
 intro pins s σ H xs us Q I r h
 obtain⟨d,kvs,rfl,hd,q⟩:=h
 obtain⟨u,rfl,ru⟩:=Zc9 r
 cases ru
 obtain⟨z,lo,vs,rel,dd⟩:=(show Zay X.prog X.w H s.heap d (.dK kvs) from I.hok d _ hd)
 obtain⟨ep,da⟩:=dd.dictAt
 have hl:kvs.length=vs.length:=rel.length
 refine PySem.W.kdl_call (PySem.W.kdl_dict lo) (I.ok.hd hc) da (by omega) fun h' tk acc c hk hD hacc=>?_
 have hv:ZB (kvs.map fun kv=>kV kv.1) acc.toList:=ZiM (P:=X.prog) (w:=X.w) kvs vs acc.toList rel (by rw[Array.length_toList];exact hacc.1) fun j v e=>hacc.2 j v (by rw[← Array.getElem?_toList];exact e)
 refine⟨.ref s.heap.objs.size,_,I.laid (a:=s.heap.objs.size) (o:=.lst (kvs.map fun kv=>kV kv.1)) (t':=tk) hk (Qd _) ?_,rfl,q _ (I.hok.fresh (Qd _))⟩
 exact⟨by rw[Qa];exact z,acc.toList,c,hv,by simpa using hD⟩
theorem Inv.dictF{X:Cx}{pins:List (Addr×Obj)}{σ:St}{H:Hp}{s:Shared}{d:Addr}{o:Obj}{kvs:List (Key×V)}{es:Array DictEntry}{ep:Nat}(I:Inv X pins σ H s)(e:H d=some (.frz o (.dK kvs)))(hd:o.data=.dict es ep) :
  ∃vs,KV kvs vs∧s.heap.DictAt (ZX X.prog X.w) d vs ep:=by
 obtain⟨ho,_,_,vs,rel,o',es',ep',h1,h2,h3,h4⟩:=(show Zay X.prog X.w H s.heap d (.frz o (.dK kvs)) from I.hok d _ e)
 rw[ho]at h1
 cases h1
 rw[hd]at h3
 cases h3
 exact⟨vs,rel,o,es,ho,h2,hd,h4⟩
theorem Zl8{kvs:List (Key×V)}{vs:List (Key×Value)}(r:KV kvs vs):∀ (i:Nat) (k:Key) (x:V),kvs[i]? = some (k,x)→∃u,vs[i]? = some (k,u)∧Zy x u:=by
 unfold KV at r
 induction r with
 | nil=>intro i k x h;simp at h
 | @cons p q ps qs h t ih =>
  intro i k x hx
  cases i with
  | zero =>
   have e:p=(k,x):=by simpa using hx
   refine⟨q.2,?_,?_⟩
   ·have:q=(k,q.2):=by rw[show k=q.1 by rw[← h.1,e]]
    simpa using this
   ·have:=h.2;rw[e]at this;exact this
  | succ i=>simpa using ih i k x (by simpa using hx)
def Itv(d:Addr)(o:Obj)(kvs:List (Key×V)):It :=
 ⟨fun i H=>H d=some (.frz o (.dK kvs))∧i<kvs.length,fun i H v H'=>H'=H∧∃k,kvs[i]? = some (k,v),fun i H=>H d=some (.frz o (.dK kvs))∧kvs.length≤i⟩
def Itk(d:Addr)(o:Obj)(kvs:List (Key×V)):It :=
 ⟨fun i H=>H d=some (.frz o (.dK kvs))∧i<kvs.length,fun i H v H'=>H'=H∧∃k x,kvs[i]? = some (k,x)∧v=kV k,fun i H=>H d=some (.frz o (.dK kvs))∧kvs.length≤i⟩
def iKeys(tl:TE):TI:=fun σ H R=>tl σ H fun x H1=>∃d kvs,x=.ref d∧H1 d=some (.dK kvs)∧∀o,R (Itk d o kvs) (upd H1 d (.frz o (.dK kvs)))
def rSortedD:List V→Hp→VK→Prop:=fun xs H Q=>∃d kvs ns,xs=[.ref d]∧H d=some (.dK kvs)∧kvs.map (·.1)=ns.map Sum.inl∧ns.length<64 ∧
 ∀ (l:Addr) (ns':List Int),H l=none→ns'.Perm ns→ns'.Pairwise (·≤·)→Q (.ref l) (upd H l (.lst (ns'.map V.int)))
def rSumL(K:PySem.W.Frag):List V→Hp→VK→Prop:=fun vs H Q=>∃ (p:Addr) (ns:List Int),vs=[.ref p]∧SqL K H p (ns.map V.int)∧ns.length≤1000∧(∀n∈ns,0≤n∧n≤1000000)∧Q (.int ns.sum) H
def iVals(tl:TE):TI:=fun σ H R=>tl σ H fun x H1=>∃d kvs,x=.ref d∧H1 d=some (.dK kvs)∧∀o,R (Itv d o kvs) (upd H1 d (.frz o (.dK kvs)))
def Iti(d:Addr)(o:Obj)(kvs:List (Key×V)):It :=
 ⟨fun i H=>H d=some (.frz o (.dK kvs))∧i<kvs.length,
  fun i H v H'=>∃p k x,H p=none∧v=.ref p∧kvs[i]? = some (k,x)∧H'=upd H p (.tup [kV k,x]),
  fun i H=>H d=some (.frz o (.dK kvs))∧kvs.length≤i⟩
theorem Zhf{P:Program}{w:World}{K:PySem.W.Frag}{elts:List Expr}{x1:Nat}{tpos:Pos}{d it:Addr}{o:Obj}{kvs:List (Key×V)}{es:Array DictEntry}{ep:Nat}(hd:o.data=.dict es ep) :
  ZjO P w K (.Tuple elts x1 tpos) (Iti d o kvs) [it] it (fun i h=>∃ok ov,IsItemIter h it d i kvs.length ep ok ov) where
 mem:=by simp
 obj:=fun i h st b hb=>by
  have e:b=it:=by simpa using hb
  subst e
  obtain⟨ok,ov,he⟩:=st
  exact⟨_,he,fun v z=>by cases z⟩
 keep:=fun i h h' st k=>by
  obtain⟨ok,ov,he⟩:=st
  exact⟨ok,ov,k it (by simp) _ he⟩
 item:=by
  intro X hP hw hK hc i pins s σ H E I hf st hg
  subst hP hw hK
  obtain⟨ok,ov,he⟩:=st
  obtain⟨hfz,hi⟩:=hg
  obtain⟨vs,rel,da⟩:=I.dictF hfz hd
  have hl:kvs.length=vs.length:=rel.length
  obtain⟨u,hu,ru⟩:=Zl8 rel i kvs[i].1 kvs[i].2 (Qb hi)
  refine wpAny_pyNext_items_item (by rw[← hl];exact he) da hu fun key h' hkey a1 a2 a3 a4=>?_
  rw[← hl]at a1
  have lt:∀ {b:Addr} {o:Obj},s.heap.get? b=some o→s.heap.objs.size≠b:=fun q=>Nat.ne_of_gt (Qm q)
  have hes:s.heap.objs.size≠it:=lt he
  refine⟨_,rfl,wpAny_letOwnedTupleGo_items a1 fun h'' he'' hs''=>?_⟩
  have hs':Heap.SameBut it h' h'':=hs''
  have I2:Inv X pins σ (upd H s.heap.objs.size (.tup [kV kvs[i].1,kvs[i].2])) { s with heap:=h'',toks:=s.toks }:=by
   refine I.zipped (fp:=[it]) (u:=key) (v:=u) hf (Zic hkey) ru (hs'.extBut _ _ hes a2) (fun b hb=>?_) fun c o hc q=>?_
   ·have e:=Ql.mp hb
    subst e
    exact⟨_,he''⟩
   ·have hc':c≠it:=fun z=>hc (by rw[z];simp)
    exact hs'.extBut _ _ hc' (a4 c o hc' q)
  refine⟨.ref s.heap.objs.size,_,I2,rfl,⟨s.heap.objs.size,kvs[i].1,kvs[i].2,I.fresh,rfl,Qb hi,rfl⟩,⟨_,_,he''⟩,fun b hb=>?_⟩
  have e:=Ql.mp hb
  subst e
  rw[Zc hes.symm]
  exact(hf _ hb).1
 done:=by
  intro X hP hw hK hc i pins s σ H E I hf st hg
  subst hP hw hK
  obtain⟨ok,ov,he⟩:=st
  obtain⟨f0,f1,f2,f3,f4,f5⟩:=hf it (by simp)
  obtain⟨hfz,hi⟩:=hg
  obtain⟨vs,rel,da⟩:=I.dictF hfz hd
  have hl:kvs.length=vs.length:=rel.length
  exact wpAny_pyNext_items_end (I.ok.hd hc) (by rw[← hl];exact he) da (Q6 (by omega)) fun h' eb=>⟨rfl,I.turned (t':=s.toks) (fun b o hb e=>eb b o hb e) f0 f1 f3 f4 f5⟩
 self:=fun _ _ _ _ _ st h=>by obtain⟨ok,ov,he⟩:=st;exact PySem.W.kcp_self he h
def Zl6(tl:TE):TI:=fun σ H R=>tl σ H fun x H1=>∃d kvs,x=.ref d∧H1 d=some (.dK kvs)∧∀o,R (Iti d o kvs) (upd H1 d (.frz o (.dK kvs)))
theorem Zjo{X:Cx}{elts:List Expr}{x1:Nat}{tpos:Pos}{o:Expr}{to:TE}{apos cpos:Pos}(ho:PE X o to)(hbase:attributeBase o "items" X.env (eval o X.env)=eval o X.env:=by rfl)(hline:(apos.endLine == cpos.line)=true:=by rfl) :
  PI X (.Tuple elts x1 tpos) (.Call (.Attribute o "items" apos) [] [] cpos) (Zl6 to):=by
 intro pins s σ H R I h
 refine wpAny_Call_method0_late hbase hline (thn (ho pins s σ H _ I h) fun v s1 ⟨x,H1,I1,r1,q1⟩=>?_)
 obtain⟨d,kvs,e,hd,q⟩:=q1
 subst e
 cases r1
 obtain⟨z,lo,vs,rel,ob,es,ep,h1,h2,h3,h4⟩:=(show Zay X.prog X.w H1 s1.heap d (.dK kvs) from I1.hok d _ hd)
 have hlen:kvs.length=vs.length:=rel.length
 have I2:=I1.freeze hd True.intro h1
 have dd:s1.heap.DictOf (ZX X.prog X.w) d vs:=⟨ob,es,ep,h1,h2,h3,h4⟩
 refine⟨"dict", "dict.items",PySem.F.plainAttrs_dict,PySem.F.slot_dict_items,PySem.F.type_dict_items,dd.typeIs,fun a e=>?_,?_⟩
 ·cases e;exact⟨ob,h1,h2.2.1⟩
 refine Calls.callWith_builtin rfl (PySem.evalArgs_none ?_)
 refine call_meetsIn PySem.F.slot_dict_items dd.typeIs PySem.F.entry_dict_items (PySem.F.args_dict_items_1 _) (meets_dict_items (ZX X.prog X.w) d lo) ⟨⟨vs,dd⟩,?_⟩
 have hv:(s1.heap.push { cls:=.type "dict_items",data:=.fields #[.ref d] }).IsItemsView s1.heap.objs.size d:=⟨_,QD _ rfl,rfl,rfl⟩
 have da:(s1.heap.push { cls:=.type "dict_items",data:=.fields #[.ref d] }).DictAt (ZX X.prog X.w) d vs ep:=⟨ob,es,Qj _ h1,h2,h3,h4⟩
 refine wpAny_pyIter_items (s:={ s1 with heap:=s1.heap.push { cls:=.type "dict_items",data:=.fields #[.ref d] } }) hv da ?_
 rw[← hlen]
 have I3:Inv X pins σ (upd H1 d (.frz ob (.dK kvs))) { s1 with heap:=s1.heap.push { cls:=.type "dict_items",data:=.fields #[.ref d] } }:=I2.kept (t':=s1.toks) fun b o e=>Qj _ e
 refine⟨_,[_],_,Iti d ob kvs,upd H1 d (.frz ob (.dK kvs)),rfl,I3.kept (t':=s1.toks) fun b o e=>Qj _ e,Zhf h3,⟨_,_,QD _ rfl⟩,fun b hb=>?_,q ob⟩
 have e:=Ql.mp hb
 rw[e]
 exact I3.fpOk (Qd _) (I3.hok.fresh (Qd _))
def Zlb(J:It)(D:Addr)(k:Nat)(σ:St)(H1:Hp)(g:TG)(tc:TT)(tk te:TE)(Q:VK):Prop :=
 ∃W:Nat→Nat→List (Key×V)→St→Hp→Prop,(∃m,W 0 m [] (σ++List.replicate k none) (upd H1 D (.dK []))) ∧
  ∀i m ys σ2 H2,W i m ys σ2 H2→(J.stop i H2∧Q (.ref D) H2) ∨
   (J.go i H2∧∃N:List (Key×V)→St→Hp→Prop,(∀ys' σ' H',N ys' σ' H'→∃m',m'<m∧W (i+1) m' ys' σ' H')∧∀x H3,J.yld i H2 x H3→g x σ2 H3 fun σ4 H4=>tc σ4 H4 fun b H5 =>
    if b=true then tk σ4 H5 fun kv H6=>te σ4 H6 fun y H7=>∃k:Key,kv=kV k∧H7 D=some (.dK ys)∧ys.length<sizeLine∧N (Zcg ys k y) σ4 (upd H7 D (.dK (Zcg ys k y))) else N ys σ4 H5)
def tKComp(n:Nat)(wi:TI)(g:TG)(tc:TT)(tk te:TE):TE:=fun σ H Q=>wi σ H fun J H1=>∀D,H1 D=none→Zlb J D n σ H1 g tc tk te Q
section
variable {X:Cx} {N N':List Str} {o c:Scope}
end
section
variable {X:Cx}
def rIxK:R2:=fun x y H Q=>∃d kvs k v,x=.ref d∧y=kV k∧H d=some (.dK kvs)∧ZaU kvs k=some v∧Q v H
end
section
variable {prog:Program} {w:World} {A:Around} {R:Result→Shared→Prop} {I:Addr} {fp wr:List Addr} {G:Array GenState→Array GenState→Prop} {n:Nat} {P:Nat→Value→Prop} {St:Nat→Shared→Prop} {K:Type} [DecidableEq K] {knd:KeyKind prog w K}
end
section
variable {prog:Program} {w:World} {A:Around} {E:Value→Shared→Prop} {s:Shared} {K:Type} [DecidableEq K] {knd:KeyKind prog w K}
end
def rDictP(K:PySem.W.Frag):List V→Hp→VK→Prop:=fun xs H Q=>∃ (a:Addr) (ts:List (Addr×Key×V)),xs=[.ref a]∧SqL K H a (ts.map fun t=>V.ref t.1)∧(∀t∈ts,H t.1=some (.tup [kV t.2.1,t.2.2]))∧ts.length≤1000 ∧
 ∀D,H D=none→Q (.ref D) (upd H D (.dK (Zhq [] (ts.map (·.2)))))
def rInG:R2:=fun y x H Q=>∃a o,x=.ref a∧Zbg H a y o∧Q (.bl o.isSome) H
def rNotInG:R2:=fun y x H Q=>∃a o,x=.ref a∧Zbg H a y o∧Q (.bl (!o.isSome)) H
def Zof:R2:=fun x y H Q=>∃a v,x=.ref a∧Zbg H a y (some v)∧Q v H
section
variable {X:Cx} {k:Nat}
def Znk:ZiP:=fun o i v H Q=>∃a H',o=.ref a∧Zdu H a i v H'∧Q H'
theorem Zi1(hr:ZaC k X.A):ZlV X Znk:=by
 intro pins s σ H o i v ov iv u Q I ro ri rv h
 obtain⟨a,H',rfl,g,q⟩:=h
 cases ro
 exact ZiE (ZjK hr) I g ri rv fun s4 I4=>⟨H',I4,q⟩
theorem ZhC{prog:Program}{w:World}{A:Around}{E:Value→Shared→Prop}{s:Shared}{value slice:Expr}{o i:Value}{T id:String}{Q:Value→Shared→Prop}(hT:s.TypeIs o T)
  (hl:typeLookup (.type T) "__getitem__" = pure (some (.builtin id))) (hs:subscripted slice false o i=operate [o,i] (getItem o i)) (h:wpAny (model prog w) A (getItem o i) Q E s) :
  wpAny (model prog w) A (subscriptTail value slice o i) Q E s:=by
 unfold subscriptTail
 refine wpAny_bind ?_
 rw[getitemInPython_of_ne hT.not_modules]
 refine wpAny_bind (wpAny_specialOf hT hl ?_)
 have fin:wpAny (model prog w) A (subscripted slice false o i) (fun r s₃=>wpAny (model prog w) A (letTemporaryGo value o r >>= fun _=>pure r) Q E s₃) E s:=by
  rw[hs]
  exact wpAny_operating (wpAny_mono h (fun r s₃ h₃=>wpAny_bind (wpAny_letTemporaryGo (wpAny_pure h₃))) fun _ _ x=>x)
 first
  | exact wpAny_pure (wpAny_bind fin)
  | exact wpAny_bind (wpAny_pure (wpAny_bind fin))
  | exact wpAny_bind fin
theorem ixG(hr:ZaC k X.A):IxR X Zof:=by
 intro value slice pins s σ H x y v u Q I rx ry h hs
 obtain⟨a,z,rfl,g,q⟩:=h
 cases rx
 exact ZhC (ZgP I g) PySem.F.slot_dict_getitem.lookup hs (ZiZ (ZjK hr) I g ry fun w' s' I' rw'=>⟨z,H,I',rw',q⟩)
def rEqE(neg:Bool):R2:=fun x y H Q=>∃a b kvs,x=.ref a∧y=.ref b∧H a=some (.dK kvs)∧H b=some (.dK [])∧Q (.bl (if neg then !kvs.isEmpty else kvs.isEmpty)) H
theorem Znf:Za1 X (.builtin "len") (fun xs H Q=>∃a kvs,xs=[V.ref a]∧H a=some (.dK kvs)∧Q (.int kvs.length) H):=ZiN
theorem Zne(hc:X.calm=true:=by rfl):Za1 X (.type "list") Zjv:=Zg7 hc
end
mutual
inductive DH (H:Hp):V→PyData→Prop where
 | non:DH H .non .none
 | bl (b:Bool):DH H (.bl b) (.bool b)
 | int (i:Int):DH H (.int i) (.int i)
 | str (s:Str):DH H (.str s) (.str s)
 | lst {a:Addr} {xs:List V} {ds:List PyData}:H a=some (.lst xs)→DHs H xs ds→DH H (.ref a) (.list ds)
 | tup {a:Addr} {xs:List V} {ds:List PyData}:H a=some (.tup xs)→DHs H xs ds→DH H (.ref a) (.tuple ds)
inductive DHs (H:Hp):List V→List PyData→Prop where
 | nil:DHs H [] []
 | cons {x:V} {d:PyData} {xs:List V} {ds:List PyData}:DH H x d→DHs H xs ds→DHs H (x::xs) (d::ds)
end
mutual
theorem DH.mono{H H':Hp}(s:Zx H H'):∀ {x:V} {d:PyData},DH H x d→DH H' x d
 | _,_,.non=>.non
 | _,_,.bl b=>.bl b
 | _,_,.int i=>.int i
 | _,_,.str z=>.str z
 | _,_,.lst h hs=>.lst (s _ _ h) (DHs.mono s hs)
 | _,_,.tup h hs=>.tup (s _ _ h) (DHs.mono s hs)
theorem DHs.mono{H H':Hp}(s:Zx H H'):∀ {xs:List V} {ds:List PyData},DHs H xs ds→DHs H' xs ds
 | _,_,.nil=>.nil
 | _,_,.cons h hs=>.cons (DH.mono s h) (DHs.mono s hs)
end
mutual
theorem DH.dv{K:PySem.W.Frag}{H:Hp}:∀ {x:V} {d:PyData},DH H x d→DV K H x d
 | _,_,.non=>.non
 | _,_,.bl b=>.bl b
 | _,_,.int i=>.int i
 | _,_,.str z=>.str z
 | _,_,.lst h hs=>.lst (SqL.of h) (DHs.dv hs)
 | _,_,.tup h hs=>.tup (SqT.of h) (DHs.dv hs)
theorem DHs.dv{K:PySem.W.Frag}{H:Hp}:∀ {xs:List V} {ds:List PyData},DHs H xs ds→DVs K H xs ds
 | _,_,.nil=>.nil
 | _,_,.cons h hs=>.cons (DH.dv h) (DHs.dv hs)
end
def tyD:PyData→String
 | .none => "NoneType"
 | .bool _ => "bool"
 | .int _ => "int"
 | .str _ => "str"
 | .tuple _ => "tuple"
 | _ => "list"
def isIntD:PyData→Bool
 | .int _=>true
 | _=>false
def isBoolD:PyData→Bool
 | .bool _=>true
 | _=>false
def isLstD:PyData→Bool
 | .list _=>true
 | _=>false
def isTupD:PyData→Bool
 | .tuple _=>true
 | _=>false
def isStrD:PyData→Bool
 | .str _=>true
 | _=>false
section
open PySem.W
end
theorem ZgY{kvs:List (Key×V)}{k:Key}{v:V}(h:ZaU kvs k=some v):(k,v)∈kvs:=by
 unfold ZaU at h
 obtain⟨p,hp,rfl⟩:=Qad.mp h
 have h1:=List.find?_some hp
 have h2:=List.mem_of_find?_eq_some hp
 have:p.1=k:=by simpa using h1
 rw[← this];exact h2
theorem Zgj{kvs:List (Key×V)}(hn:(kvs.map (·.1)).Nodup){k:Key}{v:V}(h:(k,v)∈kvs):ZaU kvs k=some v:=by
 induction kvs with
 | nil=>cases h
 | cons p r ih =>
  obtain⟨n1,n2⟩:=QP.mp (by simpa using hn:(p.1::r.map (·.1)).Nodup)
  rcases QE.mp h with rfl|h
  ·exact ZcG rfl
  ·rw[ZcC fun e=>n1 (e ▸ Qc (f:=(·.1)) h)]
   exact ih n2 h
def tOrK(K:PySem.W.Frag)(ta tb:TE):TE:=fun σ H Q=>ta σ H fun x H1=>∃k,Zn2 K x H1 k∧if k=true then Q x H1 else tb σ H1 Q
theorem Zlm{d:Addr}{o:Obj}{kvs:List (Key×V)}{k:Nat}{D:Addr}{σ:L2.St}{H1:Hp}{g:TG}{tc:TT}{te:TE}{Q:VK}(Pv:Nat→List V→L2.St→Hp→Prop)(h0:Pv 0 [] (σ++List.replicate k none) (upd H1 D (.lst [])))
  (hl:∀i ys σ H,Pv i ys σ H→H d=some (.frz o (.dK kvs)))
  (hs:∀i k x ys σ H p,kvs[i]? = some (k,x)→Pv i ys σ H→H p=none→g (.ref p) σ (upd H p (.tup [kV k,x])) fun σ4 H4=>tc σ4 H4 fun b H5=>if b=true then te σ4 H5 fun y H6=>H6 D=some (.lst ys)∧ys.length<sizeLine∧Pv (i+1) (ys++[y]) σ4 (upd H6 D (.lst (ys++[y]))) else Pv (i+1) ys σ4 H5)
  (hd:∀ys σ H,Pv kvs.length ys σ H→Q (.ref D) H):ZdZ (Iti d o kvs) D k σ H1 g tc te Q:=by
 refine⟨fun i m ys σ H=>m=kvs.length-i∧i≤kvs.length∧Pv i ys σ H,⟨kvs.length,by simp,Qq _,h0⟩,?_⟩
 rintro i m ys σ H ⟨rfl,hi,p⟩
 have q1:=hl i ys σ H p
 by_cases hlt:i<kvs.length
 ·refine .inr ⟨⟨q1,hlt⟩,Pv (i+1),fun ys' σ' H' p'=>⟨kvs.length-(i+1),by omega,rfl,hlt,p'⟩,fun x H' y=>?_⟩
  obtain⟨r,k',x',hr,rfl,e,rfl⟩:=y
  exact hs i k' x' ys σ H r e p hr
 ·have e:i=kvs.length:=by omega
  exact .inl ⟨⟨q1,by omega⟩,hd ys σ H (e ▸ p)⟩
def off(p:Addr)(H:Hp):Hp:=fun b=>if b=p then none else H b
section
variable {prog:Program} {w:World} {A:Around} {R:Result→Shared→Prop} {I:Addr} {fp wr:List Addr} {G:Array GenState→Array GenState→Prop} {n:Nat} {P:Nat→Value→Prop} {St:Nat→Shared→Prop} {K:Type} [DecidableEq K] {knd:KeyKind prog w K}
end
def rDPop:V→List V→Hp→VK→Prop:=fun x vs H Q=>∃a kvs k v,x=.ref a∧vs=[kV k]∧H a=some (.dK kvs)∧ZaU kvs k=some v∧Q v (upd H a (.dK (ZhO kvs k)))
def rDUpd(K:PySem.W.Frag):V→List V→Hp→VK→Prop:=fun x vs H Q=>∃ (D a:Addr) (kvs:List (Key×V)) (ts:List (Addr×Key×V)),x=.ref D∧vs=[.ref a]∧H D=some (.dK kvs)∧H a=some (.lst (ts.map fun t=>V.ref t.1))∧(∀t∈ts,H t.1=some (.tup [kV t.2.1,t.2.2]))∧ts.length≤1000∧kvs.length≤100000 ∧
 Q .non (upd H D (.dK (Zhq kvs (ts.map (·.2)))))
theorem Zio{X:Cx}{s:Stmt}:PS X s (fun _ _ _=>False):=fun pins s' σ H D I h=>h.elim
def pairsAt(ts:List (Addr×Key×V))(l:Addr)(H:Hp):Hp:=fun b=>if b=l then some (.lst (ts.map fun t=>V.ref t.1)) else
 match ts.find? fun t=>decide (t.1=b) with
 | some t=>some (.tup [kV t.2.1,t.2.2])
 | none=>H b
def tLstItems(to:TE):TE:=fun σ H Q=>to σ H fun x H1=>∃d kvs,x=.ref d∧H1 d=some (.dK kvs) ∧
 ∀ (l:Addr) (ts:List (Addr×Key×V)) (H2:Hp),H1 l=none→ts.map (·.2)=kvs→(∀t∈ts,H1 t.1=none∧H2 t.1=some (.tup [kV t.2.1,t.2.2]))→(∀b o,H1 b=some o→H2 b=some o)→H2 l=some (.lst (ts.map fun t=>V.ref t.1))→Q (.ref l) H2
theorem ZlW{X:Cx}{k:Nat}{o e:Expr}{td ty:TE}{apos cpos:Pos}(hr:ZaC k X.A)(ho:PE X o td)(he:PE X e ty)(hb:attributeBase o "get" X.env (eval o X.env)=eval o X.env:=by rfl)
  (hl:(apos.endLine == cpos.line)=true:=by rfl) (ht:backTo cpos (starEach [e] X.env)=[(false,eval e X.env)]:=by rfl):PE X (.Call (.Attribute o "get" apos) [e] [] cpos) (Zj5 td ty):=by
 refine ZjH (ZjK hr) ho he ⟨hb,?_,hl,ht⟩
 rw[ht];rfl
section
variable {prog:Program} {w:World} {A:Around} {E:Value→Shared→Prop} {s:Shared} {l:Addr} {xs:Array (Int×Tok)}
end
def rMinQ(K:PySem.W.Frag):List V→Hp→VK→Prop:=fun vs H Q=>∃ (p:Addr) (ns:List Int),vs=[.ref p]∧SqT K H p (ns.map V.int)∧0<ns.length∧∀M,M∈ns→(∀a∈ns,M≤a)→Q (.int M) H
section
variable {X:Cx}
theorem ZkI{x:Str}{n:Int}{pos:Pos}(hm:∃tk,X.mg x=some (.int n tk))(hg:Gl X x:=by rfl)(hd:(x == ("__debug__" : Str))=false:=by decide):PE X (.Name x pos) (tC (.int n)):=by
 obtain⟨tk,h⟩:=hm
 exact Zk5 hg h ⟨tk,rfl⟩ hd
end
section
variable {X:Cx}
end
def tThawS(t:TS):TS:=fun D σ H=>∃d u,H d=some u∧Mut (some u)∧t ⟨fun σ' H'=>∃o,H' d=some (.frz o u)∧D.nx σ' (upd H' d u),fun _ _=>False,fun _ _=>False,fun _ _=>False⟩ σ H
def Zn5(t u:TS):TS:=fun D σ H=>∃M:St→Hp→Prop,t { D with nx:=M } σ H∧∀σ' H',M σ' H'→u D σ' H'
theorem Zei{X:Cx}{st:Stmt}{Zd6:List Stmt}{t u:TS}(h1:PS X st t)(h2:PSs X Zd6 u):PSs X (st::Zd6) (Zn5 t u):=by
 intro pins s σ H D I h
 obtain⟨M,h,hm⟩:=h
 refine wpAny_execs_cons (thn (h1 pins s σ H { D with nx:=M } I h) fun f s1 q=>?_)
 cases f with
 | next =>
  obtain⟨σ',H',I',q⟩:=q
  exact h2 pins s1 σ' H' D I' (hm σ' H' q)
 | ret v=>exact q
 | brk=>exact q
 | cont=>exact q
end L2
set_option maxHeartbeats 1000000
namespace My
open PySem L2 PyProof.Rows
abbrev Ztl:=@List.tail Stmt
abbrev Zt2(x:List Stmt):=Ztl (Ztl x)
abbrev Zt4(x:List Stmt):=Zt2 (Zt2 x)
abbrev Zt8(x:List Stmt):=Zt4 (Zt4 x)
abbrev Zt16(x:List Stmt):=Zt8 (Zt8 x)
abbrev Zt32(x:List Stmt):=Zt16 (Zt16 x)
local macro_rules|`(‹$i:num›)=>`(@pv _ $i _ _ (by rfl) (Or.inl rfl) (by decide) (by decide))
local macro_rules|`(tactic|trivial)=>`(tactic|first|exact .inl rfl|exact .inr rfl|decide|exact Nat.le_refl _|omega)
local macro_rules
|`(#[Xns,$a,$b,$c])=>`(PySem.W.nsIn $a mainGlobals $b=some (some (.ref $c)))
|`(#[Xfi,$a,$b,$c,$d])=>`(PySem.W.findIn $a (.ref $b) $c=some (some (.ref $d)))
|`(#[Xlk,$z,$a,$b,$c,$d,$e,$f,$g,$h,$i,$j,$k,$l,$m])=>`(($z).lookup $a=some ⟨$b,$c,.func (PySem.W.fnOf $d $e (Zn $f) (Zm $f) (Zd $f) .none $g $h $i $j $k $l),$m⟩)
|`(#[Ze,$a,$b])=>`(@Ze _ _ _ _ _ $a $b)
|`(#[Zv,$a,$b,$c,$d])=>`(@Zv _ _ $a _ _ _ _ $b rfl $c $d (by rfl) (by trivial))
|`(#[ZP,$a,$b,$c])=>`(@ZP _ _ _ _ _ _ _ _ $a $b $c)
|`(#[Zh])=>`(@Zh _ _ _ _)
|`(#[Zi,$a])=>`(@Zi _ _ _ $a)
|`(#[Zs,$a])=>`(@Zs _ _ _ _ $a)
|`(#[ZaY,$a,$b,$c])=>`(@ZaY _ _ _ _ _ _ _ _ $a $b $c)
|`(#[Zo,$a,$b,$c,$d])=>`(@Zo _ _ _ _ _ _ _ _ $a $b $c $d)
|`(#[Zw,$a,$b,$c,$d,$e])=>`(@Zw _ _ _ _ _ _ _ _ _ $a $b $c $d $e (by decide) (by decide) (by rfl) (by rfl))
|`(#[Za,$a,$b])=>`(@Za _ _ _ _ _ $a $b (by rfl))
|`(#[Zf])=>`(@Zf _)
|`(#[ZC,$a,$b,$c])=>`(@ZC _ _ _ _ _ _ _ $a $b $c (fun _ _=>rfl))
|`(#[Zbz,$a])=>`(@Zbz _ _ _ _ $a)
|`(#[Zc1,$a,$b,$c,$d])=>`(@Zc1 _ _ _ _ _ _ _ _ _ $a (by rfl) $b $c $d (by decide) (by decide) (by rfl) (by rfl))
|`(#[Za8,$a,$b])=>`(@Za8 _ _ _ _ _ _ $a $b (by rfl) (by rfl) (by rfl))
|`(#[Zcv,$a,$b,$c])=>`(@Zcv _ _ _ _ _ _ _ $a $b $c (by intro _;rfl))
|`(#[Zat,$a,$b,$c])=>`(@Zat _ _ _ _ _ _ _ _ $a $b $c)
|`(#[ZM])=>`(@ZM _)
|`(#[Zz,$a,$b,$c,$d])=>`(@Zz _ _ _ _ _ _ _ _ _ _ _ $a $b $c (by trivial) $d (by decide) (by rfl) (by rfl))
|`(#[ZaB])=>`(@ZaB _ _ _ _)
|`(#[ZbD,$a,$b,$c,$d,$e])=>`(@ZbD _ _ _ _ _ _ _ _ _ _ _ _ _ _ $a rfl rfl rfl $b $c $d $e (by intro _;rfl))
|`(#[ZbN,$a,$b])=>`(@ZbN _ _ _ _ _ _ rfl $a $b (by rfl))
|`(#[pv,$a,$b])=>`(@pv _ $a _ _ (by rfl) $b (by decide) (by decide))
|`(#[cg,$a,$b])=>`(@cg _ _ _ _ _ _ _ _ _ _ _ $a $b rfl (by decide +kernel) (by rfl))
|`(#[cv,$a,$b])=>`(@cv _ _ _ _ _ _ _ _ _ _ _ $a $b rfl (by decide +kernel) (by rfl) (by decide) (by decide))
|`(#[ZeL,$a,$b,$c,$d,$e,$f])=>`(@ZeL _ _ _ _ _ _ _ _ _ _ _ _ $a $b $c $d $e $f (by rfl) (by rfl) (by rfl) (by rfl) (by rfl))
|`(#[ZcM,$a,$b])=>`(@ZcM _ _ _ _ _ _ _ $a $b)
|`(#[Zdi,$a,$b,$c,$d])=>`(@Zdi _ _ _ _ _ _ _ _ $a rfl $b $c $d (by intro _;rfl))
|`(#[ZR,$a,$b])=>`(@ZR _ _ $a _ $b rfl (Or.inl rfl) (by trivial))
|`(#[ZaJ,$a])=>`(@ZaJ _ _ _ _ $a (by rfl))
|`(#[gT,$a,$b,$c])=>`(@gT _ $a _ _ _ $b _ $c (by rfl) (by rfl) (by rfl) (by rfl))
|`(#[ZV,$a,$b])=>`(@ZV _ _ _ _ _ $a $b (by rfl))
|`(#[Za9,$a])=>`(@Za9 _ _ _ _ _ $a)
|`(#[Zae])=>`(@Zae _ _ _)
|`(#[ZL,$a])=>`(@ZL _ _ _ _ _ $a (by rfl))
|`(#[Z0,$a,$b,$c,$d])=>`(@Z0 _ _ _ _ _ _ _ _ _ _ _ _ $a $b $c $d (by trivial) (by rfl))
|`(#[Zbh,$a,$b])=>`(@Zbh _ _ _ _ _ _ _ _ $a $b (by rfl))
|`(#[ZbZ,$a,$b,$c])=>`(@ZbZ _ _ _ _ _ _ _ _ _ _ $a $b $c)
|`(#[Zda,$a,$b,$c,$d,$e])=>`(@Zda _ _ _ _ _ _ _ _ _ _ _ _ _ _ _ $a $b $c $d $e (by trivial) (by rfl) (by rfl) (by rfl))
|`(#[Zfm,$a,$b,$c])=>`(@Zfm _ _ _ _ _ _ _ _ _ _ _ _ $a $b $c (by trivial) (by rfl) (by decide) (by rfl) (by rfl))
|`(#[cw,$a,$b])=>`(@cw _ _ _ _ _ _ _ _ _ _ _ $a $b rfl (by decide +kernel) (by rfl) (by decide) (by decide))
|`(#[iL,$a,$b])=>`(@iL _ $a _ _ _ $b (by rfl))
|`(#[Zef])=>`(@Zef _ _ _ _)
|`(#[Zhh,$a,$b,$c,$d])=>`(@Zhh _ _ $a $b _ _ _ _ _ _ _ _ _ _ _ rfl $c rfl rfl (by decide) rfl rfl $d rfl (by rfl))
def hdS:List Stmt→Stmt
 | a::_=>a
 | []=>.Pass ⟨0,0,0,0⟩
abbrev Zad:List Stmt:=PySem.Challenge.pw_mergetree_k66_whole_letters_put_ahead_of.main.body
abbrev Zkp:Stmt:=hdS (Zt2 Zad)
abbrev ZnR:Stmt:=hdS (Zt2 (Ztl Zad))
abbrev Zfb:Stmt:=hdS (Zt4 Zad)
abbrev ZeC:Stmt:=hdS (Zt16 (Zt2 (Ztl Zad)))
abbrev ZY:Stmt:=hdS (Zt16 (Zt4 Zad))
abbrev ZnA:Stmt:=hdS Zad
abbrev Zb2:Stmt:=hdS (Zt4 (Zt2 Zad))
abbrev Zb7:Stmt:=hdS (Zt4 (Zt2 (Ztl Zad)))
abbrev Zcu:Stmt:=hdS (Zt8 (Ztl Zad))
abbrev ZcD:Stmt:=hdS (Zt8 (Zt2 Zad))
abbrev ZaM:Stmt:=hdS (Zt8 (Zt2 (Ztl Zad)))
abbrev ZaN:Stmt:=hdS (Zt8 (Zt4 Zad))
abbrev Zbf:Stmt:=hdS (Zt8 (Zt4 (Ztl Zad)))
abbrev ZaG:Stmt:=hdS (Zt8 (Zt4 (Zt2 (Ztl Zad))))
abbrev ZbT:Stmt:=hdS (Zt16 Zad)
abbrev Zaz:Stmt:=hdS (Zt16 (Zt4 (Ztl Zad)))
abbrev ZaO:Stmt:=hdS (Zt16 (Zt4 (Zt2 Zad)))
abbrev ZbM:Stmt:=hdS (Zt16 (Zt8 Zad))
abbrev ZaP:Stmt:=hdS (Zt16 (Zt8 (Ztl Zad)))
abbrev ZcJ:Stmt:=hdS (Zt16 (Zt8 (Zt2 (Ztl Zad))))
abbrev Zb0:Stmt:=hdS (Zt16 (Zt8 (Zt4 Zad)))
abbrev ZbW:Stmt:=hdS (Zt16 (Zt8 (Zt4 (Ztl Zad))))
abbrev Za6:Stmt:=hdS (Zt16 (Zt8 (Zt4 (Zt2 Zad))))
abbrev Zb4:Stmt:=hdS (Zt16 (Zt8 (Zt4 (Zt2 (Ztl Zad)))))
abbrev ZbP:Stmt:=hdS (Zt32 Zad)
abbrev Zcz:Stmt:=hdS (Zt32 (Ztl Zad))
abbrev ZbS:Stmt:=hdS (Zt32 (Zt2 Zad))
abbrev Zbo:Stmt:=hdS (Zt32 (Zt2 (Ztl Zad)))
abbrev Za7:Stmt:=hdS (Zt32 (Zt4 Zad))
abbrev ZaW:Stmt:=hdS (Zt32 (Zt4 (Ztl Zad)))
abbrev ZaF:Stmt:=hdS (Zt32 (Zt4 (Zt2 Zad)))
abbrev ZaS:Stmt:=hdS (Zt32 (Zt4 (Zt2 (Ztl Zad))))
abbrev Zcf:Stmt:=hdS (Zt32 (Zt8 Zad))
abbrev Zhm:Stmt:=ZQ Zfb 0
abbrev ZaE:Stmt:=ZQ ZeC 0
abbrev Zks:Stmt:=ZQ ZeC 1
abbrev Zax:Stmt:=ZQ ZeC 2
abbrev ZaD:Stmt:=ZQ ZeC 3
abbrev Zi3:Stmt:=ZQ ZeC 4
abbrev Zap:Stmt:=ZQ ZY 0
abbrev Z9:Stmt:=ZQ ZY 1
abbrev Zar:Stmt:=ZQ ZY 2
abbrev ZT:Stmt:=ZQ ZY 3
abbrev Zkq:Stmt:=ZQ ZY 4
abbrev Z5:Stmt:=ZQ ZY 5
abbrev ZO:Stmt:=ZQ ZY 6
abbrev Zah:Stmt:=ZQ ZY 7
abbrev Zkt:Stmt:=ZQ ZY 8
abbrev Z1:Stmt:=ZQ ZY 9
abbrev ZhR:Stmt:=ZQ ZY 10
abbrev Zkr:Stmt:=ZQ ZY 11
abbrev Zi2:Stmt:=ZQ ZY 12
abbrev ZS:Stmt:=ZQ ZY 13
abbrev Zaq:Stmt:=ZQ ZY 14
abbrev ZU:Stmt:=ZQ ZY 15
abbrev ZI:Stmt:=ZQ ZY 16
abbrev Zas:Stmt:=ZQ ZY 17
theorem ZgV:Zq ["_law_cell", "_law_k", "_law_m"] ["_law_cell", "_law_k"] (Zd ZcJ):=⟨rfl,rfl,rfl,by decide +kernel,rfl,by decide +kernel,by decide +kernel⟩
theorem ZfH:Zq ["_law_script", "_law_k", "_law_cell"] ["_law_script", "_law_k"] (Zd Zb0):=⟨rfl,rfl,rfl,by decide +kernel,rfl,by decide +kernel,by decide +kernel⟩
theorem ZfC:Zq ["_law_left_here", "_law_many_here", "_law_digit"] ["_law_left_here", "_law_many_here"] (Zd ZbW):=⟨rfl,rfl,rfl,by decide +kernel,rfl,by decide +kernel,by decide +kernel⟩
theorem ZeR:Zq ["_law_left_here", "_law_some"] ["_law_left_here"] (Zd Za6):=⟨rfl,rfl,rfl,by decide +kernel,rfl,by decide +kernel,by decide +kernel⟩
theorem ZgZ:Zq ["_law_left_here", "_law_stems_here", "_law_tail"] ["_law_left_here", "_law_stems_here"] (Zd Zb4):=⟨rfl,rfl,rfl,by decide +kernel,rfl,by decide +kernel,by decide +kernel⟩
theorem ZbI:Zq ["one", "other", "far", "at"] ["one", "other", "far"] (Zd ZaN):=⟨rfl,rfl,rfl,by decide +kernel,rfl,by decide +kernel,by decide +kernel⟩
theorem Zkl:Zq ["one", "other"] ["one", "other"] (Zd Zcu):=⟨rfl,rfl,rfl,by decide +kernel,rfl,by decide +kernel,by decide +kernel⟩
theorem Zb5:Zq ["_law_left_here", "_law_stems_here", "_law_most", "_law_found", "_law_k", "_law_key_here"] ["_law_left_here", "_law_stems_here", "_law_most"] (Zd ZbP):=⟨rfl,rfl,rfl,by decide +kernel,rfl,by decide +kernel,by decide +kernel⟩
theorem Zc3:Zq ["row", "told", "place", "key"] ["row"] (Zd ZbT):=⟨rfl,rfl,rfl,by decide +kernel,rfl,by decide +kernel,by decide +kernel⟩
theorem Zgy:Zq ["one", "other", "at"] ["one", "other", "at"] (Zd Zbf):=⟨rfl,rfl,rfl,by decide +kernel,rfl,by decide +kernel,by decide +kernel⟩
theorem Zjc:Zq ["one", "other"] ["one", "other"] (Zd ZcD):=⟨rfl,rfl,rfl,by decide +kernel,rfl,by decide +kernel,by decide +kernel⟩
theorem Zdb:Zq ["one", "other", "far", "at"] ["one", "other", "far"] (Zd ZaM):=⟨rfl,rfl,rfl,by decide +kernel,rfl,by decide +kernel,by decide +kernel⟩
theorem ZcR:Zq ["keys", "place"] ["keys"] (Zd ZaG):=⟨rfl,rfl,rfl,by decide +kernel,rfl,by decide +kernel,by decide +kernel⟩
theorem Zft:Zq ["numbers", "middle"] ["numbers"] (Zd Zb2):=⟨rfl,rfl,rfl,by decide +kernel,rfl,by decide +kernel,by decide +kernel⟩
theorem Zfi:Zq ["_law_left_here", "_law_way"] ["_law_left_here"] (Zd ZbS):=⟨rfl,rfl,rfl,by decide +kernel,rfl,by decide +kernel,by decide +kernel⟩
theorem Zf1:Zq ["self"] ["self"] (Zd Zax):=⟨rfl,rfl,rfl,by decide +kernel,rfl,by decide +kernel,by decide +kernel⟩
theorem ZgL:Zq ["self"] ["self"] (Zd ZaD):=⟨rfl,rfl,rfl,by decide +kernel,rfl,by decide +kernel,by decide +kernel⟩
theorem Zg4:Zq ["self", "keys"] ["self", "keys"] (Zd ZaE):=⟨rfl,rfl,rfl,by decide +kernel,rfl,by decide +kernel,by decide +kernel⟩
theorem ZbH:Zq ["self", "rows", "number", "keys"] ["self", "rows"] (Zd Zap):=⟨rfl,rfl,rfl,by decide +kernel,rfl,by decide +kernel,by decide +kernel⟩
theorem Zcq:Zq ["self", "row"] ["self"] (Zd Z9):=⟨rfl,rfl,rfl,by decide +kernel,rfl,by decide +kernel,by decide +kernel⟩
theorem ZeW:Zq ["self"] ["self"] (Zd Z5):=⟨rfl,rfl,rfl,by decide +kernel,rfl,by decide +kernel,by decide +kernel⟩
theorem Zdj:Zq ["self"] ["self"] (Zd ZO):=⟨rfl,rfl,rfl,by decide +kernel,rfl,by decide +kernel,by decide +kernel⟩
theorem Zez:Zq ["self"] ["self"] (Zd Zah):=⟨rfl,rfl,rfl,by decide +kernel,rfl,by decide +kernel,by decide +kernel⟩
theorem ZdE:Zq ["self"] ["self"] (Zd ZS):=⟨rfl,rfl,rfl,by decide +kernel,rfl,by decide +kernel,by decide +kernel⟩
theorem Z3:Zq ["self", "numbers", "first_side", "other_side", "one", "other", "winner", "loser", "far"] ["self", "numbers"] (Zd Zaq):=⟨rfl,rfl,rfl,by decide +kernel,rfl,by decide +kernel,by decide +kernel⟩
theorem Zbb:Zq ["self", "one", "other", "far", "order", "alike_far", "seen"] ["self", "one", "other", "far"] (Zd Zas):=⟨rfl,rfl,rfl,by decide +kernel,rfl,by decide +kernel,by decide +kernel⟩
theorem Zco:Zq ["number", "keys", "place"] ["number", "keys"] (Zd Zaz):=⟨rfl,rfl,rfl,by decide +kernel,rfl,by decide +kernel,by decide +kernel⟩
theorem Zi5:Zq ["_law_left_here", "_law_stems_here", "_law_most"] ["_law_left_here", "_law_stems_here", "_law_most"] (Zd Zcz):=⟨rfl,rfl,rfl,by decide +kernel,rfl,by decide +kernel,by decide +kernel⟩
theorem ZdK:Zq ["_law_left_here", "_law_stems_here", "_law_most"] ["_law_left_here"] (Zd Zbo):=⟨rfl,rfl,rfl,by decide +kernel,rfl,by decide +kernel,by decide +kernel⟩
theorem Zdd:Zq ["self", "thing"] ["self"] (Zd Zar):=⟨rfl,rfl,rfl,by decide +kernel,rfl,by decide +kernel,by decide +kernel⟩
theorem ZbE:Zq ["self", "many", "things"] ["self", "many"] (Zd ZT):=⟨rfl,rfl,rfl,by decide +kernel,rfl,by decide +kernel,by decide +kernel⟩
theorem Zal:Zq ["self", "number", "row", "comer", "meeting"] ["self", "number"] (Zd ZU):=⟨rfl,rfl,rfl,by decide +kernel,rfl,by decide +kernel,by decide +kernel⟩
theorem Zac:Zq ["self", "meeting", "comer", "stayer", "winner", "loser", "far"] ["self", "meeting", "comer"] (Zd ZI):=⟨rfl,rfl,rfl,by decide +kernel,rfl,by decide +kernel,by decide +kernel⟩
theorem Zao:Zq ["numbers", "n", "matches", "least", "greatest", "others"] ["numbers", "n"] (Zd ZaO):=⟨rfl,rfl,rfl,by decide +kernel,rfl,by decide +kernel,by decide +kernel⟩
theorem Za3:Zq ["numbers", "n", "others", "side", "first", "rest"] ["numbers", "n"] (Zd Zb7):=⟨rfl,rfl,rfl,by decide +kernel,rfl,by decide +kernel,by decide +kernel⟩
theorem ZfE:Zq ["rows", "merge"] ["rows"] (Zd ZbM):=⟨rfl,rfl,rfl,by decide +kernel,rfl,by decide +kernel,by decide +kernel⟩
theorem ZgI:Zq ["rows"] ["rows"] (Zd ZaP):=⟨rfl,rfl,rfl,by decide +kernel,rfl,by decide +kernel,by decide +kernel⟩
theorem Zb9:Zq ["self", "row", "number"] ["self", "row"] (Zd Z1):=⟨rfl,rfl,rfl,by decide +kernel,rfl,by decide +kernel,by decide +kernel⟩
theorem Zhw:Zq ["_law_rows_here", "_law_letters"] ["_law_rows_here", "_law_letters"] (Zd Za7):=⟨rfl,rfl,rfl,by decide +kernel,rfl,by decide +kernel,by decide +kernel⟩
theorem Zgg:Zq ["_law_thing"] ["_law_thing"] (Zd ZaW):=⟨rfl,rfl,rfl,by decide +kernel,rfl,by decide +kernel,by decide +kernel⟩
theorem ZcB:Zq ["_law_one", "_law_other", "_law_letters", "_law_plays", "_law_ours", "_law_theirs"] ["_law_one", "_law_other", "_law_letters", "_law_plays"] (Zd ZaF):=⟨rfl,rfl,rfl,by decide +kernel,rfl,by decide +kernel,by decide +kernel⟩
theorem Zam:Zq ["_law_left_here", "_law_rows_here", "_law_letters", "_law_one", "_law_other", "_law_plays", "_law_late", "_law_turns", "_law_row_here", "_law_before"] ["_law_left_here", "_law_rows_here", "_law_letters"] (Zd ZaS):=⟨rfl,rfl,rfl,by decide +kernel,rfl,by decide +kernel,by decide +kernel⟩
theorem Zdk:Zq ["_law_script", "_law_k", "_law_left_here", "_law_rows_here", "_law_letters", "_law_plain", "_law_ahead_here", "_law_first"] ["_law_script"] (Zd Zcf):=⟨rfl,rfl,rfl,by decide +kernel,rfl,by decide +kernel,by decide +kernel⟩
def ZkS:Scope:={ kind:=.function,names:=[(Str.ofString ".0",.«local»),(Str.ofString "_law_k",.«local»),(Str.ofString "_law_pick",.globalImplicit),(Str.ofString "_law_left_here",.free),(Str.ofString "_law_some",.free)],isGenerator:=false,isCoroutine:=false,more:=[] }
theorem ZjC:Zan ["_law_left_here", "_law_some"] ["_law_left_here", "_law_some", "_law_k"] (Zd Za6) ZkS:=⟨rfl,rfl,by decide +kernel,by decide +kernel,by decide +kernel,by decide,by decide +kernel,by decide +kernel⟩
def Zm3:Scope:={ kind:=.function,names:=[(Str.ofString ".0",.«local»),(Str.ofString "_law_k",.«local»),(Str.ofString "_law_pick",.globalImplicit),(Str.ofString "_law_left_here",.cell),(Str.ofString "_law_some",.cell)],isGenerator:=false,isCoroutine:=false,more:=[] }
def Zlt:Scope:={ kind:=.function,names:=[(Str.ofString ".0",.«local»),(Str.ofString "_law_k",.«local»),(Str.ofString "_law_pick",.globalImplicit),(Str.ofString "_law_left_here",.free)],isGenerator:=false,isCoroutine:=false,more:=[] }
theorem ZkF:Zan ["_law_left_here", "_law_stems_here", "_law_tail"] ["_law_left_here", "_law_stems_here", "_law_tail", "_law_k"] (Zd Zb4) Zlt:=⟨rfl,rfl,by decide +kernel,by decide +kernel,by decide +kernel,by decide,by decide +kernel,by decide +kernel⟩
def Zm9:Scope:={ kind:=.function,names:=[(Str.ofString ".0",.«local»),(Str.ofString "_law_k",.«local»),(Str.ofString "_law_pick",.globalImplicit),(Str.ofString "_law_left_here",.cell)],isGenerator:=false,isCoroutine:=false,more:=[] }
def ZkY:Scope:={ kind:=.function,names:=[(Str.ofString ".0",.«local»),(Str.ofString "number",.«local»),(Str.ofString "row",.«local»)],isGenerator:=false,isCoroutine:=false,more:=[] }
theorem Zjs:Zan ["self"] ["self", "number", "row"] (Zd Z5) ZkY:=⟨rfl,rfl,by decide +kernel,by decide +kernel,by decide +kernel,by decide,by decide +kernel,by decide +kernel⟩
def Znj:Scope:={ kind:=.function,names:=[(Str.ofString ".0",.«local»),(Str.ofString "number",.«local»),(Str.ofString "row",.«local»)],isGenerator:=false,isCoroutine:=false,more:=[] }
def ZkO:Scope:={ kind:=.function,names:=[(Str.ofString ".0",.«local»),(Str.ofString "_law_k",.«local»),(Str.ofString "_law_row",.globalImplicit),(Str.ofString "_law_left_here",.free),(Str.ofString "_law_most",.free),(Str.ofString "_law_stems_here",.free)],isGenerator:=false,isCoroutine:=false,more:=[] }
theorem ZiG:Zan ["_law_left_here", "_law_stems_here", "_law_most"] ["_law_left_here", "_law_stems_here", "_law_most", "_law_k"] (Zd Zbo) ZkO:=⟨rfl,rfl,by decide +kernel,by decide +kernel,by decide +kernel,by decide,by decide +kernel,by decide +kernel⟩
def ZnF:Scope:={ kind:=.function,names:=[(Str.ofString ".0",.«local»),(Str.ofString "_law_k",.«local»),(Str.ofString "_law_row",.globalImplicit),(Str.ofString "_law_left_here",.cell),(Str.ofString "_law_most",.cell),(Str.ofString "_law_stems_here",.cell)],isGenerator:=false,isCoroutine:=false,more:=[] }
def Zlw:Scope:={ kind:=.function,names:=[(Str.ofString ".0",.«local»),(Str.ofString "row",.«local»),(Str.ofString "len",.globalImplicit)],isGenerator:=false,isCoroutine:=false,more:=[] }
theorem Zli:Zan ["rows"] ["rows", "row"] (Zd ZaP) Zlw:=⟨rfl,rfl,by decide +kernel,by decide +kernel,by decide +kernel,by decide,by decide +kernel,by decide +kernel⟩
def ZnK:Scope:={ kind:=.function,names:=[(Str.ofString ".0",.«local»),(Str.ofString "row",.«local»),(Str.ofString "len",.globalImplicit)],isGenerator:=false,isCoroutine:=false,more:=[] }
def Zlu:Scope:={ kind:=.function,names:=[(Str.ofString ".0",.«local»),(Str.ofString "_law_row_here",.«local»),(Str.ofString "_law_letters",.free)],isGenerator:=false,isCoroutine:=false,more:=[] }
theorem Zmb:Zan ["_law_rows_here", "_law_letters"] ["_law_rows_here", "_law_letters", "_law_row_here"] (Zd Za7) Zlu:=⟨rfl,rfl,by decide +kernel,by decide +kernel,by decide +kernel,by decide,by decide +kernel,by decide +kernel⟩
def ZjV:Scope:={ kind:=.function,names:=[(Str.ofString ".0",.«local»),(Str.ofString "_law_row_here",.«local»),(Str.ofString "_law_letters",.cell)],isGenerator:=false,isCoroutine:=false,more:=[] }
def ZkL:Scope:={ kind:=.function,names:=[(Str.ofString ".0",.«local»),(Str.ofString "_law_key_here",.«local»),(Str.ofString "_law_letters",.free)],isGenerator:=false,isCoroutine:=false,more:=[] }
theorem Zlk:Zan ["_law_rows_here", "_law_letters", "_law_row_here"] ["_law_rows_here", "_law_letters", "_law_row_here", "_law_key_here"] ZjV ZkL:=⟨rfl,rfl,by decide +kernel,by decide +kernel,by decide +kernel,by decide,by decide +kernel,by decide +kernel⟩
def Zm7:Scope:={ kind:=.function,names:=[(Str.ofString ".0",.«local»),(Str.ofString "_law_key_here",.«local»),(Str.ofString "_law_letters",.cell)],isGenerator:=false,isCoroutine:=false,more:=[] }
def Zln:Scope:={ kind:=.function,names:=[(Str.ofString ".0",.«local»),(Str.ofString "_law_key_here",.«local»),(Str.ofString "_law_letters",.free)],isGenerator:=false,isCoroutine:=false,more:=[] }
theorem Zld:Zan ["_law_left_here", "_law_rows_here", "_law_letters", "_law_one", "_law_other", "_law_plays", "_law_late", "_law_turns", "_law_row_here", "_law_before"] ["_law_left_here", "_law_rows_here", "_law_letters", "_law_one", "_law_other", "_law_plays", "_law_late", "_law_turns", "_law_row_here", "_law_before", "_law_key_here"] (Zd ZaS) Zln:=⟨rfl,rfl,by decide +kernel,by decide +kernel,by decide +kernel,by decide,by decide +kernel,by decide +kernel⟩
def Zni:Scope:={ kind:=.function,names:=[(Str.ofString ".0",.«local»),(Str.ofString "_law_key_here",.«local»),(Str.ofString "_law_letters",.cell)],isGenerator:=false,isCoroutine:=false,more:=[] }
structure Bt (mg:Str→Option Value):Prop where
 n_abs:mg "abs" = none
 n_enumerate:mg "enumerate" = none
 n_int:mg "int" = none
 n_len:mg "len" = none
 n_list:mg "list" = none
 n_max:mg "max" = none
 n_min:mg "min" = none
 n_range:mg "range" = none
 n_sorted:mg "sorted" = none
 n_sum:mg "sum" = none
structure Zak (K:PySem.W.Frag) (mg:Str→Option Value) (cRow:Addr) (cMerge:Addr):Prop where
 b:Bt mg
 t_halves:Top K mg "halves" Zb2 ["numbers"]
 t_way_up:Top K mg "way_up" Zb7 ["numbers", "n"]
 t_alike:Top K mg "alike" Zcu ["one", "other"]
 t_liken:Top K mg "liken" ZcD ["one", "other"]
 t_liken_from:Top K mg "liken_from" ZaM ["one", "other", "far"]
 t_alike_from:Top K mg "alike_from" ZaN ["one", "other", "far"]
 t_order_at:Top K mg "order_at" Zbf ["one", "other", "at"]
 t_first_break:Top K mg "first_break" ZaG ["keys"]
 t_alikes:Top K mg "alikes" ZbT ["row"]
 t_refuse_break:Top K mg "refuse_break" Zaz ["number", "keys"]
 t_matches_up:Top K mg "matches_up" ZaO ["numbers", "n"]
 t_counts:Top K mg "counts" ZbM ["rows"]
 t_how_many:Top K mg "how_many" ZaP ["rows"]
 t_l_mix:Top K mg "_law_mix" ZcJ ["_law_cell", "_law_k"]
 t_l_left:Top K mg "_law_left" Zb0 ["_law_script", "_law_k"]
 t_l_pick:Top K mg "_law_pick" ZbW ["_law_left_here", "_law_many_here"]
 t_l_stems:Top K mg "_law_stems" Za6 ["_law_left_here"]
 t_l_key:Top K mg "_law_key" Zb4 ["_law_left_here", "_law_stems_here"]
 t_l_keys:Top K mg "_law_keys" ZbP ["_law_left_here", "_law_stems_here", "_law_most"]
 t_l_row:Top K mg "_law_row" Zcz ["_law_left_here", "_law_stems_here", "_law_most"]
 t_l_many:Top K mg "_law_many" ZbS ["_law_left_here"]
 t_l_rows:Top K mg "_law_rows" Zbo ["_law_left_here"]
 t_l_ahead:Top K mg "_law_ahead" Za7 ["_law_rows_here", "_law_letters"]
 t_l_pair_of:Top K mg "_law_pair_of" ZaW ["_law_thing"]
 t_l_alike_now:Top K mg "_law_alike_now" ZaF ["_law_one", "_law_other", "_law_letters", "_law_plays"]
 t_l_walked:Top K mg "_law_walked" ZaS ["_law_left_here", "_law_rows_here", "_law_letters"]
 t_Row_init:ZkP K mg cRow "Row" "Row.__init__" ZaE ["self", "keys"]
 t_Row_to_go:Zc7 K cRow "to_go" "Row.to_go" Zax ["self"]
 t_Row_head:Zc7 K cRow "head" "Row.head" ZaD ["self"]
 t_Merge_init:ZkP K mg cMerge "Merge" "Merge.__init__" Zap ["self", "rows"]
 t_Merge_coming:Zc7 K cMerge "coming" "Merge.coming" Z9 ["self"]
 t_Merge_take:Zc7 K cMerge "take" "Merge.take" Zar ["self"]
 t_Merge_take_few:Zc7 K cMerge "take_few" "Merge.take_few" ZT ["self", "many"]
 t_Merge_heads:Zc7 K cMerge "heads" "Merge.heads" Z5 ["self"]
 t_Merge_likenings:Zc7 K cMerge "likenings" "Merge.likenings" ZO ["self"]
 t_Merge_looks:Zc7 K cMerge "looks" "Merge.looks" Zah ["self"]
 t_Merge_add_row:Zc7 K cMerge "add_row" "Merge.add_row" Z1 ["self", "row"]
 t_Merge_play_all:Zc7 K cMerge "play_all" "Merge.play_all" ZS ["self"]
 t_Merge_play:Zc7 K cMerge "play" "Merge.play" Zaq ["self", "numbers"]
 t_Merge_send_out:Zc7 K cMerge "send_out" "Merge.send_out" ZU ["self", "number"]
 t_Merge_play_again:Zc7 K cMerge "play_again" "Merge.play_again" ZI ["self", "meeting", "comer"]
 t_Merge_meet:Zc7 K cMerge "meet" "Merge.meet" Zas ["self", "one", "other", "far"]
 cl_Row:Cls K cRow
 na_Row_all_keys:ZaK K cRow "all_keys"
 na_Row_fars:ZaK K cRow "fars"
 na_Row_gone:ZaK K cRow "gone"
 cl_Merge:Cls K cMerge
 na_Merge_best:ZaK K cMerge "best"
 na_Merge_likened:ZaK K cMerge "likened"
 na_Merge_looked:ZaK K cMerge "looked"
 na_Merge_next_number:ZaK K cMerge "next_number"
 na_Merge_rows:ZaK K cMerge "rows"
 na_Merge_stays:ZaK K cMerge "stays"
 g_MOST_ROWS:∃tk,mg "MOST_ROWS" = some (.int 16 tk)
def Zag(H:Hp)(p:Addr)(c:Int):Prop:=∃a b:Int,H p=some (.lst [.int a,.int b,.int c])∧0≤c
def But(p:Addr)(H H':Hp):Prop:=∀b o,H b=some o→b≠p→H' b=some o
theorem But.trans{p:Addr}{H H1 H2:Hp}(a:But p H H1)(b:But p H1 H2):But p H H2:=fun c o h n=>b c o (a c o h n) n
theorem But.same{p:Addr}{H H1:Hp}(a:Zx H H1):But p H H1:=fun c o h _=>a c o h
theorem Zl{H:Hp}{p:Addr}(h:H p=none)(o:HO):Zx H (upd H p o):=fun b u q=>by rw[Zc (Zb q h)];exact q
theorem Zbk{n:Nat}(h:n≤1000):n≤sizeLine:=Nat.le_of_lt (ZW h)
def Zi9:Sp:=fun vs H Q _=>∃a k:Int,vs=[.int a,.int k] ∧ -(2 ^ 62)<k∧k<2 ^ 62∧∀r:Int,0≤r→r<2000000000→Q (.int r) H
def Zi6(K:PySem.W.Frag):Sp:=fun vs H Q _=>∃ (a:Addr) (ns:List Int) (k:Int),vs=[.ref a,.int k]∧SqL K H a (ns.map V.int)∧ns.length≤63∧0≤k∧k<100 ∧
 ∀ (p:Addr) (H':Hp),H p=none→Zag H' p 0→Zx H H'→Q (.ref p) H'
def ZcT:Sp:=fun vs H Q _=>∃ (p:Addr) (c m:Int),vs=[.ref p,.int m]∧Zag H p c∧c<2 ^ 60∧0<m∧m<1000000 ∧
 ∀ (r:Int) (H':Hp),0≤r→r<m→Zag H' p (c+1)→But p H H'→Q (.int r) H'
theorem Zmd{ns:List Int}{k:Int}(h0:0≤k)(h:k<(ns.length:Int)):∃v:Int,atI (ns.map V.int) k=some (.int v):=by
 have hk:k.toNat<ns.length:=by omega
 have ek:k=((k.toNat:Nat):Int):=by omega
 have q:atI (ns.map V.int) ((k.toNat:Nat):Int)=some (.int ns[k.toNat]):=Zaw (by rw[Qp,Qb hk]<;>rfl)
 rw[← ek]at q
 exact⟨_,q⟩
theorem Zgb{ss:List Str}{k:Int}(h0:0≤k)(h:k<(ss.length:Int)):∃s∈ss,atI (ss.map V.str) k=some (.str s):=by
 have hk:k.toNat<ss.length:=by omega
 have ek:k=((k.toNat:Nat):Int):=by omega
 have q:atI (ss.map V.str) ((k.toNat:Nat):Int)=some (.str ss[k.toNat]):=Zaw (by rw[Qp,Qb hk]<;>rfl)
 rw[← ek]at q
 exact⟨_,QW hk,q⟩
theorem ZlF(b:Bool):-(2 ^ 64)<(if b=true then (1:Int) else 0)∧(if b=true then (1:Int) else 0)<2 ^ 64:=by cases b<;>decide
theorem ZdH{z:Str}{k:Int}(h0:0≤k)(h:k<(z.length:Int)):∃c:Nat,z.cps.toList[k.toNat]? = some c∧atI z.cps.toList k=some c:=by
 have hl:z.cps.toList.length=z.length:=by simp[Str.length]
 have hk:k.toNat<z.cps.toList.length:=by omega
 have ek:k=((k.toNat:Nat):Int):=by omega
 have q:atI z.cps.toList ((k.toNat:Nat):Int)=some z.cps.toList[k.toNat]:=Zaw (Qb hk)
 rw[← ek]at q
 exact⟨_,Qb hk,q⟩
theorem ZjX(sep:Str)(ys:List Str):(Txt.join sep ys).length≤(ys.map (·.length)).sum+ys.length*sep.length:=by
 have e:Txt.join sep ys=Str.join sep ys:=by simpa using join_plain_closes sep ys
 rw[e]
 exact StrLaws.join_length_le sep ys
theorem ZgJ:∀ss:List Str,(∀s∈ss,s.length≤1)→(ss.map (·.length)).sum≤ss.length
 | [],_=>Qd _
 | s::r,h=>by
  have h1:=h s QX
  have h2:=ZgJ r fun x hx=>h x (Qw _ hx)
  rw[Qg,Q5,QF]
  omega
def lcp:List Nat→List Nat→Nat
 | a::r,b::s=>if a=b then lcp r s+1 else 0
 | _,_=>0
theorem Zes:∀ (x y:List Nat),lcp x y≤x.length∧lcp x y≤y.length
 | [],_=>⟨Qq _,Qq _⟩
 | _::_,[]=>⟨Qq _,Qq _⟩
 | a::r,b::s=>by
  have h:=Zes r s
  unfold lcp
  split
  ·exact⟨Nat.succ_le_succ h.1,Nat.succ_le_succ h.2⟩
  ·exact⟨Qq _,Qq _⟩
theorem Zbv:∀ (x y:List Nat),lcp x y=lcp y x
 | [],[]=>rfl
 | [],_::_=>rfl
 | _::_,[]=>rfl
 | a::r,b::s=>by
  unfold lcp
  by_cases h:a=b
  ·rw[if_pos h,if_pos h.symm,Zbv r s]
  ·rw[if_neg h,if_neg fun e=>h e.symm]
theorem Zgr:∀x:List Nat,lcp x x=x.length
 | []=>rfl
 | a::r=>by unfold lcp;rw[if_pos rfl,Zgr r];rfl
theorem ZcW(x:List Nat):lcp x []=0:=by cases x<;>rfl
theorem lcp_nil'(x:List Nat):lcp [] x=0:=by cases x<;>rfl
theorem ZjT:∀ (x y:List Nat) (k:Nat),k≤lcp x y→∀a,x[k]? = some a→y[k]? = some a→k+1≤lcp x y
 | [],_,k,_,a,h,_=>by simp at h
 | _::_,[],k,_,a,_,h=>by simp at h
 | a::r,b::s,0,_,c,h1,h2=>by
  simp at h1 h2
  unfold lcp
  rw[if_pos (by rw[h1,h2])]
  omega
 | a::r,b::s,k+1,h,c,h1,h2=>by
  unfold lcp at h ⊢
  by_cases e:a=b
  ·rw[if_pos e]at h ⊢
   have:=ZjT r s k (by omega) c (by simpa using h1) (by simpa using h2)
   omega
  ·rw[if_neg e]at h;omega
theorem Zjx:∀ (x y:List Nat) (k:Nat),k<lcp x y→x[k]? = y[k]?
 | [],_,k,h=>by unfold lcp at h;omega
 | _::_,[],k,h=>by unfold lcp at h;omega
 | a::r,b::s,0,h=>by
  unfold lcp at h
  by_cases e:a=b
  ·simp[e]
  ·rw[if_neg e]at h;omega
 | a::r,b::s,k+1,h=>by
  unfold lcp at h
  by_cases e:a=b
  ·rw[if_pos e]at h
   simpa using Zjx r s k (by omega)
  ·rw[if_neg e]at h;omega
theorem ZfN(x y:List Nat)(k:Nat)(h:k≤lcp x y)(n:x.length≤k∨y.length≤k∨∃a b,x[k]? = some a∧y[k]? = some b∧a≠b):lcp x y=k:=by
 have l:=Zes x y
 rcases n with n|n|⟨a,b,h1,h2,ne⟩
 ·omega
 ·omega
 ·by_cases q:k<lcp x y
  ·have:=Zjx x y k q
   rw[h1,h2]at this
   exact absurd (Qe this) ne
  ·omega
theorem Zd7:∀ (x y z:List Nat),(lcp x y≤lcp x z∧lcp y z=lcp x y)∨(lcp x y≤lcp y z∧lcp x z=lcp x y)∨(lcp x z≤lcp x y∧lcp y z=lcp x z)
 | [],y,z=>.inr (.inl ⟨by rw[lcp_nil'];exact Qq _,by rw[lcp_nil',lcp_nil']⟩)
 | x,[],z=>.inl ⟨by rw[ZcW];exact Qq _,by rw[ZcW,lcp_nil']⟩
 | x,y,[]=>.inr (.inr ⟨by rw[ZcW];exact Qq _,by rw[ZcW,ZcW]⟩)
 | a::r,b::s,c::t=>by
  have ih:=Zd7 r s t
  unfold lcp
  by_cases h1:a=b
  ·by_cases h2:b=c
   ·rw[if_pos h1,if_pos h2,if_pos (h1.trans h2)]
    omega
   ·rw[if_pos h1,if_neg h2,if_neg fun e=>h2 (h1.symm.trans e)]
    omega
  ·rw[if_neg h1]
   by_cases h2:b=c
   ·rw[if_pos h2,if_neg fun e=>h1 (e.trans h2.symm)]
    omega
   ·rw[if_neg h2]
    omega
abbrev cds(z:Str):List Nat:=z.cps.toList
def AZ(z:Str):Prop:=∀c∈cds z,97≤c∧c≤122
theorem Zdx(x y:Str):cds (x++y)=cds x++cds y:=by
 show (x++y).cps.toList=_
 rw[PySem.Str.cps_append]
 simp
theorem AZ.app{x y:Str}(a:AZ x)(b:AZ y):AZ (x++y):=fun c h=>by
 rw[Zdx]at h
 exact(Qk.mp h).elim (a c) (b c)
theorem AZ.nil:AZ "":=by unfold AZ cds;decide +kernel
theorem AZ.join:∀ys:List Str,(∀s∈ys,AZ s)→AZ (Str.join "" ys)
 | [],_=>fun c h=>by cases (show c∈([]:List Nat) from h)
 | [x],h=>h x (by simp)
 | x::y::r,h=>((h x (by simp)).app AZ.nil).app (AZ.join (y::r) fun s hs=>h s (Qw _ hs))
theorem AZ.joinT(ys:List Str)(h:∀s∈ys,AZ s):AZ (Txt.join "" ys):=by
 have e:Txt.join "" ys=Str.join "" ys:=by simpa using join_plain_closes "" ys
 rw[e]
 exact AZ.join ys h
theorem AZ.one{z:Str}(a:AZ z){k:Nat}{c:Nat}(h:z.cps.toList[k]? = some c):AZ ⟨#[c]⟩:=fun d hd=>by
 have e:d=c:=by simpa using hd
 rw[e]
 exact a c (Qy h)
theorem AZ.ok{z:Str}(a:AZ z):PyData.strOk z=true:=by
 unfold PyData.strOk
 rw[Array.all_eq_true]
 intro i hi
 have:=a z.cps[i] (by simp)
 exact decide_eq_true (by omega)
theorem Zmg:AZ "ababcz":=by unfold AZ cds;decide +kernel
def Zem:Sp:=fun vs H Q _=>∃x y:Str,vs=[.str x,.str y]∧x.length≤1000∧y.length≤1000∧Q (.int (lcp (cds x) (cds y))) H
def ZbF:Sp:=fun vs H Q _=>∃ (x y:Str) (far:Nat),vs=[.str x,.str y,.int far]∧x.length≤1000∧y.length≤1000∧far≤lcp (cds x) (cds y)∧Q (.int (lcp (cds x) (cds y))) H
def IsD(H:Hp):Nat→V→V→Prop
 | 0,_,_=>False
 | n+1,x,y=>(x=y∧(x=.non∨(∃b,x=.bl b)∨(∃i,x=.int i)∨∃s,x=.str s)) ∨
   (∃ (p q:Addr) (xs ys:List V),x=.ref p∧y=.ref q∧((H p=some (.lst xs)∧H q=some (.lst ys))∨(H p=some (.tup xs)∧H q=some (.tup ys)))∧xs.length=ys.length∧xs.length≤1000∧∀ (i:Nat) (x y:V),xs[i]? = some x→ys[i]? = some y→IsD H n x y)
def spSame(n:Nat):Sp:=fun vs H Q _=>∃x y:V,vs=[x,y]∧IsD H n x y∧∀H',Zx H H'→Q (.bl true) H'
section
variable (K:PySem.W.Frag)
open PySem.W
end
section
variable {P:Program} {w:World} {K:PySem.W.Frag} {mg:Str→Option Value} {base:Heap} {cRow cMerge:Addr}
theorem ZmA(T:Zak K mg cRow cMerge):Df P w K mg base 1 "_law_mix" ["_law_cell", "_law_k"] Zi9:=by
 refine T.t_l_mix.df ZgV (fun vs H Q E h=>?_) (fun cdv f A outer s H vs Q E hr h=>?_)
 ·obtain⟨a,k,rfl,_⟩:=h
  rfl
 obtain⟨a,k,rfl,k1,k2,q⟩:=h
 refine⟨_,#[Ze,#[Zv,2,ZgV.nd,(Or.inl rfl),#[ZP,ZeS,#[ZP,ZcE,#[ZP,Za0,#[ZP,Za0,#[ZP,ZeS,‹0›,#[Zh]],#[ZP,ZcE,#[ZP,ZcE,‹1›,‹1›],#[Zh]]],#[Zh]],#[Zh]],#[Zh]]],#[Zi,#[Zs,#[ZP,ZeS,#[ZP,ZcE,‹2›,‹2›],#[Zh]]]]],?_⟩
 refine⟨_,rfl,_,_,rfl,rfl,(by show (0:Int)<_;decide),_,rfl,_,rfl,_,_,rfl,rfl,.inl ⟨by omega,by omega⟩,_,_,rfl,rfl,.inr ⟨by decide,by decide⟩,_,_,rfl,rfl,_,_,rfl,rfl,_,_,rfl,rfl,.inr ⟨by decide,by decide⟩,_,_,rfl,rfl,(by show (0:Int)<_;decide),?_⟩
 have m0:=Int.emod_nonneg ((a % 2147483629+k*k*7919+11)*48271) (show (2147483647:Int)≠0 by decide)
 have m1:=Qab ((a % 2147483629+k*k*7919+11)*48271) (show (0:Int)<2147483647 by decide)
 refine⟨_,rfl,_,rfl,_,_,rfl,rfl,.inl ⟨by omega,by omega⟩,_,_,rfl,rfl,(by show (0:Int)<_;decide),?_⟩
 exact q _ (Int.emod_nonneg _ (by decide)) (Int.lt_trans (Qab _ (by decide)) (by decide))
theorem ZkE(T:Zak K mg cRow cMerge):Df P w K mg base 1 "_law_left" ["_law_script", "_law_k"] (Zi6 K):=by
 refine T.t_l_left.df ZfH (fun vs H Q E h=>?_) (fun cdv f A outer s H vs Q E hr h=>?_)
 ·obtain⟨a,ns,k,rfl,_⟩:=h
  rfl
 obtain⟨a,ns,k,rfl,hS,h63,k0,k1,q⟩:=h
 refine⟨_,#[Ze,#[Zv,2,ZfH.nd,(Or.inl rfl),#[ZaY,#[Zo,Zdy,‹1›,#[Zw,(ZdP K),(by rfl),T.b.n_len,Qs,#[Za,‹0›,#[Zf]]],(Zt _)],#[ZC,(ixL K),‹0›,‹1›],#[Zh]]],#[Zi,#[Zs,#[Zbz,#[Za,#[ZP,ZcE,#[Zw,ZgQ,(by rfl),T.b.n_abs,boot_abs,#[Za,‹2›,#[Zf]]],#[Zc1,ZiK,T.b.n_int,boot_int,#[Za,(@Zf9 _ _ _ _ _ _ _ _ ZlI #[Zw,ZgQ,(by rfl),T.b.n_abs,boot_abs,#[Za,‹2›,#[Zf]]] #[ZP,Zmz,#[Zh],#[Zh]] (Zt _)),#[Zf]]]],#[Za,#[ZP,Za0,‹2›,#[ZP,ZcE,#[Zh],‹1›]],#[Za,#[Zh],#[Zf]]]]]]]],?_⟩
 have hl:(ns.map V.int).length=ns.length:=Qa _
 have pw:Zng 10 18:=⟨by decide,by decide,by decide⟩
 refine⟨_,rfl,_,rfl,a,_,rfl,.inl hS,_,_,rfl,rfl,_,rfl,?_⟩
 refine Zbd (fun c=>?_) (fun c=>?_)
 ·have c':k<(((ns.map V.int).length:Nat):Int):=of_decide_eq_true c
  rw[hl]at c'
  obtain⟨v,hv⟩:=Zmd (ns:=ns) k0 c'
  refine⟨_,rfl,_,rfl,a,_,_,_,rfl,rfl,hS,hv,?_⟩
  refine⟨_,rfl,_,rfl,_,rfl,_,rfl,_,_,rfl,rfl,pw,_,_,rfl,rfl,.inr ⟨_,rfl,_,_,rfl,rfl,.inr (ZlF _),_,rfl,_,rfl,_,_,rfl,rfl,.inl ⟨by decide,by decide⟩,_,_,rfl,rfl,(by show 3≤sizeLine;decide),fun p hp=>?_⟩⟩
  exact q p _ hp ⟨_,_,Zg,Int.le_refl _⟩ (Zl hp _)
 ·refine⟨_,rfl,_,rfl,_,rfl,_,rfl,_,_,rfl,rfl,pw,_,_,rfl,rfl,.inr ⟨_,rfl,_,_,rfl,rfl,.inr (ZlF _),_,rfl,_,rfl,_,_,rfl,rfl,.inl ⟨by decide,by decide⟩,_,_,rfl,rfl,(by show 3≤sizeLine;decide),fun p hp=>?_⟩⟩
  exact q p _ hp ⟨_,_,Zg,Int.le_refl _⟩ (Zl hp _)
theorem Zk1(T:Zak K mg cRow cMerge)(f_l_mix:Df P w K mg base 1 "_law_mix" ["_law_cell", "_law_k"] Zi9):Df P w K mg base 2 "_law_pick" ["_law_left_here", "_law_many_here"] ZcT:=by
 refine T.t_l_pick.df ZfC (fun vs H Q E h=>?_) (fun cdv f A outer s H vs Q E hr h=>?_)
 ·obtain⟨p,c,m,rfl,_⟩:=h
  rfl
 obtain⟨p,c,m,rfl,⟨a,b,hp,c0⟩,c1,m0,m1,q⟩:=h
 refine⟨_,#[Ze,#[Za8,#[ZP,Za0,#[ZC,(ixL K),‹0›,#[Zh]],#[Zh]],#[Zcv,‹0›,#[Zh],Zgp]],#[Ze,#[Zat,#[Zo,ZgD,#[ZC,(ixL K),‹0›,#[Zh]],#[Zh],(Zt _)],#[Ze,#[Zv,2,ZfC.nd,(Or.inl rfl),#[ZP,ZeS,#[ZC,(ixL K),‹0›,#[Zh]],‹1›]],#[Ze,#[Za8,#[ZP,ZfT,#[ZC,(ixL K),‹0›,#[Zh]],‹1›],#[Zcv,‹0›,#[Zh],Zgp]],#[Zi,#[Zs,‹2›]]]],#[ZM]],#[Zi,#[Zs,#[ZP,ZeS,#[ZP,ZfT,#[Zz,f_l_mix,hr,#[Za,#[Zz,f_l_mix,hr,#[Za,#[ZC,(ixL K),‹0›,#[Zh]],#[Za,#[ZC,(ixL K),‹0›,#[Zh]],#[Zf]]],(by rfl)],#[Za,#[ZP,Za0,#[ZC,(ixL K),‹0›,#[Zh]],#[Zh]],#[Zf]]],(by rfl)],#[Zh]],‹1›]]]]],?_⟩
 have u1:(upd H p (.lst [.int a,.int b,.int (c+1)])) p=some (.lst [.int a,.int b,.int (c+1)]):=Zg
 refine⟨_,rfl,p,_,_,_,rfl,rfl,SqL.of hp,rfl,_,_,rfl,rfl,_,rfl,p,_,_,2,rfl,rfl,hp,rfl,?_⟩
 refine⟨_,rfl,p,_,_,_,rfl,rfl,SqL.of u1,rfl,_,_,rfl,rfl,_,rfl,?_⟩
 refine Zbd (fun d=>?_) (fun d=>?_)
 ·refine⟨_,rfl,p,_,_,_,rfl,rfl,SqL.of u1,rfl,_,rfl,_,_,rfl,rfl,m0,?_⟩
  refine⟨_,rfl,p,_,_,_,rfl,rfl,SqL.of u1,rfl,_,rfl,_,_,rfl,rfl,⟨m0,by omega⟩,_,rfl,p,_,_,0,rfl,rfl,u1,rfl,?_⟩
  refine⟨_,rfl,?_⟩
  refine q _ _ (Int.emod_nonneg _ (by omega)) (Qab _ m0) ⟨a / m,b,Zg,by omega⟩ fun e o h n=>?_
  rw[Zc n,Zc n]
  exact h
 ·refine⟨_,rfl,p,_,_,_,rfl,rfl,SqL.of u1,rfl,_,rfl,p,_,_,_,rfl,rfl,SqL.of u1,rfl,_,_,rfl,by omega,by omega,fun r r0 r1=>?_⟩
  refine⟨_,rfl,p,_,_,_,rfl,rfl,SqL.of u1,rfl,_,_,rfl,rfl,_,_,rfl,by omega,by omega,fun r' r0' r1'=>?_⟩
  refine⟨_,_,rfl,rfl,⟨by decide,by decide⟩,_,rfl,_,_,rfl,rfl,m0,?_⟩
  refine q _ _ (Int.emod_nonneg _ (by omega)) (Qab _ m0) ⟨a,b,Zg,by omega⟩ fun e o h n=>?_
  rw[Zc n]
  exact h
def Zba:List Str:=["", "a", "ab", "aba", "abab", "b", "zebra", "aaaaaaaa", "knowswho", "z", "abababababab",Txt.mul "a" 24]
theorem Zgv:∀s∈Zba,s.length≤24:=by decide +kernel
theorem Zhj:∀s∈Zba,AZ s:=by unfold AZ cds;decide +kernel
def Zeh:Sp:=fun vs H Q _=>∃ (p:Addr) (c:Int),vs=[.ref p]∧Zag H p c∧c<2 ^ 50 ∧
 ∀ (l:Addr) (ss:List Str) (c':Int) (H':Hp),H l=none→H' l=some (.lst (ss.map V.str))→1≤ss.length→ss.length≤4→(∀s∈ss,s.length≤24∧AZ s)→Zag H' p c'→c≤c'→c'≤c+5→But p H H'→Q (.ref l) H'
def ZjL:Sp:=fun vs H Q _=>∃ (p l:Addr) (c:Int) (ss:List Str),vs=[.ref p,.ref l]∧Zag H p c∧c<2 ^ 50∧H l=some (.lst (ss.map V.str))∧1≤ss.length∧ss.length≤4∧(∀s∈ss,s.length≤24∧AZ s) ∧
 ∀ (z:Str) (c':Int) (H':Hp),z.length≤28→AZ z→Zag H' p c'→c≤c'→c'≤c+6→But p H H'→Q (.str z) H'
theorem Zi4(T:Zak K mg cRow cMerge)(f_l_pick:Df P w K mg base 2 "_law_pick" ["_law_left_here", "_law_many_here"] ZcT):Df P w K mg base 3 "_law_stems" ["_law_left_here"] Zeh:=by
 refine T.t_l_stems.df ZeR (fun vs H Q E h=>?_) (fun cdv f A outer s H vs Q E hr h=>?_)
 ·obtain⟨p,c,rfl,_⟩:=h
  rfl
 obtain⟨p,c,rfl,hL,c1,q⟩:=h
 refine⟨_,#[Ze,#[Zv,1,ZeR.nd,(Or.inr rfl),#[Zbz,#[Za,#[ZaB],#[Za,#[ZaB],#[Za,#[ZaB],#[Za,#[ZaB],#[Za,#[ZaB],#[Za,#[ZaB],#[Za,#[ZaB],#[Za,#[ZaB],#[Za,#[ZaB],#[Za,#[ZaB],#[Za,#[ZaB],#[Za,#[ZP,Zk9,#[ZaB],#[Zh]],#[Zf]]]]]]]]]]]]]]],#[Zi,#[Zs,#[ZbD,ZjC,#[ZbN,T.b.n_range,#[Za,#[ZP,Za0,#[Zh],#[Zz,f_l_pick,hr,#[Za,#[pv,0,(Or.inr (Or.inl rfl))],#[Za,#[Zh],#[Zf]]],(by rfl)]],#[Zf]]],(fun _ _ _ _=>#[cg,2,ZjC]),(fun _ _ _ _=>(@ZbG _)),(fun _ _ _ _=>#[ZC,(ixL K),#[cv,1,ZjC],#[Zz,f_l_pick,hr,#[Za,#[cv,0,ZjC],#[Za,#[Zh],#[Zf]]],(ZcY ZjC rfl (by decide +kernel))]])]]]],?_⟩
 refine⟨_,_,rfl,rfl,by decide,by decide,by decide,(by show 12≤sizeLine;decide),fun l hl=>?_⟩
 have npl:p≠l:=by obtain⟨a,b,hp,_⟩:=hL;exact Zb hp hl
 have hL1:Zag (upd H l (.lst (Zba.map V.str))) p c:=by obtain⟨a,b,hp,c0⟩:=hL;exact⟨a,b,by rw[Zc npl];exact hp,c0⟩
 refine⟨_,rfl,p,c,_,rfl,hL1,by omega,by decide,by decide,fun r H1 r0 r1 L1 B1=>?_⟩
 refine⟨_,_,rfl,rfl,_,rfl,by omega,by omega,fun D hD=>?_⟩
 have c0:0≤c:=by obtain⟨a,b,hp,c0⟩:=hL;exact c0
 have h1l:H1 l=some (.lst (Zba.map V.str)):=B1 l _ Zg npl.symm
 have npD:p≠D:=by obtain⟨a,b,hp,_⟩:=L1;exact Zb hp hD
 have nlD:l≠D:=Zb h1l hD
 refine Zdl (fun i ys σ H2=>∃ (ss:List Str) (v:Option V) (c2:Int),σ=[some (.ref p),some (.ref l),v]∧ys=ss.map V.str∧ss.length=i∧(∀s∈ss,s.length≤24∧AZ s)∧Zag H2 p c2∧c+1≤c2∧c2≤c+1+i ∧
   H2 l=some (.lst (Zba.map V.str))∧H2 D=some (.lst ys)∧But p H H2) ?_ ?_ ?_
 ·refine⟨[],none,c+1,rfl,rfl,rfl,(fun s hs=>by cases hs),?_,by omega,by omega,?_,Zg,?_⟩
  ·obtain⟨a,b,hp,q0⟩:=L1
   exact⟨a,b,by rw[Zc npD];exact hp,q0⟩
  ·rw[Zc nlD];exact h1l
  ·intro b o e n
   have e1:(upd H l (.lst (Zba.map V.str))) b=some o:=by rw[Zc (Zb e hl)];exact e
   have e2:=B1 b o e1 n
   rw[Zc (Zb e2 hD)]
   exact e2
 ·rintro i ys σ H2 hi ⟨ss,v,c2,rfl,rfl,hn,hs,L2',b1,b2,hl2,hD2,B2⟩
  refine⟨_,rfl,_,rfl,p,c2,_,rfl,L2',by omega,by decide,by decide,fun r' H3 r0' r1' L3 B3=>?_⟩
  obtain⟨s,hs1,hs2⟩:=Zgb (ss:=Zba) r0' r1'
  have hD3:H3 D=some (.lst (ss.map V.str)):=B3 D _ hD2 npD.symm
  have hl3:H3 l=some (.lst (Zba.map V.str)):=B3 l _ hl2 npl.symm
  refine⟨l,_,_,_,rfl,rfl,SqL.of hl3,hs2,hD3,(by rw[Qa,hn];exact ZW (by omega)),ss++[s],_,c2+1,rfl,?_,?_,?_,?_,by omega,by omega,?_,Zg,?_⟩
  ·rw[Qf];rfl
  ·rw[Qo,hn];rfl
  ·intro x hx
   rcases Qk.mp hx with hx|hx
   ·exact hs x hx
   ·rw[Ql.mp hx];exact⟨Zgv s hs1,Zhj s hs1⟩
  ·obtain⟨a,b,hp,q0⟩:=L3
   exact⟨a,b,by rw[Zc npD];exact hp,q0⟩
  ·rw[Zc nlD];exact hl3
  ·intro b o e n
   have e2:=B3 b o (B2 b o e n) n
   have e3:H D=none:=by
    cases w':H D with
    | none=>rfl
    | some u =>
     have nDp:D≠p:=npD.symm
     have z1:(upd H l (.lst (Zba.map V.str))) D=some u:=by rw[Zc nlD.symm];exact w'
     rw[B1 D u z1 nDp]at hD
     cases hD
   rw[Zc (Zb e e3)]
   exact e2
 ·rintro ys σ H2 ⟨ss,v,c2,rfl,rfl,hn,hs,L2',b1,b2,hl2,hD2,B2⟩
  have e3:H D=none:=by
   cases w':H D with
   | none=>rfl
   | some u =>
    have z1:(upd H l (.lst (Zba.map V.str))) D=some u:=by rw[Zc nlD.symm];exact w'
    rw[B1 D u z1 npD.symm]at hD
    cases hD
  exact q D ss c2 H2 e3 hD2 (by omega) (by omega) hs L2' (by omega) (by omega) B2
theorem Zmp(T:Zak K mg cRow cMerge)(f_l_pick:Df P w K mg base 2 "_law_pick" ["_law_left_here", "_law_many_here"] ZcT):Df P w K mg base 3 "_law_key" ["_law_left_here", "_law_stems_here"] ZjL:=by
 refine T.t_l_key.df ZgZ (fun vs H Q E h=>?_) (fun cdv f A outer s H vs Q E hr h=>?_)
 ·obtain⟨p,l,c,ss,rfl,_⟩:=h
  rfl
 obtain⟨p,l,c,ss,rfl,hL,c1,hl,n1,n4,h24,q⟩:=h
 refine⟨_,#[Ze,#[Zv,2,ZgZ.nd,(Or.inl rfl),#[ZeL,PySem.F.plainAttrs_str,PySem.F.slot_str_join,PySem.F.type_str_join,(ZnP K),#[ZaB],#[Za,#[ZbD,ZkF,#[ZbN,T.b.n_range,#[Za,#[Zz,f_l_pick,hr,#[Za,#[pv,0,(Or.inr (Or.inl rfl))],#[Za,#[Zh],#[Zf]]],(by rfl)],#[Zf]]],(fun _ _ _ _=>#[cg,3,ZkF]),(fun _ _ _ _=>(@ZbG _)),(fun _ _ _ _=>#[ZC,Zev,#[ZaB],#[Zz,f_l_pick,hr,#[Za,#[cv,0,ZkF],#[Za,#[Zh],#[Zf]]],(ZcY ZkF rfl (by decide +kernel))]])],#[Zf]]]],#[Zi,#[Zs,#[ZP,Zci,#[ZC,(ixL K),‹1›,#[Zz,f_l_pick,hr,#[Za,#[pv,0,(Or.inr (Or.inl rfl))],#[Za,#[Zw,(ZdP K),(by rfl),T.b.n_len,Qs,#[Za,‹1›,#[Zf]]],#[Zf]]],(by rfl)]],‹2›]]]],?_⟩
 have c0:0≤c:=by obtain⟨a,b,hp,c0⟩:=hL;exact c0
 have npl:p≠l:=by
  obtain⟨a,b,hp,_⟩:=hL
  refine Zke hp hl fun e=>?_
  have e1:=congrArg List.length (HO.lst.inj e)
  cases ss with
  | nil=>cases e1
  | cons x r=>exact absurd (HO.lst.inj e) (by intro z;cases z)
 refine⟨rfl,_,rfl,p,c,_,rfl,hL,by omega,by decide,by decide,fun r H1 r0 r1 L1 B1=>?_⟩
 refine⟨_,rfl,by omega,by omega,fun D hD=>?_⟩
 have npD:p≠D:=by obtain⟨a,b,hp,_⟩:=L1;exact Zb hp hD
 have h1l:=B1 l _ hl npl.symm
 have nlD:l≠D:=Zb h1l hD
 have hDn:H D=none:=by
  cases w':H D with
  | none=>rfl
  | some u=>rw[B1 D u w' npD.symm]at hD;cases hD
 refine Zdl (fun i ys σ H2=>∃ (ts:List Str) (v:Option V) (c2:Int),σ=[some (.ref p),some (.ref l),none,v]∧ys=ts.map V.str∧ts.length=i∧(∀s∈ts,s.length≤1∧AZ s)∧Zag H2 p c2∧c+1≤c2∧c2≤c+1+i ∧
   H2 D=some (.lst ys)∧But p H H2) ?_ ?_ ?_
 ·refine⟨[],none,c+1,rfl,rfl,rfl,(fun s hs=>by cases hs),?_,by omega,by omega,Zg,?_⟩
  ·obtain⟨a,b,hp,q0⟩:=L1
   exact⟨a,b,by rw[Zc npD];exact hp,q0⟩
  ·intro b o e n
   rw[Zc (Zb e hDn)]
   exact B1 b o e n
 ·rintro i ys σ H2 hi ⟨ts,v,c2,rfl,rfl,hn,hs,L2',b1,b2,hD2,B2⟩
  refine⟨_,rfl,p,c2,_,rfl,L2',by omega,by decide,by decide,fun r' H3 r0' r1' L3 B3=>?_⟩
  obtain⟨ch,hcm,hch⟩:=ZdH (z := "ababcz") r0' r1'
  have hD3:H3 D=some (.lst (ts.map V.str)):=B3 D _ hD2 npD.symm
  refine⟨_,_,_,rfl,rfl,(by decide +kernel),hch,hD3,(by rw[Qa,hn];exact ZW (by omega)),ts++[⟨#[ch]⟩],_,c2+1,rfl,?_,?_,?_,?_,by omega,by omega,Zg,?_⟩
  ·rw[Qf];rfl
  ·rw[Qo,hn];rfl
  ·intro x hx
   rcases Qk.mp hx with hx|hx
   ·exact hs x hx
   ·rw[Ql.mp hx];exact⟨Qd 1,Zmg.one hcm⟩
  ·obtain⟨a,b,hp,q0⟩:=L3
   exact⟨a,b,by rw[Zc npD];exact hp,q0⟩
  ·intro b o e n
   rw[Zc (Zb e hDn)]
   exact B3 b o (B2 b o e n) n
 ·rintro ys σ H2 ⟨ts,v,c2,rfl,rfl,hn,hs,L2',b1,b2,hD2,B2⟩
  have hsum:=ZgJ ts fun s h=>(hs s h).1
  have hjl:=ZjX "" ts
  have e0:("" : Str).length=0:=by decide +kernel
  rw[e0]at hjl
  have hl2:=B2 l _ hl npl.symm
  refine⟨_,D,ts,rfl,rfl,SqL.of hD2,(by rw[e0];omega),?_⟩
  have hlen:(((ss.map V.str).length:Nat):Int)=(ss.length:Int):=by rw[Qa]
  refine⟨_,rfl,_,rfl,_,rfl,l,_,rfl,.inl (SqL.of hl2),p,c2,_,rfl,L2',by omega,by omega,by omega,fun r' H3 r0' r1' L3 B3=>?_⟩
  obtain⟨st,hs1,hs2⟩:=Zgb (ss:=ss) r0' (by omega)
  have hst:=(h24 st hs1).1
  refine⟨l,_,_,_,rfl,rfl,SqL.of (B3 l _ hl2 npl.symm),hs2,_,rfl,_,_,rfl,rfl,Zbk (by omega),?_⟩
  refine q _ (c2+1) H3 ?_ ((h24 st hs1).2.app (AZ.joinT ts fun s h=>(hs s h).2)) L3 (by omega) (by omega) (B2.trans B3)
  rw[Qac]
  omega
theorem Ze7(T:Zak K mg cRow cMerge):Df P w K mg base 1 "alike_from" ["one", "other", "far"] ZbF:=by
 refine T.t_alike_from.df ZbI (fun vs H Q E h=>?_) (fun cdv f A outer s H vs Q E hr h=>?_)
 ·obtain⟨x,y,far,rfl,_⟩:=h
  rfl
 obtain⟨x,y,far,rfl,hx,hy,hf,q⟩:=h
 refine⟨_,#[Ze,#[Zv,3,ZbI.nd,(Or.inl rfl),‹2›],#[Ze,(@Zdv _ _ _ _ _ _ PassesOwn.never (@PW.pt _ _ _ #[ZcM,#[Zo,Zdy,‹3›,#[Zw,Zaj,(by rfl),T.b.n_len,Qs,#[Za,‹0›,#[Zf]]],(Zt _)],#[ZcM,#[Zo,Zdy,‹3›,#[Zw,Zaj,(by rfl),T.b.n_len,Qs,#[Za,‹1›,#[Zf]]],(Zt _)],(@Zcc _ _ _ _ #[Zo,Zcn,#[ZC,Zev,‹0›,‹3›],#[ZC,Zev,‹1›,‹3›],(Zt _)])]]) #[Zi,(@Zl0 _ _ 3 _ _ _ _ _ _ ZbI.nd rfl (Or.inl rfl) #[Zh] ZmG (by trivial))]),#[Zi,#[Zs,‹3›]]]],?_⟩
 refine⟨_,rfl,?_⟩
 have lx:(cds x).length=x.length:=by simp[Str.length]
 have ly:(cds y).length=y.length:=by simp[Str.length]
 have ll:=Zes (cds x) (cds y)
 refine⟨fun m σ H2=>∃k:Nat,σ=[some (.str x),some (.str y),some (.int far),some (.int k)]∧H2=H∧k≤lcp (cds x) (cds y)∧m=lcp (cds x) (cds y)-k,⟨_,far,rfl,rfl,hf,rfl⟩,?_⟩
 rintro m σ H2 ⟨k,rfl,rfl,hk,rfl⟩
 refine⟨_,rfl,_,rfl,x,rfl,Zbk hx,_,_,rfl,rfl,_,rfl,?_⟩
 refine Zbd (fun d1=>?_) (fun d1=>?_)
 ·have d1':(k:Int)<(x.length:Int):=of_decide_eq_true d1
  refine⟨_,rfl,_,rfl,y,rfl,Zbk hy,_,_,rfl,rfl,_,rfl,?_⟩
  refine Zbd (fun d2=>?_) (fun d2=>?_)
  ·have d2':(k:Int)<(y.length:Int):=of_decide_eq_true d2
   obtain⟨a,ha,ha'⟩:=ZdH (z:=x) (k:=k) (by omega) d1'
   obtain⟨b,hb,hb'⟩:=ZdH (z:=y) (k:=k) (by omega) d2'
   rw[Int.toNat_natCast]at ha hb
   refine⟨_,rfl,_,rfl,x,_,a,rfl,rfl,Zbk hx,ha',_,rfl,_,rfl,y,_,b,rfl,rfl,Zbk hy,hb',rfl,_,rfl,?_⟩
   refine Zbd (fun d3=>?_) (fun d3=>?_)
   ·have d3':a=b:=by
     have:=of_decide_eq_true d3
     injection this with e
     injection e with e
     simpa using e
    subst d3'
    have:=ZjT _ _ k hk a ha hb
    refine⟨fun σ' H'=>σ'=[some (.str x),some (.str y),some (.int far),some (.int ((k+1:Nat):Int))]∧H'=H2,fun σ' H' ⟨e1,e2⟩=>⟨_,?_,k+1,e1,e2,this,rfl⟩,?_⟩
    ·omega
    ·exact⟨_,rfl,_,_,rfl,rfl,rfl,rfl⟩
   ·refine⟨_,rfl,?_⟩
    have e:=ZfN _ _ k hk (.inr (.inr ⟨a,b,ha,hb,fun e=>d3 (by subst e;exact decide_eq_true rfl)⟩))
    rw[e]at q
    exact q
  ·refine ZdW ⟨_,rfl,?_⟩
   have d2':¬ (k:Int)<(y.length:Int):=of_decide_eq_false (Bool.eq_false_iff.mpr d2)
   have e:=ZfN _ _ k hk (.inr (.inl (by omega)))
   rw[e]at q
   exact q
 ·refine ZdW ⟨_,rfl,?_⟩
  have d1':¬ (k:Int)<(x.length:Int):=of_decide_eq_false (Bool.eq_false_iff.mpr d1)
  have e:=ZfN _ _ k hk (.inl (by omega))
  rw[e]at q
  exact q
theorem Zkk(T:Zak K mg cRow cMerge)(f_alike_from:Df P w K mg base 1 "alike_from" ["one", "other", "far"] ZbF):Df P w K mg base 2 "alike" ["one", "other"] Zem:=by
 refine T.t_alike.df Zkl (fun vs H Q E h=>?_) (fun cdv f A outer s H vs Q E hr h=>?_)
 ·obtain⟨x,y,rfl,_⟩:=h
  rfl
 obtain⟨x,y,rfl,hx,hy,q⟩:=h
 refine⟨_,#[Zi,#[Zs,#[Zz,f_alike_from,hr,#[Za,‹0›,#[Za,‹1›,#[Za,#[Zh],#[Zf]]]],(by rfl)]]],?_⟩
 exact⟨_,rfl,_,rfl,x,y,0,rfl,hx,hy,Qq _,q⟩
theorem Zeu{c A B:Prop}[Decidable c](hc:c)(h:A):if decide c=true then A else B:=by
 rw[if_pos (decide_eq_true hc)]
 exact h
theorem Zcs{c A B:Prop}[Decidable c](hc:¬ c)(h:B):if decide c=true then A else B:=by
 rw[if_neg (by rw[decide_eq_false hc];exact Qi)]
 exact h
theorem Zag.new{H:Hp}{p l:Addr}{c:Int}{o:HO}(h:Zag H p c)(n:H l=none):Zag (upd H l o) p c:=by
 obtain⟨a,b,hp,c0⟩:=h
 exact⟨a,b,by rw[Zc (Zb hp n)];exact hp,c0⟩
theorem Zag.ge{H:Hp}{p:Addr}{c:Int}(h:Zag H p c):0≤c:=by obtain⟨a,b,hp,c0⟩:=h;exact c0
theorem Zag.here{H:Hp}{p:Addr}{c:Int}(h:Zag H p c):∃o,H p=some o:=by obtain⟨a,b,hp,c0⟩:=h;exact⟨_,hp⟩
theorem Zag.at{H:Hp}{p l:Addr}{c:Int}{o:HO}(h:Zag H p c)(n:p≠l):Zag (upd H l o) p c:=by
 obtain⟨a,b,hp,c0⟩:=h
 exact⟨a,b,by rw[Zc n];exact hp,c0⟩
theorem ZgG:∀ss:List Str,(∀s∈ss,AZ s)→PyData.canLayAll0 (ss.map PyData.str)=true
 | [],_=>rfl
 | x::r,h=>by simp[PyData.canLayAll0,PyData.canLay0,(h x (by simp)).ok,ZgG r fun s hs=>h s (List.mem_cons_of_mem _ hs)]
theorem ZeE:∀ss:List Str,PyData.depthAll (ss.map PyData.str)=0
 | []=>rfl
 | _::r=>by simp[PyData.depthAll,PyData.depth,ZeE r]
theorem Zg0(ss:List Str)(h:∀s∈ss,AZ s):SeqAt.shaped (.list (ss.map PyData.str))=true:=by simp[SeqAt.shaped,PyData.canLay0,PyData.depth,ZgG ss h,ZeE]
theorem ZhL{K:PySem.W.Frag}{H:Hp}:∀ss:List Str,DVs K H (ss.map V.str) (ss.map PyData.str)
 | []=>.nil
 | s::r=>.cons (.str s) (ZhL r)
def ZhB:Sp:=fun vs H Q _=>∃ (p l:Addr) (c most:Int) (ss:List Str),vs=[.ref p,.ref l,.int most]∧Zag H p c∧c<2 ^ 40∧0≤most∧most≤60∧H l=some (.lst (ss.map V.str))∧1≤ss.length∧ss.length≤4∧(∀s∈ss,s.length≤24∧AZ s) ∧
 ∀ (r:Addr) (ts:List Str) (c':Int) (H':Hp),H r=none→H' r=some (.lst (ts.map V.str))→(ts.length:Int)≤most→(∀s∈ts,s.length≤28∧AZ s)→Zag H' p c'→c≤c'→c'≤c+600→But p H H'→Q (.ref r) H'
theorem Zlx(T:Zak K mg cRow cMerge)(f_l_pick:Df P w K mg base 2 "_law_pick" ["_law_left_here", "_law_many_here"] ZcT)(f_l_key:Df P w K mg base 3 "_law_key" ["_law_left_here", "_law_stems_here"] ZjL):Df P w K mg base 4 "_law_keys" ["_law_left_here", "_law_stems_here", "_law_most"] ZhB:=by
 refine T.t_l_keys.df Zb5 (fun vs H Q E h=>?_) (fun cdv f A outer s H vs Q E hr h=>?_)
 ·obtain⟨p,l,c,most,ss,rfl,_⟩:=h
  rfl
 obtain⟨p,l,c,most,ss,rfl,hL,c1,m0,m1,hl,n1,n4,h24,q⟩:=h
 refine⟨_,#[Ze,#[Zv,3,Zb5.nd,(Or.inl rfl),#[Zbz,#[Zf]]],#[Ze,#[Zdi,PassesOwn.never,#[ZbN,T.b.n_range,#[Za,#[Zz,f_l_pick,hr,#[Za,‹0›,#[Za,#[ZP,Za0,‹2›,#[Zh]],#[Zf]]],(by rfl)],#[Zf]]],#[ZR,4,Zb5.nd],#[Ze,#[Zv,5,Zb5.nd,(Or.inl rfl),#[Zz,f_l_key,hr,#[Za,‹0›,#[Za,‹1›,#[Zf]]],(by rfl)]],#[Ze,#[Zat,(@PW.pt _ _ _ #[ZcM,#[Zo,(@neD _ K _ hr (by rfl)),‹3›,#[Zbz,#[Zf]],(Zt _)],(@Zcc _ _ _ _ #[Zo,Zcn,#[Zz,f_l_pick,hr,#[Za,‹0›,#[Za,#[Zh],#[Zf]]],(by rfl)],#[Zh],(Zt _)])]),#[Zi,#[Zv,5,Zb5.nd,(Or.inl rfl),#[ZC,(ixL K),‹3›,#[Zz,f_l_pick,hr,#[Za,‹0›,#[Za,#[Zw,(ZdP K),(by rfl),T.b.n_len,Qs,#[Za,‹3›,#[Zf]]],#[Zf]]],(by rfl)]]]],#[ZM]],#[Zi,#[ZaJ,#[ZeL,QI,QJ,QK,Za4,‹3›,#[Za,‹5›,#[Zf]]]]]]]],#[Zi,#[Zs,‹3›]]]],?_⟩
 have c0:=hL.ge
 refine⟨(by show 0≤sizeLine;decide),fun r hr0=>?_⟩
 have npr:p≠r:=by obtain⟨o,ho⟩:=hL.here;exact Zb ho hr0
 have nlr:l≠r:=Zb hl hr0
 have npl:p≠l:=by
  obtain⟨a,b,hp,_⟩:=hL
  refine Zke hp hl fun e=>?_
  cases ss with
  | nil=>exact absurd (congrArg List.length (HO.lst.inj e)) (by simp)
  | cons x r=>exact absurd (HO.lst.inj e) (by intro z;cases z)
 refine⟨_,rfl,_,rfl,_,_,rfl,rfl,p,c,_,rfl,hL.new hr0,by omega,by omega,by omega,fun n H1 w0 w1 L1 B1=>?_⟩
 refine⟨_,rfl,by omega,by omega,?_⟩
 have hr1:H1 r=some (.lst []):=B1 r _ Zg npr.symm
 have B01:But p H H1:=(But.same (Zl hr0 _)).trans B1
 refine ZdO (fun i σ H2=>∃ (ts:List Str) (v1 v2:Option V) (c2:Int),σ=[some (.ref p),some (.ref l),some (.int most),some (.ref r),v1,v2]∧H2 r=some (.lst (ts.map V.str))∧ts.length=i∧(∀s∈ts,s.length≤28∧AZ s)∧Zag H2 p c2∧c+1≤c2∧c2≤c+1+8*i∧(∀b o,H b=some o→b≠p→H2 b=some o)) ⟨[],none,none,c+1,rfl,hr1,rfl,(fun s hs=>by cases hs),L1,by omega,by omega,B01⟩ ?_ ?_
 ·rintro i σ H2 hi ⟨ts,v1,v2,c2,rfl,hr2,hn,h28,L2,a1,a2,B2⟩
  have hi60:(i:Int)<61:=by omega
  have hl2:=B2 l _ hl npl.symm
  refine⟨_,rfl,_,rfl,p,l,c2,ss,rfl,L2,by omega,hl2,n1,n4,h24,fun key c3 H3 hkey hkaz L3 a3 a4 B3=>?_⟩
  have hr3:=B3 r _ hr2 npr.symm
  have fin:∀ (k2:Str) (c4:Int) (H4:Hp),k2.length≤28∧AZ k2→Zag H4 p c4→c2≤c4→c4≤c2+8→H4 r=some (.lst (ts.map V.str))→(∀b o,H b=some o→b≠p→H4 b=some o) →
    ∃ (ts':List Str) (v1 v2:Option V) (c5:Int),[some (V.ref p),some (V.ref l),some (V.int most),some (V.ref r),some (V.int (0+(i:Int))),some (V.str k2)]=[some (.ref p),some (.ref l),some (.int most),some (.ref r),v1,v2] ∧
     (upd H4 r (.lst (ts.map V.str++[.str k2]))) r=some (.lst (ts'.map V.str))∧ts'.length=i+1∧(∀s∈ts',s.length≤28∧AZ s)∧Zag (upd H4 r (.lst (ts.map V.str++[.str k2]))) p c5∧c+1≤c5∧c5≤c+1+8*((i+1:Nat):Int) ∧
     (∀b o,H b=some o→b≠p→(upd H4 r (.lst (ts.map V.str++[.str k2]))) b=some o):=fun k2 c4 H4 hk L4 b1 b2 hr4 B4=>by
   refine⟨ts++[k2],_,_,c4,rfl,?_,by rw[Qo,hn];rfl,?_,L4.at npr,by omega,by omega,fun b o e n=>?_⟩
   ·rw[Zg,Qf];rfl
   ·intro x hx
    rcases Qk.mp hx with hx|hx
    ·exact h28 x hx
    ·rw[Ql.mp hx];exact hk
   ·rw[Zc (Zb e hr0)]
    exact B4 b o e n
  have hlt:(ts.map V.str).length<sizeLine:=by rw[Qa,hn];exact ZW (by omega)
  refine⟨_,rfl,(by show 0≤sizeLine;decide),fun e he=>?_⟩
  have hr3':(upd H3 e (.lst [])) r=some (.lst (ts.map V.str)):=by rw[Zc (Zb hr3 he)];exact hr3
  refine⟨.list (ts.map PyData.str),.list [],.lst (SqL.of hr3') (ZhL ts),.lst (SqL.of Zg) .nil,Zg0 ts (fun s h=>(h28 s h).2),(by decide +kernel),_,rfl,?_⟩
  have B3':∀b o,H b=some o→b≠p→(upd H3 e (.lst [])) b=some o:=fun b o z n=>Zl he _ b o (B3 b o (B2 b o z n) n)
  cases ts with
  | nil =>
   have ev:(if true=true then !PyData.eqv (.list (([]:List Str).map PyData.str)) (.list []) else PyData.eqv (.list (([]:List Str).map PyData.str)) (.list []))=false:=by decide +kernel
   rw[ev]
   refine ZdW (ZdW ?_)
   refine⟨_,rfl,.inl ⟨rfl,_,SqL.of hr3'⟩,_,rfl,r,_,_,rfl,rfl,hr3',hlt,?_⟩
   exact fin key c3 _ ⟨hkey,hkaz⟩ (L3.new he) (by omega) (by omega) hr3' B3'
  | cons t0 tr =>
   have ev:(if true=true then !PyData.eqv (.list ((t0::tr).map PyData.str)) (.list []) else PyData.eqv (.list ((t0::tr).map PyData.str)) (.list []))=true:=by simp[PyData.eqv,PyData.eqvAll]
   rw[ev]
   refine Zm1 ⟨_,rfl,p,c3,_,rfl,L3.new he,by omega,by decide,by decide,fun d H5 d0 d1 L5 B5=>?_⟩
   have hr5:=B5 r _ hr3' npr.symm
   refine⟨rfl,_,rfl,Zbd (fun _=>?_) (fun _=>?_)⟩
   ·have hlen:((((t0::tr).map V.str).length:Nat):Int)=((t0::tr).length:Int):=by rw[Qa]
    have hpos:(0:Int)<((t0::tr).length:Int):=by simp
    refine⟨_,rfl,_,rfl,_,rfl,r,_,rfl,.inl (SqL.of hr5),p,c3+1,_,rfl,L5,by omega,by omega,by omega,fun d' H6 d0' d1' L6 B6=>?_⟩
    obtain⟨st,hs1,hs2⟩:=Zgb (ss:=t0::tr) d0' (by omega)
    have hr6:=B6 r _ hr5 npr.symm
    refine⟨r,_,_,_,rfl,rfl,SqL.of hr6,hs2,?_⟩
    refine⟨_,rfl,.inl ⟨rfl,_,SqL.of hr6⟩,_,rfl,r,_,_,rfl,rfl,hr6,hlt,?_⟩
    exact fin st _ _ (h28 st hs1) L6 (by omega) (by omega) hr6 fun b o z n=>B6 b o (B5 b o (B3' b o z n) n) n
   ·refine⟨_,rfl,.inl ⟨rfl,_,SqL.of hr5⟩,_,rfl,r,_,_,rfl,rfl,hr5,hlt,?_⟩
    exact fin key _ _ ⟨hkey,hkaz⟩ L5 (by omega) (by omega) hr5 fun b o z n=>B5 b o (B3' b o z n) n
 ·rintro σ H2 ⟨ts,v1,v2,c2,rfl,hr2,hn,h28,L2,a1,a2,B2⟩
  exact⟨_,rfl,q r ts c2 H2 hr0 hr2 (by omega) h28 L2 (by omega) (by omega) B2⟩
def ZbV(ss:List Str)(i:Nat):Int:=if i=0 then 0 else (lcp (cds (ss.getD (i-1) "")) (cds (ss.getD i "")):Nat)
def ZeZ(K:PySem.W.Frag):Sp:=fun vs H Q _=>∃ (a:Addr) (ss:List Str),vs=[.ref a]∧SqL K H a (ss.map V.str)∧ss.length≤100∧(∀s∈ss,s.length≤1000) ∧
 ∀ (r:Addr) (H':Hp),H r=none→H' r=some (.lst ((List.range ss.length).map fun j=>.int (ZbV ss j)))→Zx H H'→Q (.ref r) H'
theorem Ziy(T:Zak K mg cRow cMerge)(f_alike:Df P w K mg base 2 "alike" ["one", "other"] Zem):Df P w K mg base 3 "alikes" ["row"] (ZeZ K):=by
 refine T.t_alikes.df Zc3 (fun vs H Q E h=>?_) (fun cdv f A outer s H vs Q E hr h=>?_)
 ·obtain⟨a,ss,rfl,_⟩:=h
  rfl
 obtain⟨a,ss,rfl,hS,hn,hlen,q⟩:=h
 refine⟨_,#[Ze,#[Zv,1,Zc3.nd,(Or.inl rfl),#[Zbz,#[Zf]]],#[Ze,#[Zdi,PassesOwn.never,(@iE _ K _ _ _ _ _ _ _ T.b.n_enumerate #[Za,‹0›,#[Zf]] (by rfl) (by rfl) (by rfl)),#[gT,K,2,#[ZV,#[ZR,2,Zc3.nd],#[ZV,#[ZR,3,Zc3.nd],(@ZbC _)]]],#[Zi,#[ZaJ,#[ZeL,QI,QJ,QK,Za4,‹1›,#[Za,#[ZaY,#[Zo,Zcn,‹2›,#[Zh],(Zt _)],#[Zh],#[Zz,f_alike,hr,#[Za,#[ZC,(ixL K),‹0›,#[ZP,ZeV,‹2›,#[Zh]]],#[Za,‹3›,#[Zf]]],(by rfl)]],#[Zf]]]]]],#[Zi,#[Zs,‹1›]]]],?_⟩
 refine⟨(by show 0≤sizeLine;decide),fun r hr0=>?_⟩
 have s1:Zx H (upd H r (.lst [])):=Zl hr0 _
 refine⟨_,rfl,a,ss.map V.str,rfl,s1.seq hS,?_⟩
 refine ZgE (K:=K) (a:=a) (xs:=ss.map V.str) (fun i σ H2=>(∃v1 v2:Option V,σ=[some (.ref a),some (.ref r),v1,v2])∧H2 r=some (.lst ((List.range i).map fun j=>.int (ZbV ss j)))∧Zx H H2∧i≤ss.length) ⟨⟨none,none,rfl⟩,Zg,s1,Qq _⟩ (fun _ _ _ ⟨_,_,s2,_⟩=>s2.seq hS) ?_ ?_
 ·rintro i x σ H2 p hx ⟨⟨v1,v2,rfl⟩,hr2,s2,hi⟩ hp
  rw[Qp]at hx
  cases hy:ss[i]? with
  | none=>rw[hy]at hx;cases hx
  | some y =>
   rw[hy]at hx
   cases hx
   have hil:i<ss.length:=(Qh.mp hy).1
   have npr:r≠p:=Zb hr2 hp
   have s3:Zx H (upd H2 p (.tup [.int i,.str y])):=s2.trans (Zl hp _)
   have hr3:(upd H2 p (.tup [.int i,.str y])) r=some (.lst ((List.range i).map fun j=>.int (ZbV ss j))):=by rw[Zc npr];exact hr2
   have hlt:((List.range i).map fun j=>V.int (ZbV ss j)).length<sizeLine:=by rw[Qa,List.length_range];exact ZW (by omega)
   have fin:∀z:Int,z=ZbV ss i→(∃v1 v2:Option V,[some (V.ref a),some (V.ref r),some (V.int i),some (V.str y)]=[some (.ref a),some (.ref r),v1,v2]) ∧
     (upd (upd H2 p (.tup [.int i,.str y])) r (.lst (((List.range i).map fun j=>.int (ZbV ss j))++[.int z]))) r=some (.lst ((List.range (i+1)).map fun j=>.int (ZbV ss j))) ∧
     Zx H (upd (upd H2 p (.tup [.int i,.str y])) r (.lst (((List.range i).map fun j=>.int (ZbV ss j))++[.int z])))∧i+1≤ss.length:=fun z e=>by
    refine⟨⟨_,_,rfl⟩,?_,fun b o h=>?_,hil⟩
    ·rw[Zg,List.range_succ,Qf,e];rfl
    ·rw[Zc (Zb h hr0)];exact s3 b o h
   refine⟨p,_,rfl,SqT.of Zg,rfl,_,_,rfl,_,_,rfl,rfl,?_⟩
   refine⟨_,rfl,.inl ⟨rfl,_,SqL.of hr3⟩,_,rfl,rfl,_,rfl,?_⟩
   by_cases e0:i=0
   ·subst e0
    exact Zeu rfl ⟨r,_,_,rfl,rfl,hr3,hlt,fin 0 rfl⟩
   ·have hprev:i-1<ss.length:=by omega
    have ei:((i:Int)-1)=((i-1:Nat):Int):=by omega
    have hat:atI (ss.map V.str) ((i:Int)-1)=some (.str ss[i-1]):=by rw[ei];exact Zaw (by rw[Qp,Qb hprev]<;>rfl)
    refine Zcs (fun z=>by injection z with z;omega) ⟨_,rfl,_,rfl,_,_,rfl,rfl,a,_,_,_,rfl,rfl,s3.seq hS,hat,_,rfl,ss[i-1],y,rfl,hlen _ (QW hprev),hlen _ (Qy hy),r,_,_,rfl,rfl,hr3,hlt,fin _ ?_⟩
    unfold ZbV
    rw[if_neg e0,Qt,Qt,Qb hprev,hy]
    rfl
 ·rintro σ H2 ⟨⟨v1,v2,rfl⟩,hr2,s2,hi⟩
  rw[Qa]at hr2
  exact⟨_,rfl,q r H2 hr0 hr2 s2⟩
def ZF:List Nat→List Nat→Int
 | [],[]=>0
 | [],_::_ =>-1
 | _::_,[]=>1
 | a::r,b::s=>if a=b then ZF r s else if a<b then -1 else 1
theorem Zfw:∀ (x y:List Nat),Spec.ltCps y x=false→ZF x y≤0
 | [],[],_=>by unfold ZF;omega
 | [],_::_,_=>by unfold ZF;omega
 | _::_,[],h=>by unfold Spec.ltCps at h;cases h
 | a::r,b::s,h=>by
  have ih:=Zfw r s
  unfold Spec.ltCps at h
  unfold ZF
  rw[Bool.or_eq_false_iff,Bool.and_eq_false_iff]at h
  obtain⟨h1,h2⟩:=h
  have h1':¬ b<a:=of_decide_eq_false h1
  by_cases e:a=b
  ·rw[if_pos e]
   rcases h2 with z|z
   ·rw[e]at z;simp at z
   ·exact ih z
  ·rw[if_neg e,if_pos (by omega)]
   omega
theorem Zcl:∀ (x y z:List Nat),ZF x y≤0→ZF y z≤0→ZF x z≤0
 | [],_,[],_,_=>by unfold ZF;omega
 | [],_,_::_,_,_=>by unfold ZF;omega
 | _::_,[],_,h,_=>by unfold ZF at h;omega
 | _::_,_::_,[],_,h=>by unfold ZF at h;omega
 | a::r,b::s,c::t,h1,h2=>by
  unfold ZF at h1 h2 ⊢
  have ih:=Zcl r s t
  by_cases e1:a=b
  ·rw[if_pos e1]at h1
   by_cases e2:b=c
   ·rw[if_pos e2]at h2
    rw[if_pos (e1.trans e2)]
    exact ih h1 h2
   ·rw[if_neg e2]at h2
    rw[if_neg (fun e=>e2 (e1.symm.trans e))]
    split at h2
    ·rw[if_pos (by omega)];omega
    ·omega
  ·rw[if_neg e1]at h1
   split at h1
   ·by_cases e2:b=c
    ·rw[if_neg (fun e=>e1 (e.trans e2.symm)),if_pos (by omega)];omega
    ·rw[if_neg e2]at h2
     split at h2
     ·rw[if_neg (by omega),if_pos (by omega)];omega
     ·omega
   ·omega
theorem ZfB:∀ (ss:List Str) (p:Str),risingS p ss=true→∀ (k:Nat) (x y:Str),(p::ss)[k]? = some x→ss[k]? = some y→ZF (cds x) (cds y)≤0
 | [],p,_,k,x,y,_,h=>by simp at h
 | z::r,p,h,0,x,y,h1,h2=>by
  unfold risingS at h
  rw[QV]at h
  simp at h1 h2
  subst h1 h2
  exact Zfw _ _ (by simpa using h.1)
 | z::r,p,h,k+1,x,y,h1,h2=>by
  unfold risingS at h
  rw[QV]at h
  exact ZfB r z h.2 k x y (by simpa using h1) (by simpa using h2)
theorem Zfx{ss:List Str}(h:sortedS ss=true)(k:Nat)(x y:Str)(h1:ss[k]? = some x)(h2:ss[k+1]? = some y):ZF (cds x) (cds y)≤0:=by
 cases ss with
 | nil=>simp at h1
 | cons p r=>exact ZfB r p h k x y h1 (by simpa using h2)
theorem Zia{ss:List Str}{k:Nat}(h:k<ss.length):atI (ss.map V.str) (k:Int)=some (.str ss[k]):=Zaw (by rw[Qp,Qb h]<;>rfl)
def lawInv(H:Hp)(a p:Addr)(j:Nat)(σ:L2.St)(H4:Hp):Prop:=∃ (u1 u3 u4 u5 u6 u7 u8 u9:Option V) (c:Int),σ=[some (.ref a),u1,some (.ref p),u3,u4,u5,u6,u7,u8,u9]∧Zx H H4∧Zag H4 p c∧c≤700*j
theorem Zag.same{H H':Hp}{p:Addr}{c:Int}(h:Zag H p c)(s:Zx H H'):Zag H' p c:=by obtain⟨b1,b2,hb,c0⟩:=h;exact⟨b1,b2,s _ _ hb,c0⟩
def mid(ns:List Int):Nat:=(ns.length+1) / 2
def Zc4(ns:List Int):List Int:=ns.take (mid ns)
def Ze4(ns:List Int):List Int:=ns.drop (mid ns)
theorem Zk7(ns:List Int):((((ns.map V.int).length:Nat):Int)+1) / 2=((mid ns:Nat):Int):=by
 rw[Qa];unfold mid;omega
theorem Zig{ns:List Int}{k:Int}(h0:0≤k)(h:k<(ns.length:Int)):∃v∈ns,atI (ns.map V.int) k=some (.int v):=by
 have hk:k.toNat<ns.length:=by omega
 have ek:k=((k.toNat:Nat):Int):=by omega
 have q:atI (ns.map V.int) ((k.toNat:Nat):Int)=some (.int ns[k.toNat]):=Zaw (by rw[Qp,Qb hk]<;>rfl)
 rw[← ek]at q
 exact⟨_,QW hk,q⟩
theorem ZlS(ns:List Int)(m:Nat)(h:m≤ns.length):Ze6 (ns.map V.int) none (some (m:Int))=(ns.take m).map V.int:=by
 unfold Ze6
 have e:HT.sIx (ns.map V.int).length (ns.map V.int).length (some (m:Int))=m:=by
  unfold HT.sIx
  simp only[List.length_map]
  rw[if_neg (by omega)]
  omega
 have e0:HT.sIx (ns.map V.int).length 0 none=0:=rfl
 rw[e,e0,List.drop_zero,Nat.sub_zero,List.map_take]
theorem Zi7(ns:List Int)(m:Nat)(h:m≤ns.length):Ze6 (ns.map V.int) (some (m:Int)) none=(ns.drop m).map V.int:=by
 unfold Ze6
 have e:HT.sIx (ns.map V.int).length 0 (some (m:Int))=m:=by
  unfold HT.sIx
  simp only[List.length_map]
  rw[if_neg (by omega)]
  omega
 have e0:HT.sIx (ns.map V.int).length (ns.map V.int).length none=(ns.map V.int).length:=rfl
 rw[e,e0,List.map_drop,QN (by rw[QL,Qa];omega)]
theorem ZhK(z:Str):(cds z).length=z.length:=by simp[Str.length]
theorem Zim:∀ (x y:List Nat),(lcp x y=x.length→lcp x y=y.length→ZF x y=0)∧(lcp x y=x.length→lcp x y≠y.length→ZF x y = -1)∧(lcp x y≠x.length→lcp x y=y.length→ZF x y=1) ∧
  ∀a b,x[lcp x y]? = some a→y[lcp x y]? = some b→ZF x y=if a<b then -1 else 1
 | [],[]=>⟨fun _ _=>rfl,fun _ h=>absurd rfl h,fun h _=>absurd rfl h,fun a b h _=>by simp at h⟩
 | [],_::_=>⟨fun _ h=>by unfold lcp at h;simp at h,fun _ _=>rfl,fun h _=>absurd rfl h,fun a b h _=>by simp at h⟩
 | _::_,[]=>⟨fun h _=>by unfold lcp at h;simp at h,fun h _=>by unfold lcp at h;simp at h,fun _ _=>rfl,fun a b _ h=>by simp at h⟩
 | a::r,b::s=>by
  obtain⟨h1,h2,h3,h4⟩:=Zim r s
  unfold lcp ZF
  by_cases e:a=b
  ·rw[if_pos e,if_pos e]
   simp only[List.length_cons,List.getElem?_cons_succ]
   exact⟨fun p q=>h1 (by omega) (by omega),fun p q=>h2 (by omega) (by omega),fun p q=>h3 (by omega) (by omega),h4⟩
  ·rw[if_neg e,if_neg e]
   simp only[List.length_cons,List.getElem?_cons_zero]
   refine⟨fun p=>by omega,fun p=>by omega,fun _ p=>by omega,fun c d p q=>?_⟩
   cases p;cases q
   rfl
theorem Zbt:∀ (x y:List Nat),ZF y x =-ZF x y
 | [],[]=>rfl
 | [],_::_=>rfl
 | _::_,[]=>rfl
 | a::r,b::s=>by
  have ih:=Zbt r s
  unfold ZF
  by_cases e:a=b
  ·rw[if_pos e,if_pos e.symm,ih]
  ·rw[if_neg e,if_neg fun z=>e z.symm]
   by_cases l:a<b
   ·rw[if_pos l,if_neg (by omega)];rfl
   ·rw[if_neg l,if_pos (by omega)]
theorem Zmk(a b:Nat):decide ((⟨#[a]⟩:Str).cps.toList<(⟨#[b]⟩:Str).cps.toList)=decide (a<b):=by
 have e:([a]:List Nat)<[b]↔a<b:=by
  constructor
  ·intro h
   cases h with
   | rel h=>exact h
   | cons h=>cases h
  ·exact fun h=>List.Lex.rel h
 exact decide_eq_decide.mpr e
theorem Zfs:∀ (x y:List Nat),ZF x y=0→x=y
 | [],[],_=>rfl
 | [],_::_,h=>by unfold ZF at h;omega
 | _::_,[],h=>by unfold ZF at h;omega
 | a::r,b::s,h=>by
  unfold ZF at h
  by_cases e:a=b
  ·rw[if_pos e]at h
   rw[e,Zfs r s h]
  ·rw[if_neg e]at h
   split at h<;>omega
def ZfM:Sp:=fun vs H Q _=>∃x y:Str,vs=[.str x,.str y]∧x.length≤1000∧y.length≤1000∧Q (.int (ZF (cds x) (cds y))) H
def Zej:Sp:=fun vs H Q _=>∃x y:Str,vs=[.str x,.str y,.int (lcp (cds x) (cds y):Nat)]∧x.length≤1000∧y.length≤1000∧Q (.int (ZF (cds x) (cds y))) H
theorem Zjz(T:Zak K mg cRow cMerge):Df P w K mg base 1 "order_at" ["one", "other", "at"] Zej:=by
 refine T.t_order_at.df Zgy (fun vs H Q E h=>?_) (fun cdv f A outer s H vs Q E hr h=>?_)
 ·obtain⟨x,y,rfl,_⟩:=h
  rfl
 obtain⟨x,y,rfl,hx,hy,q⟩:=h
 refine⟨_,#[Ze,#[Zat,(@PW.pt _ _ _ #[ZcM,#[Zo,Zcn,‹2›,#[Zw,Zaj,(by rfl),T.b.n_len,Qs,#[Za,‹0›,#[Zf]]],(Zt _)],(@Zcc _ _ _ _ #[Zo,Zcn,‹2›,#[Zw,Zaj,(by rfl),T.b.n_len,Qs,#[Za,‹1›,#[Zf]]],(Zt _)])]),#[Zi,#[Zs,#[Zh]]],#[ZM]],#[Ze,#[Zat,#[Zo,Zcn,‹2›,#[Zw,Zaj,(by rfl),T.b.n_len,Qs,#[Za,‹0›,#[Zf]]],(Zt _)],#[Zi,#[Zs,(@ZhM _ _ _ _ _ _ ZfZ #[Zh])]],#[ZM]],#[Ze,#[Zat,#[Zo,Zcn,‹2›,#[Zw,Zaj,(by rfl),T.b.n_len,Qs,#[Za,‹1›,#[Zf]]],(Zt _)],#[Zi,#[Zs,#[Zh]]],#[ZM]],#[Zi,#[Zs,#[ZaY,#[Zo,ZiW,#[ZC,Zev,‹0›,‹2›],#[ZC,Zev,‹1›,‹2›],(Zt _)],(@ZhM _ _ _ _ _ _ ZfZ #[Zh]),#[Zh]]]]]]],?_⟩
 obtain⟨o1,o2,o3,o4⟩:=Zim (cds x) (cds y)
 have ll:=Zes (cds x) (cds y)
 have lx:=ZhK x
 have ly:=ZhK y
 have inj:∀ {m n:Nat},V.int (m:Int)=V.int (n:Int)→m=n:=fun {m n} e=>by injection e with e;omega
 refine⟨_,rfl,_,rfl,x,rfl,Zbk hx,rfl,_,rfl,Zbd (fun d=>?_) (fun d=>?_)⟩
 ·have d1:=inj (of_decide_eq_true d)
  refine⟨_,rfl,_,rfl,y,rfl,Zbk hy,rfl,_,rfl,Zbd (fun d2=>?_) (fun d2=>?_)⟩
  ·have d2':=inj (of_decide_eq_true d2)
   rw[o1 (by omega) (by omega)]at q
   exact q
  ·have d2':¬ lcp (cds x) (cds y)=y.length:=fun e=>d2 (by rw[e];exact decide_eq_true rfl)
   refine⟨_,rfl,_,rfl,x,rfl,Zbk hx,rfl,_,rfl,Zeu (by rw[d1]) ?_⟩
   rw[o2 (by omega) (by omega)]at q
   exact⟨_,rfl,q⟩
 ·have d1:¬ lcp (cds x) (cds y)=x.length:=fun e=>d (by rw[e];exact decide_eq_true rfl)
  refine ZdW ⟨_,rfl,_,rfl,x,rfl,Zbk hx,rfl,_,rfl,Zcs (fun e=>d1 (inj e)) ?_⟩
  refine⟨_,rfl,_,rfl,y,rfl,Zbk hy,rfl,_,rfl,Zbd (fun d2=>?_) (fun d2=>?_)⟩
  ·have d2':=inj (of_decide_eq_true d2)
   rw[o3 (by omega) (by omega)]at q
   exact q
  ·have d2':¬ lcp (cds x) (cds y)=y.length:=fun e=>d2 (by rw[e];exact decide_eq_true rfl)
   obtain⟨a,ha,ha'⟩:=ZdH (z:=x) (k:=(lcp (cds x) (cds y):Nat)) (by omega) (by omega)
   obtain⟨b,hb,hb'⟩:=ZdH (z:=y) (k:=(lcp (cds x) (cds y):Nat)) (by omega) (by omega)
   rw[Int.toNat_natCast]at ha hb
   refine⟨_,rfl,_,rfl,x,_,a,rfl,rfl,Zbk hx,ha',_,rfl,_,rfl,y,_,b,rfl,rfl,Zbk hy,hb',_,_,rfl,rfl,_,rfl,?_⟩
   rw[Zmk]
   rw[o4 a b ha hb]at q
   refine Zbd (fun e=>?_) (fun e=>?_)
   ·rw[if_pos (of_decide_eq_true e)]at q
    exact⟨_,rfl,q⟩
   ·rw[if_neg (fun z=>e (decide_eq_true z))]at q
    exact q
theorem ZjE(T:Zak K mg cRow cMerge)(f_alike:Df P w K mg base 2 "alike" ["one", "other"] Zem)(f_order_at:Df P w K mg base 1 "order_at" ["one", "other", "at"] Zej):Df P w K mg base 3 "liken" ["one", "other"] ZfM:=by
 refine T.t_liken.df Zjc (fun vs H Q E h=>?_) (fun cdv f A outer s H vs Q E hr h=>?_)
 ·obtain⟨x,y,rfl,_⟩:=h
  rfl
 obtain⟨x,y,rfl,hx,hy,q⟩:=h
 refine⟨_,#[Zi,#[Zs,#[Zz,f_order_at,hr,#[Za,‹0›,#[Za,‹1›,#[Za,#[Zz,f_alike,hr,#[Za,‹0›,#[Za,‹1›,#[Zf]]],(by rfl)],#[Zf]]]],(by rfl)]]],?_⟩
 exact⟨_,rfl,_,rfl,_,rfl,_,rfl,x,y,rfl,hx,hy,x,y,rfl,hx,hy,q⟩
theorem ZlJ{c A B:Prop}[Decidable c](hc:¬ c)(h:A):if (!decide c)=true then A else B:=by
 rw[if_pos (by rw[decide_eq_false hc];rfl)]
 exact h
def ZcU:Sp:=fun vs H Q _=>∃ (x y:Str) (far:Nat),vs=[.str x,.str y,.int far]∧x.length≤1000∧y.length≤1000∧far≤lcp (cds x) (cds y) ∧
 ∀t,H t=none→Q (.ref t) (upd H t (.tup [.int (ZF (cds x) (cds y)),.int (lcp (cds x) (cds y):Nat),.int ((lcp (cds x) (cds y):Nat)-(far:Int)+1)]))
theorem Zfc(T:Zak K mg cRow cMerge)(f_alike_from:Df P w K mg base 1 "alike_from" ["one", "other", "far"] ZbF)(f_order_at:Df P w K mg base 1 "order_at" ["one", "other", "at"] Zej):Df P w K mg base 2 "liken_from" ["one", "other", "far"] ZcU:=by
 refine T.t_liken_from.df Zdb (fun vs H Q E h=>?_) (fun cdv f A outer s H vs Q E hr h=>?_)
 ·obtain⟨x,y,far,rfl,_⟩:=h
  rfl
 obtain⟨x,y,far,rfl,hx,hy,hf,q⟩:=h
 refine⟨_,#[Ze,#[Zv,3,Zdb.nd,(Or.inl rfl),#[Zz,f_alike_from,hr,#[Za,‹0›,#[Za,‹1›,#[Za,‹2›,#[Zf]]]],(by rfl)]],#[Zi,#[Zs,#[Za9,#[Za,#[Zz,f_order_at,hr,#[Za,‹0›,#[Za,‹1›,#[Za,‹3›,#[Zf]]]],(by rfl)],#[Za,‹3›,#[Za,#[ZP,Za0,#[ZP,ZeV,‹3›,‹2›],#[Zh]],#[Zf]]]]]]]],?_⟩
 refine⟨_,rfl,_,rfl,_,rfl,x,y,far,rfl,hx,hy,hf,?_⟩
 refine⟨_,rfl,_,rfl,_,rfl,x,y,rfl,hx,hy,?_⟩
 refine⟨_,rfl,_,rfl,_,rfl,_,_,rfl,rfl,_,_,rfl,rfl,(by show 3≤sizeLine;decide),fun t ht=>?_⟩
 exact q t ht
def Zgk(ss:List Str)(v:V):Prop :=
 (v=.non∧∀i x y,ss[i+1]? = some x→ss[i]? = some y→0≤ZF (cds x) (cds y)) ∨
 ∃k:Nat,v=.int ((k+1:Nat):Int)∧k+1<ss.length∧(∀x y,ss[k+1]? = some x→ss[k]? = some y→ZF (cds x) (cds y)<0)∧∀i,i<k→∀x y,ss[i+1]? = some x→ss[i]? = some y→0≤ZF (cds x) (cds y)
theorem ZkJ{ss:List Str}{v v':V}(h:Zgk ss v)(h':Zgk ss v'):v=v':=by
 rcases h with⟨rfl,a⟩|⟨k,rfl,l,b,c⟩
 ·rcases h' with⟨rfl,_⟩|⟨k',rfl,l',b',_⟩
  ·rfl
  ·have:=a k' _ _ (Qb l') (Qb (by omega))
   have:=b' _ _ (Qb l') (Qb (by omega))
   omega
 ·rcases h' with⟨rfl,a⟩|⟨k',rfl,l',b',c'⟩
  ·have:=a k _ _ (Qb l) (Qb (by omega))
   have:=b _ _ (Qb l) (Qb (by omega))
   omega
  ·have e:k=k':=by
    rcases Nat.lt_trichotomy k k' with h|h|h
    ·have:=c' k h _ _ (Qb l) (Qb (by omega))
     have:=b _ _ (Qb l) (Qb (by omega))
     omega
    ·exact h
    ·have:=c k' h _ _ (Qb l') (Qb (by omega))
     have:=b' _ _ (Qb l') (Qb (by omega))
     omega
   rw[e]
def Zjw(K:PySem.W.Frag):Sp:=fun vs H Q _=>∃ (a:Addr) (ss:List Str),vs=[.ref a]∧SqL K H a (ss.map V.str)∧ss.length≤200∧(∀s∈ss,s.length≤1000)∧∀ (v:V) (H':Hp),Zgk ss v→Zx H H'→Q v H'
theorem ZjM(T:Zak K mg cRow cMerge)(f_liken:Df P w K mg base 3 "liken" ["one", "other"] ZfM):Df P w K mg base 4 "first_break" ["keys"] (Zjw K):=by
 refine T.t_first_break.df ZcR (fun vs H Q E h=>?_) (fun cdv f A outer s H vs Q E hr h=>?_)
 ·obtain⟨a,ss,rfl,_⟩:=h
  rfl
 obtain⟨a,ss,rfl,hS,hn,hlen,q⟩:=h
 refine⟨_,#[Ze,#[Zdi,PassesOwn.never,(@Ziv _ _ _ _ _ _ _ rfl T.b.n_range #[Za,#[Zh],#[Za,#[Zw,(ZdP K),(by rfl),T.b.n_len,Qs,#[Za,‹0›,#[Zf]]],#[Zf]]] (by rfl) (by rfl)),#[ZR,1,ZcR.nd],#[Zi,#[Zat,#[Zo,Zdy,#[Zz,f_liken,hr,#[Za,#[ZC,(ixL K),‹0›,‹1›],#[Za,#[ZC,(ixL K),‹0›,#[ZP,ZeV,‹1›,#[Zh]]],#[Zf]]],(by rfl)],#[Zh],(Zt _)],#[Zi,#[Zs,‹1›]],#[ZM]]]],#[Zi,#[Zs,#[Zae]]]],?_⟩
 have hl:(((ss.map V.str).length:Nat):Int)=(ss.length:Int):=by rw[Qa]
 refine⟨_,rfl,a,_,rfl,.inl hS,_,_,rfl,⟨by omega,by omega,by omega,by omega⟩,?_⟩
 refine ZdO (fun i σ H2=>(∃v:Option V,σ=[some (.ref a),v])∧Zx H H2∧∀j,j<i→∀x y,ss[j+1]? = some x→ss[j]? = some y→0≤ZF (cds x) (cds y)) ⟨⟨none,rfl⟩,Zx.refl H,fun j h=>by omega⟩ ?_ ?_
 ·rintro i σ H2 hi ⟨⟨v,rfl⟩,s2,h2⟩
  have hi1:i+1<ss.length:=by omega
  have e1:(1+(i:Int))=((i+1:Nat):Int):=by omega
  have e0:(1+(i:Int)-1)=((i:Nat):Int):=by omega
  refine⟨_,rfl,_,rfl,a,_,_,_,rfl,rfl,s2.seq hS,(by rw[e1];exact Zia hi1),_,rfl,_,rfl,_,_,rfl,rfl,a,_,_,_,rfl,rfl,s2.seq hS,(by rw[e0];exact Zia (by omega)),ss[i+1],ss[i],rfl,hlen _ (QW hi1),hlen _ (QW (by omega)),_,_,rfl,rfl,_,rfl,?_⟩
  refine Zbd (fun d=>?_) (fun d=>?_)
  ·have d':ZF (cds ss[i+1]) (cds ss[i])<0:=of_decide_eq_true d
   refine⟨_,rfl,q _ H2 (.inr ⟨i,by rw[e1],hi1,fun x y h1 h0=>?_,h2⟩) s2⟩
   rw[Qb hi1]at h1
   rw[Qb (by omega)]at h0
   cases h1;cases h0
   omega
  ·have d':¬ ZF (cds ss[i+1]) (cds ss[i])<0:=fun z=>d (decide_eq_true z)
   refine⟨⟨_,rfl⟩,s2,fun j hj x y h1 h0=>?_⟩
   by_cases ej:j=i
   ·subst ej
    rw[Qb hi1]at h1
    rw[Qb (by omega)]at h0
    cases h1;cases h0
    omega
   ·exact h2 j (by omega) x y h1 h0
 ·rintro σ H2 ⟨⟨v,rfl⟩,s2,h2⟩
  refine q _ H2 (.inl ⟨rfl,fun j x y h1 h0=>?_⟩) s2
  have:=(Qh.mp h1).1
  exact h2 j (by omega) x y h1 h0
def Zdz(K:PySem.W.Frag)(tup:Bool):Sp:=fun vs H Q _=>∃ (a:Addr) (ns:List Int),vs=[.ref a]∧SqL K H a (ns.map V.int)∧ns.length≤100 ∧
 ∀ (t f r:Addr) (H':Hp),H t=none→H f=none→H r=none→f≠r→H' t=some (if tup=true then .tup [.ref f,.ref r] else .lst [.ref f,.ref r])→H' f=some (.lst ((Zc4 ns).map V.int))→H' r=some (.lst ((Ze4 ns).map V.int))→Zx H H'→t≠f→t≠r→Q (.ref t) H'
theorem ZjZ{H:Hp}{f r t:Addr}{A B T:HO}(hf:H f=none)(hr:(upd H f A) r=none)(ht:(upd (upd H f A) r B) t=none) :
  H r=none∧H t=none∧f≠r∧t≠f∧t≠r∧(upd (upd (upd H f A) r B) t T) f=some A∧(upd (upd (upd H f A) r B) t T) r=some B∧Zx H (upd (upd (upd H f A) r B) t T):=by
 have n1:f≠r:=Zb (H:=upd H f A) (o:=A) Zg hr
 have e1:(upd (upd H f A) r B) f=some A:=by rw[Zc n1];exact Zg
 have n2:f≠t:=Zb e1 ht
 have n3:r≠t:=Zb (H:=upd (upd H f A) r B) (o:=B) Zg ht
 have s1:Zx H (upd H f A):=Zl hf _
 have s2:=s1.trans (Zl hr B)
 have s3:=s2.trans (Zl ht T)
 exact⟨s1.free hr,s2.free ht,n1,n2.symm,n3.symm,by rw[Zc n2];exact e1,by rw[Zc n3];exact Zg,s3⟩
theorem ZiI(T:Zak K mg cRow cMerge):Df P w K mg base 1 "halves" ["numbers"] (Zdz K true):=by
 refine T.t_halves.df Zft (fun vs H Q E h=>?_) (fun cdv f A outer s H vs Q E hr h=>?_)
 ·obtain⟨a,ns,rfl,_⟩:=h
  rfl
 obtain⟨a,ns,rfl,hS,hn,q⟩:=h
 refine⟨_,#[Ze,#[Zv,1,Zft.nd,(Or.inl rfl),#[ZP,ZfT,#[ZP,Za0,#[Zw,(ZdP K),(by rfl),T.b.n_len,Qs,#[Za,‹0›,#[Zf]]],#[Zh]],#[Zh]]],#[Zi,#[Zs,#[Za9,#[Za,(@Zeo _ _ _ _ _ _ _ _ _ _ (slL K) ‹0› (@ZfV _) (@ZfY _ _ _ ‹1›)),#[Za,(@Zeo _ _ _ _ _ _ _ _ _ _ (slL K) ‹0› (@ZfY _ _ _ ‹1›) (@ZfV _)),#[Zf]]]]]]],?_⟩
 refine⟨_,rfl,a,_,rfl,.inl hS,_,_,rfl,rfl,_,_,rfl,rfl,⟨by decide,by decide⟩,?_⟩
 have hm:mid ns≤ns.length∨ns=[]:=by
  cases ns with
  | nil=>exact .inr rfl
  | cons x r=>left;unfold mid;rw[QF];omega
 have hml:mid ns≤ns.length:=by
  rcases hm with h|h
  ·exact h
  ·subst h;decide
 have em:=Zk7 ns
 simp only[em]
 refine⟨_,rfl,_,rfl,_,rfl,a,_,rfl,hS,fun l hl=>?_⟩
 refine⟨_,rfl,_,rfl,_,rfl,a,_,rfl,(Zl hl _).seq hS,fun r hr0=>⟨(by show 2≤sizeLine;decide),fun t ht=>?_⟩⟩
 rw[ZlS ns _ hml]at hr0 ht ⊢
 rw[Zi7 ns _ hml]at ht ⊢
 obtain⟨z1,z2,z3,z4,z5,z6,z7,z8⟩:=ZjZ (T:=.tup [.ref l,.ref r]) hl hr0 ht
 exact q t l r _ z2 hl z1 z3 Zg z6 z7 z8 z4 z5
def Zha:Sp:=fun vs H Q _=>∃ (p:Addr) (c:Int),vs=[.ref p]∧Zag H p c∧c<2 ^ 50∧∀ (v c':Int) (H':Hp),0≤v→v≤12→Zag H' p c'→c≤c'→c'≤c+3→But p H H'→Q (.int v) H'
theorem Zk4(T:Zak K mg cRow cMerge)(f_l_pick:Df P w K mg base 2 "_law_pick" ["_law_left_here", "_law_many_here"] ZcT):Df P w K mg base 3 "_law_many" ["_law_left_here"] Zha:=by
 refine T.t_l_many.df Zfi (fun vs H Q E h=>?_) (fun cdv f A outer s H vs Q E hr h=>?_)
 ·obtain⟨p,c,rfl,_⟩:=h
  rfl
 obtain⟨p,c,rfl,hL,c1,q⟩:=h
 refine⟨_,#[Ze,#[Zv,1,Zfi.nd,(Or.inl rfl),#[Zz,f_l_pick,hr,#[Za,‹0›,#[Za,#[Zh],#[Zf]]],(by rfl)]],#[Zi,#[Zs,#[ZC,(ixL K),#[Zbz,#[Za,#[Zh],#[Za,#[Zh],#[Za,#[Zh],#[Za,#[Zh],#[Za,#[Zh],#[Za,#[Zh],#[Za,#[Zz,f_l_pick,hr,#[Za,‹0›,#[Za,#[Zh],#[Zf]]],(by rfl)],#[Za,#[ZP,Za0,#[Zh],#[Zz,f_l_pick,hr,#[Za,‹0›,#[Za,#[Zh],#[Zf]]],(by rfl)]],#[Zf]]]]]]]]]],‹1›]]]],?_⟩
 have c0:=hL.ge
 refine⟨_,rfl,p,c,_,rfl,hL,by omega,by decide,by decide,fun wy H1 w0 w1 L1 B1=>?_⟩
 refine⟨_,rfl,p,c+1,_,rfl,L1,by omega,by decide,by decide,fun d1 H2 d10 d11 L2 B2=>?_⟩
 refine⟨_,rfl,p,c+1+1,_,rfl,L2,by omega,by decide,by decide,fun d2 H3 d20 d21 L3 B3=>⟨_,_,rfl,rfl,(by show 8≤sizeLine;decide),fun e he=>?_⟩⟩
 obtain⟨v,hv,hat⟩:=Zig (ns:=[2,3,4,5,6,3,d1,7+d2]) w0 w1
 have hv1:0≤v∧v≤12:=by
  simp only[List.mem_cons,List.not_mem_nil,or_false]at hv
  omega
 exact⟨_,rfl,e,_,_,_,rfl,rfl,SqL.of Zg,hat,q v _ _ hv1.1 hv1.2 (L3.new he) (by omega) (by omega) (((B1.trans B2).trans B3).trans (But.same (Zl he _)))⟩
theorem Zbe(f:Str)(v:V):∀fs:List (Str×V),(Zk f v fs).length≤fs.length+1
 | []=>Qd _
 | p::r=>by
  unfold Zk
  split
  ·exact Nat.le_succ _
  ·exact Nat.succ_le_succ (Zbe f v r)
def ZbY(k f:Addr)(g:Int):List (Str×V):=Zk "gone" (.int g) (Zk "fars" (.ref f) (Zk "all_keys" (.ref k) []))
theorem nGF:¬ (("fars" : Str) = "gone"):=by decide +kernel
theorem nGK:¬ (("all_keys" : Str) = "gone"):=by decide +kernel
theorem nFK:¬ (("all_keys" : Str) = "fars"):=by decide +kernel
theorem Zd1(k f:Addr)(g:Int):(ZbY k f g).lookup ("all_keys" : Str)=some (.ref k):=by
 unfold ZbY
 rw[Zj,if_neg nGK,Zj,if_neg nFK,Zj,if_pos rfl]
theorem ZbU(k f:Addr)(g:Int):(ZbY k f g).lookup ("gone" : Str)=some (.int g):=by
 unfold ZbY
 rw[Zj,if_pos rfl]
theorem Zil(k f:Addr)(g:Int){m:Str}(h1:¬ m = "gone")(h2:¬ m = "fars")(h3:¬ m = "all_keys"):(ZbY k f g).lookup m=none:=by
 unfold ZbY
 rw[Zj,if_neg h1,Zj,if_neg h2,Zj,if_neg h3]
 rfl
structure ZhY (C:Addr) (H:Hp) (p k f:Addr) (ss:List Str) (g:Nat):Prop where
 ob:∃dx,H p=some (.ins C dx (ZbY k f g))
 ks:H k=some (.lst (ss.map V.str))
 fs:H f=some (.lst ((List.range ss.length).map fun j=>.int (ZbV ss j)))
def Zkc(C:Addr):Sp:=fun vs H Q _=>∃ (p k f:Addr) (ss:List Str) (g:Nat),vs=[.ref p]∧ZhY C H p k f ss g∧Q (.int ((ss.length:Int)-(g:Int))) H
theorem Zla(T:Zak K mg cRow cMerge):Mf P w K mg base 1 cRow "to_go" ["self"] (Zkc cRow):=by
 refine T.t_Row_to_go.mf Zf1 (fun vs H Q E h=>?_) (fun cdv f A outer s H vs Q E hr h=>?_)
 ·obtain⟨p,k,f,ss,g,rfl,_⟩:=h
  rfl
 obtain⟨p,k,f,ss,g,rfl,R,q⟩:=h
 refine⟨_,#[Zi,#[Zs,#[ZP,ZeV,#[Zw,(ZdP K),(by rfl),T.b.n_len,Qs,#[Za,#[ZL,‹0›],#[Zf]]],#[ZL,‹0›]]]],?_⟩
 obtain⟨⟨dx,ho⟩,hk,hf⟩:=R
 refine⟨_,rfl,p,cRow,dx,_,_,rfl,ho,T.cl_Row,T.na_Row_all_keys,Zd1 _ _ _,k,_,rfl,.inl (SqL.of hk),_,rfl,p,cRow,dx,_,_,rfl,ho,T.cl_Row,T.na_Row_gone,ZbU _ _ _,_,_,rfl,rfl,?_⟩
 rw[Qa]
 exact q
def ZdF(ss:List Str)(g:Nat):V:=match ss[g]? with
 | some z=>.str z
 | none=>.non
def ZdX(C:Addr):Sp:=fun vs H Q _=>∃ (p k f:Addr) (ss:List Str) (g:Nat),vs=[.ref p]∧ZhY C H p k f ss g∧Q (ZdF ss g) H
theorem Zkw(T:Zak K mg cRow cMerge)(f_Row_to_go:Mf P w K mg base 1 cRow "to_go" ["self"] (Zkc cRow)):Mf P w K mg base 2 cRow "head" ["self"] (ZdX cRow):=by
 refine T.t_Row_head.mf ZgL (fun vs H Q E h=>?_) (fun cdv f A outer s H vs Q E hr h=>?_)
 ·obtain⟨p,k,f,ss,g,rfl,_⟩:=h
  rfl
 obtain⟨p,k,f,ss,g,rfl,R,q⟩:=h
 refine⟨_,#[Zi,#[Zs,#[ZaY,#[Zo,ZgD,#[Z0,f_Row_to_go,T.cl_Row,hr,‹0›],#[Zh],(Zt _)],#[ZC,(ixL K),#[ZL,‹0›],#[ZL,‹0›]],#[Zae]]]],?_⟩
 obtain⟨⟨dx,ho⟩,hk,hf⟩:=id R
 refine⟨_,rfl,p,dx,_,rfl,ho,Zil _ _ _ (by decide +kernel) (by decide +kernel) (by decide +kernel),p,k,f,ss,g,rfl,R,_,_,rfl,rfl,_,rfl,?_⟩
 refine Zbd (fun d=>?_) (fun d=>?_)
 ·have d':(0:Int)<(ss.length:Int)-(g:Int):=of_decide_eq_true d
  have hg:g<ss.length:=by omega
  refine⟨_,rfl,p,cRow,dx,_,_,rfl,ho,T.cl_Row,T.na_Row_all_keys,Zd1 _ _ _,_,rfl,p,cRow,dx,_,_,rfl,ho,T.cl_Row,T.na_Row_gone,ZbU _ _ _,k,_,_,_,rfl,rfl,SqL.of hk,Zaw (by rw[Qp,Qb hg]<;>rfl),?_⟩
  unfold ZdF at q
  rw[Qb hg]at q
  exact q
 ·have d':¬ (0:Int)<(ss.length:Int)-(g:Int):=fun z=>d (decide_eq_true z)
  unfold ZdF at q
  rw[Q6 (by omega)]at q
  exact q
def Zd0(C:Addr):Sp:=fun vs H Q _=>∃ (p dx a:Addr) (ss:List Str),vs=[.ref p,.ref a]∧H p=some (.ins C dx [])∧H a=some (.lst (ss.map V.str))∧ss.length≤100∧(∀s∈ss,s.length≤1000) ∧
 ∀ (k f:Addr) (H':Hp),H k=none→H f=none→k≠f→ZhY C H' p k f ss 0→(∀b o,H b=some o→b≠p→H' b=some o)→Q .non H'
theorem ZhE(T:Zak K mg cRow cMerge)(f_alikes:Df P w K mg base 3 "alikes" ["row"] (ZeZ K)):Cf P w K mg base 4 cRow "Row" ["self", "keys"] (Zd0 cRow):=by
 refine T.t_Row_init.cf Zg4 (fun vs H Q E h=>?_) (fun cdv f A outer s H vs Q E hr h=>?_)
 ·obtain⟨p,dx,a,ss,rfl,_⟩:=h
  rfl
 obtain⟨p,dx,a,ss,rfl,hp,ha,hn,hz,q⟩:=h
 refine⟨_,#[Ze,#[Zbh,‹0›,#[Zc1,(ZmY K),T.b.n_list,boot_list,#[Za,‹1›,#[Zf]]]],#[Ze,#[Zbh,‹0›,#[Zz,f_alikes,hr,#[Za,‹1›,#[Zf]],(by rfl)]],#[Zi,#[Zbh,‹0›,#[Zh]]]]],?_⟩
 refine⟨_,rfl,a,_,rfl,.inl (SqL.of ha),fun k hk=>?_⟩
 have npk:p≠k:=Zb hp hk
 have nap:a≠p:=fun e=>by rw[e,hp]at ha;cases ha
 have nak:a≠k:=Zb ha hk
 refine⟨_,rfl,p,cRow,dx,[],rfl,(by rw[Zc npk];exact hp),T.cl_Row,T.na_Row_all_keys,(by show 0<1000;decide),?_⟩
 have ha2:(upd (upd H k (.lst (ss.map V.str))) p (.ins cRow dx (Zk "all_keys" (.ref k) []))) a=some (.lst (ss.map V.str)):=by rw[Zc nap,Zc nak];exact ha
 have hp2:(upd (upd H k (.lst (ss.map V.str))) p (.ins cRow dx (Zk "all_keys" (.ref k) []))) p=some (.ins cRow dx (Zk "all_keys" (.ref k) [])):=Zg
 have hk2:(upd (upd H k (.lst (ss.map V.str))) p (.ins cRow dx (Zk "all_keys" (.ref k) []))) k=some (.lst (ss.map V.str)):=by rw[Zc npk.symm];exact Zg
 have s2:∀b o,H b=some o→b≠p→(upd (upd H k (.lst (ss.map V.str))) p (.ins cRow dx (Zk "all_keys" (.ref k) []))) b=some o:=fun b o h n=>by rw[Zc n,Zc (Zb h hk)];exact h
 refine⟨_,rfl,a,ss,rfl,SqL.of ha2,hn,hz,fun f H3 hf0 hf3 s3=>?_⟩
 have hHf:H f=none:=by
  cases w':H f with
  | none=>rfl
  | some u =>
   by_cases e:f=p
   ·rw[e,hp2]at hf0;cases hf0
   ·rw[s2 f u w' e]at hf0;cases hf0
 have nkf:k≠f:=Zb hk2 hf0
 have npf:p≠f:=Zb hp2 hf0
 refine⟨_,rfl,p,cRow,dx,_,rfl,s3 _ _ hp2,T.cl_Row,T.na_Row_fars,(by show 1<1000;decide),?_⟩
 refine⟨_,rfl,p,cRow,dx,_,rfl,Zg,T.cl_Row,T.na_Row_gone,?_,?_⟩
 ·have h1:=Zbe "all_keys" (V.ref k) []
  have h2:=Zbe "fars" (V.ref f) (Zk "all_keys" (V.ref k) [])
  have h3:([]:List (Str×V)).length=0:=rfl
  omega
 ·refine q k f _ hk hHf nkf ⟨⟨dx,Zg⟩,?_,?_⟩ fun b o h n=>?_
  ·rw[Zc npk.symm,Zc npk.symm];exact s3 _ _ hk2
  ·rw[Zc npf.symm,Zc npf.symm];exact hf3
  ·rw[Zc n,Zc n];exact s3 _ _ (s2 b o h n)
theorem Zhb{K:PySem.W.Frag}{a:Addr}{xs:List V}{k:Nat}{D:Addr}{σ:L2.St}{H1:Hp}{g:TG}{tc:TT}{te:TE}{Q:VK}(Pv:Nat→List V→L2.St→Hp→Prop)(h0:Pv 0 [] (σ++List.replicate k none) (upd H1 D (.lst [])))
  (hl:∀i ys σ H,Pv i ys σ H→SqL K H a xs)
  (hs:∀i x ys σ H,xs[i]? = some x→Pv i ys σ H→g x σ H fun σ4 H4=>tc σ4 H4 fun b H5=>if b=true then te σ4 H5 fun y H6=>H6 D=some (.lst ys)∧ys.length<sizeLine∧Pv (i+1) (ys++[y]) σ4 (upd H6 D (.lst (ys++[y]))) else Pv (i+1) ys σ4 H5)
  (hd:∀ys σ H,Pv xs.length ys σ H→Q (.ref D) H):ZdZ (Itl K a) D k σ H1 g tc te Q:=by
 refine⟨fun i m ys σ H=>m=xs.length-i∧i≤xs.length∧Pv i ys σ H,⟨xs.length,by simp,Qq _,h0⟩,?_⟩
 rintro i m ys σ H ⟨rfl,hi,p⟩
 have q1:=hl i ys σ H p
 by_cases hlt:i<xs.length
 ·refine .inr ⟨⟨xs,xs[i],q1,Qb hlt⟩,Pv (i+1),fun ys' σ' H' p'=>⟨xs.length-(i+1),by omega,rfl,hlt,p'⟩,fun x H' y=>?_⟩
  obtain⟨rfl,e⟩:=y
  exact hs i x ys σ _ (e xs q1) p
 ·have e:i=xs.length:=by omega
  exact .inl ⟨⟨xs,q1,by omega⟩,hd ys σ H (e ▸ p)⟩
theorem Zff{K:PySem.W.Frag}{a:Addr}{xs:List V}{k:Nat}{D:Addr}{σ:L2.St}{H1:Hp}{g:TG}{te:TE}{Q:VK}(Pv:Nat→List V→L2.St→Hp→Prop)(h0:Pv 0 [] (σ++List.replicate k none) (upd H1 D (.lst [])))
  (hl:∀i ys σ H,Pv i ys σ H→SqL K H a xs)
  (hs:∀i x ys σ H,xs[i]? = some x→Pv i ys σ H→g x σ H fun σ4 H4=>te σ4 H4 fun y H6=>H6 D=some (.lst ys)∧ys.length<sizeLine∧Pv (i+1) (ys++[y]) σ4 (upd H6 D (.lst (ys++[y]))))
  (hd:∀ys σ H,Pv xs.length ys σ H→Q (.ref D) H):ZdZ (Itl K a) D k σ H1 g Zkh te Q:=by
 refine⟨fun i m ys σ H=>m=xs.length-i∧i≤xs.length∧Pv i ys σ H,⟨xs.length,by simp,Qq _,h0⟩,?_⟩
 rintro i m ys σ H ⟨rfl,hi,p⟩
 have q1:=hl i ys σ H p
 by_cases hlt:i<xs.length
 ·refine .inr ⟨⟨xs,xs[i],q1,Qb hlt⟩,Pv (i+1),fun ys' σ' H' p'=>⟨xs.length-(i+1),by omega,rfl,hlt,p'⟩,fun x H' y=>?_⟩
  obtain⟨rfl,e⟩:=y
  simp only[Zkh,↓reduceIte]
  exact hs i x ys σ _ (e xs q1) p
 ·have e:i=xs.length:=by omega
  exact .inl ⟨⟨xs,q1,by omega⟩,hd ys σ H (e ▸ p)⟩
abbrev Hd:=Int→Option (List Nat)
def Btr(x:List Nat)(a:Int)(y:List Nat)(b:Int):Prop:=ZF x y<0∨(ZF x y=0∧a<b)
def Win(hd:Hd)(N:List Int):Option Int→Prop
 | none=>∀n∈N,hd n=none
 | some a=>a∈N∧∃x,hd a=some x∧∀b∈N,∀y,hd b=some y→b=a∨Btr x a y b
theorem Btr.asym{x y:List Nat}{a b:Int}(h:Btr x a y b)(g:Btr y b x a):False:=by
 have e:=Zbt x y
 rcases h with h|⟨h,h2⟩<;>rcases g with g|⟨g,g2⟩<;>omega
theorem Btr.total{x y:List Nat}{a b:Int}(h:a≠b):Btr x a y b∨Btr y b x a:=by
 have e:=Zbt x y
 unfold Btr
 omega
theorem Btr.trans{x y z:List Nat}{a b c:Int}(h:Btr x a y b)(g:Btr y b z c):Btr x a z c:=by
 have t1:=Zcl x y z
 have t2:=Zcl z x y
 have t3:=Zcl y z x
 have e1:=Zbt x y
 have e2:=Zbt y z
 have e3:=Zbt x z
 unfold Btr at *
 omega
theorem Win.one{hd:Hd}{N:List Int}{v w:Option Int}(h:Win hd N v)(g:Win hd N w):v=w:=by
 cases v with
 | none =>
  cases w with
  | none=>rfl
  | some b=>obtain⟨hb,y,hy,_⟩:=g;rw[h b hb]at hy;cases hy
 | some a =>
  obtain⟨ha,x,hx,h2⟩:=h
  cases w with
  | none=>rw[g a ha]at hx;cases hx
  | some b =>
   obtain⟨hb,y,hy,g2⟩:=g
   rcases h2 b hb y hy with e|e
   ·rw[e]
   ·rcases g2 a ha x hx with e'|e'
    ·rw[e']
    ·exact(e.asym e').elim
theorem Win.nil(hd:Hd):Win hd [] none:=fun n h=>by cases h
theorem Win.sing{hd:Hd}{n:Int}:Win hd [n] (if (hd n).isSome then some n else none):=by
 cases h:hd n with
 | none=>intro m hm;rw[Ql.mp hm];exact h
 | some x=>exact⟨by simp,x,h,fun b hb y hy=>.inl (Ql.mp hb)⟩
theorem Win.both{hd:Hd}{A B:List Int}{a b:Int}{x y:List Nat}(ha:Win hd A (some a))(hb:Win hd B (some b))(hx:hd a=some x)(hy:hd b=some y)(h:Btr x a y b):Win hd (A++B) (some a):=by
 obtain⟨a1,x',hx',a2⟩:=ha
 obtain⟨b1,y',hy',b2⟩:=hb
 rw[hx]at hx';cases hx'
 rw[hy]at hy';cases hy'
 refine⟨QG _ a1,x,hx,fun c hc z hz=>?_⟩
 rcases Qk.mp hc with hc|hc
 ·exact a2 c hc z hz
 ·rcases b2 c hc z hz with e|e
  ·subst e;rw[hy]at hz;cases hz;exact .inr h
  ·exact .inr (h.trans e)
theorem Win.both'{hd:Hd}{A B:List Int}{a b:Int}{x y:List Nat}(ha:Win hd A (some a))(hb:Win hd B (some b))(hx:hd a=some x)(hy:hd b=some y)(h:Btr y b x a):Win hd (A++B) (some b):=by
 have:=Win.both hb ha hy hx h
 obtain⟨h1,z,h2,h3⟩:=this
 exact⟨by rcases Qk.mp h1 with h|h<;>simp[h],z,h2,fun c hc=>h3 c (by rcases Qk.mp hc with h|h<;>simp[h])⟩
theorem Win.left{hd:Hd}{A B:List Int}{w:Option Int}(ha:Win hd A w)(hb:Win hd B none):Win hd (A++B) w:=by
 cases w with
 | none=>intro n hn;rcases Qk.mp hn with h|h;exact ha n h;exact hb n h
 | some a =>
  obtain⟨a1,x,hx,a2⟩:=ha
  refine⟨QG _ a1,x,hx,fun c hc z hz=>?_⟩
  rcases Qk.mp hc with hc|hc
  ·exact a2 c hc z hz
  ·rw[hb c hc]at hz;cases hz
theorem Win.right{hd:Hd}{A B:List Int}{w:Option Int}(ha:Win hd A none)(hb:Win hd B w):Win hd (A++B) w:=by
 cases w with
 | none=>intro n hn;rcases Qk.mp hn with h|h;exact ha n h;exact hb n h
 | some a =>
  obtain⟨a1,x,hx,a2⟩:=hb
  refine⟨Qn _ a1,x,hx,fun c hc z hz=>?_⟩
  rcases Qk.mp hc with hc|hc
  ·rw[ha c hc]at hz;cases hz
  ·exact a2 c hc z hz
theorem Win.ex(hd:Hd):∀N:List Int,N.Nodup→∃w,Win hd N w
 | [],_=>⟨none,Win.nil hd⟩
 | n::N,hn=>by
  obtain⟨n1,n2⟩:=QP.mp hn
  obtain⟨w,hw⟩:=Win.ex hd N n2
  have hs:Win hd [n] (if (hd n).isSome then some n else none):=Win.sing
  cases h:hd n with
  | none =>
   rw[h]at hs
   exact⟨w,Win.right (A:=[n]) hs hw⟩
  | some x =>
   rw[h]at hs
   cases w with
   | none=>exact⟨some n,Win.left (A:=[n]) hs hw⟩
   | some b =>
    obtain⟨b1,y,hy,b2⟩:=id hw
    have hne:n≠b:=fun e=>n1 (e ▸ b1)
    rcases Btr.total (x:=x) (y:=y) hne with e|e
    ·exact⟨some n,Win.both (A:=[n]) hs hw h hy e⟩
    ·exact⟨some b,Win.both' (A:=[n]) hs hw h hy e⟩
theorem Win.congr{hd hd':Hd}{N:List Int}(h:∀n∈N,hd' n=hd n){w:Option Int}(hw:Win hd N w):Win hd' N w:=by
 cases w with
 | none=>intro n hn;rw[h n hn];exact hw n hn
 | some a =>
  obtain⟨a1,x,hx,a2⟩:=hw
  exact⟨a1,x,by rw[h a a1];exact hx,fun b hb y hy=>a2 b hb y (by rw[← h b hb];exact hy)⟩
def lo(N:List Int):List Int:=N.take (mid N)
def up(N:List Int):List Int:=N.drop (mid N)
theorem Zby(N:List Int):lo N++up N=N:=List.take_append_drop _ _
theorem Zcx{N:List Int}(h:2≤N.length):(lo N).length<N.length∧1≤(lo N).length:=by
 unfold lo mid
 rw[Qx]
 omega
theorem Zdq{N:List Int}(h:2≤N.length):(up N).length<N.length∧1≤(up N).length:=by
 unfold up mid
 rw[QL]
 omega
def ZD(N:List Int):Int×Int:=(N.headD 0,N.getLastD 0)
abbrev StL:=List ((Int×Int)×Option (Addr×Int×Int))
def stV:Option (Addr×Int×Int)→V
 | none=>.non
 | some t=>.ref t.1
def kvS(s:StL):List (List Key×V):=s.map fun e=>([.inl e.1.1,.inl e.1.2],stV e.2)
def AtS(H:Hp)(s:StL):Prop:=∀e∈s,∀t,e.2=some t→H t.1=some (.tup [.int t.2.1,.int t.2.2])
def ZK(s:StL)(k:Int×Int):Option (Option (Addr×Int×Int)):=(s.find? fun e=>decide (e.1=k)).map (·.2)
def ZbO(s:StL)(k:Int×Int)(v:Option (Addr×Int×Int)):StL:=if s.any (fun e=>decide (e.1=k)) then s.map (fun e=>if e.1=k then (e.1,v) else e) else s++[(k,v)]
theorem AtS.mono{H H':Hp}{s:StL}(h:AtS H s)(k:∀a xs,H a=some (.tup xs)→H' a=some (.tup xs)):AtS H' s:=fun e he t ht=>k _ _ (h e he t ht)
theorem Zht{a b:Int×Int}(h:([.inl a.1,.inl a.2]:List Key)=[.inl b.1,.inl b.2]):a=b:=by
 obtain⟨a1,a2⟩:=a
 obtain⟨b1,b2⟩:=b
 injection h with h1 h2
 injection h2 with h2 _
 have e1:=Sum.inl.inj h1
 have e2:=Sum.inl.inj h2
 simp only at e1 e2
 rw[e1,e2]
theorem ZgX(k:Int×Int):∀s:StL,ZaU (kvS s) [.inl k.1,.inl k.2]=(ZK s k).map stV
 | []=>rfl
 | e::s=>by
  have ih:=ZgX k s
  by_cases h:e.1=k
  ·unfold kvS ZK
   rw[Qg,ZcG (by rw[h])]
   simp[List.find?_cons,h]
  ·unfold kvS at ih ⊢
   rw[Qg,ZcC (fun z=>h (Zht z)),ih]
   unfold ZK
   simp[List.find?_cons,h]
theorem Zk8(k:Int×Int)(s:StL):((kvS s).any fun kv=>decide (kv.1=([.inl k.1,.inl k.2]:List Key)))=s.any fun e=>decide (e.1=k):=by
 unfold kvS
 rw[List.any_map]
 congr 1
 funext e
 simp only[Function.comp]
 by_cases h:e.1=k
 ·rw[decide_eq_true h,decide_eq_true (by rw[h])]
 ·rw[decide_eq_false h,decide_eq_false (fun z=>h (Zht z))]
theorem Zek(s:StL)(k:Int×Int)(v:Option (Addr×Int×Int)):Zcg (kvS s) [.inl k.1,.inl k.2] (stV v)=kvS (ZbO s k v):=by
 unfold Zcg ZbO
 rw[Zk8]
 split
 ·unfold kvS
  rw[Qr,Qr]
  congr 1
  funext e
  simp only[Function.comp]
  by_cases h:e.1=k
  ·rw[if_pos h,if_pos (by rw[h])]
  ·rw[if_neg h,if_neg (fun z=>h (Zht z))]
 ·unfold kvS;rw[Qf];rfl
theorem Zjn(s:StL)(k:Int×Int)(v:Option (Addr×Int×Int)):(ZbO s k v).length≤s.length+1:=by
 unfold ZbO
 split
 ·rw[Qa];omega
 ·rw[Qo];exact Qd _
theorem ZaA(s:StL)(k j:Int×Int)(v:Option (Addr×Int×Int)):ZK (ZbO s k v) j=if j=k then some v else ZK s j:=by
 unfold ZbO
 split
 ·rename_i h
  induction s with
  | nil=>simp at h
  | cons e s ih =>
   unfold ZK at ih ⊢
   by_cases hek:e.1=k
   ·by_cases hj:j=k
    ·subst hj;simp[List.find?_cons,hek]
    ·have hj':¬ k=j:=fun z=>hj z.symm
     rw[Qg,if_pos hek,Q3 (by simp[hek,hj']),Q3 (by simp[hek,hj']),if_neg hj]
     by_cases ha:s.any (fun e=>decide (e.1=k))=true
     ·have:=ih ha;rw[if_neg hj]at this;exact this
     ·have:s.map (fun e=>if e.1=k then (e.1,v) else e)=s:=by
       rw[List.map_eq_iff]
       intro i
       cases hi:s[i]? with
       | none=>rfl
       | some x =>
        have hx:¬ x.1=k:=fun z=>ha (List.any_eq_true.mpr ⟨x,Qy hi,by simpa using z⟩)
        simp[hx]
      rw[this]
   ·have ha:s.any (fun e=>decide (e.1=k))=true:=by simpa [hek] using h
    rw[Qg,if_neg hek]
    by_cases hj:e.1=j
    ·have:¬ j=k:=fun z=>hek (hj.trans z)
     rw[List.find?_cons_of_pos (by simpa using hj),List.find?_cons_of_pos (by simpa using hj),if_neg this]
    ·rw[Q3 (by simpa using hj),Q3 (by simpa using hj)]
     exact ih ha
 ·rename_i h
  unfold ZK
  rw[List.find?_append]
  by_cases hj:j=k
  ·subst hj
   have:s.find? (fun e=>decide (e.1=j))=none:=by
    rw[List.find?_eq_none]
    intro x hx z
    exact h (List.any_eq_true.mpr ⟨x,hx,z⟩)
   rw[this];simp
  ·have hj':¬ k=j:=fun z=>hj z.symm
   rw[if_neg hj]
   simp[hj']
theorem AtS.put{H:Hp}{s:StL}{k:Int×Int}{v:Option (Addr×Int×Int)}(h:AtS H s)(hv:∀t,v=some t→H t.1=some (.tup [.int t.2.1,.int t.2.2])):AtS H (ZbO s k v):=by
 unfold ZbO
 split
 ·intro e he t ht
  obtain⟨x,hx,rfl⟩:=Qu.mp he
  split at ht
  ·exact hv t ht
  ·exact h x hx t ht
 ·intro e he t ht
  rcases Qk.mp he with he|he
  ·exact h e he t ht
  ·rw[Ql.mp he]at ht;exact hv t ht
theorem Zfu{s:StL}{k:Int×Int}{v:Option (Addr×Int×Int)}(h:ZK s k=some v):(k,v)∈s:=by
 unfold ZK at h
 obtain⟨e,he,rfl⟩:=Qad.mp h
 have h1:=List.find?_some he
 have:e.1=k:=by simpa using h1
 rw[← this];exact List.mem_of_find?_eq_some he
def Zn8(hd:Hd)(s:StL)(N:List Int):Prop :=
 (∀a b x y,Win hd (lo N) (some a)→Win hd (up N) (some b)→hd a=some x→hd b=some y→∃t,ZK s (ZD N)=some (some (t,if ZF x y<0∨(ZF x y=0∧a<b) then b else a,((lcp x y:Nat):Int)))) ∧
 ((Win hd (lo N) none∨Win hd (up N) none)→ZK s (ZD N)=none∨ZK s (ZD N)=some none)
def ZcS(hd:Hd)(s:StL):Nat→List Int→Prop
 | 0,_=>True
 | n+1,N=>2≤N.length→ZcS hd s n (lo N)∧ZcS hd s n (up N)∧Zn8 hd s N
def ZdJ:Nat→List Int→Int×Int→Prop
 | 0,_,_=>False
 | n+1,N,k=>2≤N.length∧(ZdJ n (lo N) k∨ZdJ n (up N) k∨k=ZD N)
abbrev Zab(N:List Int):Prop:=N.Pairwise (·<·)
theorem Zc2{N:List Int}(h:Zab N):Zab (lo N):=h.sublist (List.take_sublist _ _)
theorem ZcZ{N:List Int}(h:Zab N):Zab (up N):=h.sublist (List.drop_sublist _ _)
theorem ZcX{N:List Int}(h:Zab N):N.Nodup:=h.imp fun {a b} hab e=>by omega
theorem ZA{N:List Int}(h:Zab N){a b:Int}(ha:a∈lo N)(hb:b∈up N):a<b:=by
 have:Zab (lo N++up N):=by rw[Zby];exact h
 exact(List.pairwise_append.mp this).2.2 a ha b hb
theorem Zbs{N:List Int}(h:N≠[]):N.headD 0∈N:=by
 cases N with
 | nil=>exact absurd rfl h
 | cons a r=>simp
theorem Zbp{N:List Int}(h:N≠[]):N.getLastD 0∈N:=by
 rw[QY,Qaa h]
 exact List.getLast_mem h
theorem Z2{N:List Int}(h:1≤N.length):N≠[]:=fun z=>by rw[z]at h;simp at h
theorem ZdM{N:List Int}(h:2≤N.length):(ZD N).2=(up N).getLastD 0:=by
 have hu:=Z2 (Zdq h).2
 show N.getLastD 0=_
 rw[QY,QY]
 conv=>lhs;rw[← Zby N]
 rw[List.getLast?_append,Qaa hu];rfl
theorem Zd5{N:List Int}(h:2≤N.length):(ZD N).1=(lo N).headD 0:=by
 have hl:=Z2 (Zcx h).2
 show N.headD 0=_
 conv=>lhs;rw[← Zby N]
 cases hc:lo N with
 | nil=>exact absurd hc hl
 | cons a r=>rfl
theorem Zc0:∀ (n:Nat) (N:List Int) (k:Int×Int),ZdJ n N k→k.1∈N∧k.2∈N
 | 0,_,_,h=>h.elim
 | n+1,N,k,⟨h2,h⟩=>by
  rcases h with h|h|rfl
  ·have:=Zc0 n _ k h
   rw[← Zby N]
   exact⟨QG _ this.1,QG _ this.2⟩
  ·have:=Zc0 n _ k h
   rw[← Zby N]
   exact⟨Qn _ this.1,Qn _ this.2⟩
  ·have hn:N≠[]:=Z2 (by omega)
   exact⟨Zbs hn,Zbp hn⟩
theorem Zf5{N:List Int}(hr:Zab N)(h2:2≤N.length){n:Nat}{k:Int×Int}(h:ZdJ n (lo N) k):k≠ZD N∧∀m,¬ ZdJ m (up N) k:=by
 have:=Zc0 n _ k h
 refine⟨fun z=>?_,fun m hm=>?_⟩
 ·have h1:=ZdM h2
  rw[z,h1]at this
  have:=ZA hr this.2 (Zbp (Z2 (Zdq h2).2))
  omega
 ·have:=ZA hr this.1 (Zc0 m _ k hm).1
  omega
theorem ZfQ{N:List Int}(hr:Zab N)(h2:2≤N.length){n:Nat}{k:Int×Int}(h:ZdJ n (up N) k):k≠ZD N∧∀m,¬ ZdJ m (lo N) k:=by
 have:=Zc0 n _ k h
 refine⟨fun z=>?_,fun m hm=>?_⟩
 ·have h1:=Zd5 h2
  rw[z,h1]at this
  have:=ZA hr (Zbs (Z2 (Zcx h2).2)) this.1
  omega
 ·have:=ZA hr (Zc0 m _ k hm).1 this.1
  omega
theorem ZcS.congr{hd hd':Hd}{s s':StL}:∀ (n:Nat) (N:List Int),(∀m∈N,hd' m=hd m)→(∀k,ZdJ n N k→ZK s' k=ZK s k)→ZcS hd s n N→ZcS hd' s' n N
 | 0,_,_,_,_=>True.intro
 | n+1,N,hh,hk,h=>fun h2=>by
  obtain⟨a,b,c1,c2⟩:=h h2
  have hl:∀m∈lo N,hd' m=hd m:=fun m hm=>hh m (by rw[← Zby N];exact QG _ hm)
  have hu:∀m∈up N,hd' m=hd m:=fun m hm=>hh m (by rw[← Zby N];exact Qn _ hm)
  have hl':∀m∈lo N,hd m=hd' m:=fun m hm=>(hl m hm).symm
  have hu':∀m∈up N,hd m=hd' m:=fun m hm=>(hu m hm).symm
  refine⟨ZcS.congr n _ hl (fun k hkk=>hk k ⟨h2,.inl hkk⟩) a,ZcS.congr n _ hu (fun k hkk=>hk k ⟨h2,.inr (.inl hkk)⟩) b,fun a b x y ha hb hx hy=>?_,fun hw=>?_⟩
  ·rw[hk _ ⟨h2,.inr (.inr rfl)⟩]
   exact c1 a b x y (Win.congr hl' ha) (Win.congr hu' hb) (by rw[← hl a ha.1];exact hx) (by rw[← hu b hb.1];exact hy)
  ·rw[hk _ ⟨h2,.inr (.inr rfl)⟩]
   refine c2 ?_
   rcases hw with hw|hw
   ·exact .inl (Win.congr hl' hw)
   ·exact .inr (Win.congr hu' hw)
inductive ZaX (hd:Hd):Nat→List Int→Int→Int→Prop
 | few {n:Nat} {N:List Int}:N.length<2→ZaX hd n N 0 0
 | none {n:Nat} {N:List Int} {k l k' l':Int}:2≤N.length→ZaX hd n (lo N) k l→ZaX hd n (up N) k' l'→(Win hd (lo N) none∨Win hd (up N) none)→ZaX hd (n+1) N (k+k') (l+l')
 | both {n:Nat} {N:List Int} {k l k' l':Int} {a b:Int} {x y:List Nat}:2≤N.length→ZaX hd n (lo N) k l→ZaX hd n (up N) k' l'→Win hd (lo N) (some a)→Win hd (up N) (some b)→hd a=some x→hd b=some y→ZaX hd (n+1) N (k+k'+1) (l+l'+(lcp x y:Nat)+1)
theorem ZaX.one{hd:Hd}:∀ {n m:Nat} {N:List Int} {k l k' l':Int},ZaX hd n N k l→ZaX hd m N k' l'→k=k'∧l=l'
 | _,_,_,_,_,_,_,.few h,p=>by
  cases p with
  | few _=>exact⟨rfl,rfl⟩
  | none h2 _ _ _=>omega
  | both h2 _ _ _ _ _ _=>omega
 | _,_,_,_,_,_,_,.none h2 a b hw,p=>by
  cases p with
  | few h=>omega
  | none _ a' b' _ =>
   obtain⟨e1,e2⟩:=ZaX.one a a'
   obtain⟨e3,e4⟩:=ZaX.one b b'
   exact⟨by omega,by omega⟩
  | both _ a' b' wa wb hx hy =>
   rcases hw with hw|hw
   ·exact nomatch hw.one wa
   ·exact nomatch hw.one wb
 | _,_,_,_,_,_,_,.both h2 a b wa wb hx hy,p=>by
  cases p with
  | few h=>omega
  | none _ a' b' hw =>
   rcases hw with hw|hw
   ·exact nomatch hw.one wa
   ·exact nomatch hw.one wb
  | both _ a' b' wa' wb' hx' hy' =>
   obtain⟨e1,e2⟩:=ZaX.one a a'
   obtain⟨e3,e4⟩:=ZaX.one b b'
   have ea:=Qe (wa.one wa')
   have eb:=Qe (wb.one wb')
   subst ea eb
   rw[hx]at hx';cases hx'
   rw[hy]at hy';cases hy'
   exact⟨by omega,by omega⟩
def kk(e:Str×Int):List Key:=[.inr e.1,.inl e.2]
def oV:Option Str→V
 | none=>.non
 | some s=>.str s
def ZbL:Option Int→V
 | none=>.non
 | some a=>.int a
def kvH(E:List (Int×Option Str)):List (Key×V):=E.map fun e=>(.inl e.1,oV e.2)
def lk(E:List (Int×Option Str))(n:Int):Option Str:=(E.find? fun e=>decide (e.1=n)).bind (·.2)
def hdE(E:List (Int×Option Str)):Hd:=fun n=>(lk E n).map cds
def prs(E:List (Int×Option Str))(N:List Int):List (Str×Int):=N.filterMap fun n=>(lk E n).map fun s=>(s,n)
def Zog:Key→PyData
 | .inl i=>.int i
 | .inr s=>.str s
def tD(k:List Key):PyData:=.tuple (k.map Zog)
structure Hds (H:Hp) (D:Addr) (E:List (Int×Option Str)):Prop where
 at':H D=some (.dK (kvH E))
 nd:(E.map (·.1)).Nodup
 ok:∀e∈E,∀s,e.2=some s→s.length≤1000∧AZ s
def spLeast(K:PySem.W.Frag):Sp:=fun vs H Q _=>∃ (D l:Addr) (E:List (Int×Option Str)) (N:List Int),vs=[.ref D,.ref l]∧Hds H D E∧SqL K H l (N.map V.int)∧N.length≤60∧(∀n∈N,n∈E.map (·.1)) ∧
 ∀ (v:Option Int) (H':Hp),Win (hdE E) N v→Zx H H'→Q (ZbL v) H'
theorem Zl7(N:List Int):Zc4 N=lo N:=rfl
theorem Zmw(N:List Int):Ze4 N=up N:=rfl
def spFP(K:PySem.W.Frag)(n:Nat):Sp:=fun vs H Q _=>∃ (D l:Addr) (E:List (Int×Option Str)) (N:List Int),vs=[.ref D,.ref l]∧Hds H D E∧SqL K H l (N.map V.int)∧N.length≤60∧0<n∧N.length≤2 ^ (n-1)∧(∀m∈N,m∈E.map (·.1)) ∧
 ∀ (t:Addr) (k q:Int) (H':Hp),ZaX (hdE E) n N k q→H t=none→H' t=some (.tup [.int k,.int q])→Zx H H'→Q (.ref t) H'
abbrev ZaI:=Int×Addr×List Str×Nat
def kvR(L:List ZaI):List (Key×V):=L.map fun e=>(.inl e.1,.ref e.2.1)
def kvG(L:List ZaI):List (Key×V):=L.map fun e=>(.inl e.1,.int (e.2.2.2:Int))
def ZnX(ra ga:Addr)(nb li lo:Int):List (Key×V):=[(.inr "rows",.ref ra),(.inr "gone",.ref ga),(.inr "number",.int nb),(.inr "likenings",.int li),(.inr "looks",.int lo)]
structure Own (H:Hp) (o ra ga:Addr) (L:List ZaI) (nb li lo:Int):Prop where
 at':H o=some (.dK (ZnX ra ga nb li lo))
 rows:H ra=some (.dK (kvR L))
 gone:H ga=some (.dK (kvG L))
 nd:(L.map (·.1)).Nodup
 few:L.length≤60
 lst:∀e∈L,H e.2.1=some (.lst (e.2.2.1.map V.str))∧e.2.2.1.length≤100∧e.2.2.2≤e.2.2.1.length∧∀s∈e.2.2.1,s.length≤1000∧AZ s
theorem Zmf{ns:List Int}(h:ns.Nodup):(ns.map (Sum.inl:Int→Key)).Nodup:=List.Pairwise.map _ (fun a b hab z=>hab (Sum.inl.inj z)) h
theorem Zbg.k'{H:Hp}{a:Addr}{kvs:List (Key×V)}{k:Key}{r:Option V}(e:H a=some (.dK kvs))(h:ZaU kvs k=r):Zbg H a (kV k) r:=by rw[← h];exact Zbg.k e
structure Zop (L:List ZaI) (E:List (Int×Option Str)):Prop where
 per:(E.map (·.1)).Perm (L.map (·.1))
 up:(E.map (·.1)).Pairwise (·<·)
 hd:∀e∈L,(e.1,e.2.2.1[e.2.2.2]?)∈E
def spHeads:Sp:=fun vs H Q _=>∃ (o ra ga:Addr) (L:List ZaI) (nb li lo:Int),vs=[.ref o]∧Own H o ra ga L nb li lo ∧
 ∀ (D:Addr) (E:List (Int×Option Str)) (H':Hp),H D=none→Hds H' D E→Zop L E→Zx H H'→Q (.ref D) H'
def hdL(L:List ZaI):Hd:=fun n=>((L.find? fun e=>decide (e.1=n)).bind fun e=>e.2.2.1[e.2.2.2]?).map cds
theorem Zhp:∀ {L:List ZaI},(L.map (·.1)).Nodup→∀ {e:ZaI},e∈L→hdL L e.1=(e.2.2.1[e.2.2.2]?).map cds
 | [],_,_,h=>by cases h
 | x::r,nd,e,h=>by
  rw[Qg,QP]at nd
  unfold hdL
  rw[QZ]
  rcases QE.mp h with rfl|h
  ·rw[decide_eq_true rfl];rfl
  ·rw[decide_eq_false (fun z:x.1=e.1=>nd.1 (by rw[z];exact Qc (f:=fun x:ZaI=>x.1) h))]
   exact Zhp nd.2 h
theorem Win.perm{hd:Hd}{N M:List Int}{v:Option Int}(h:Win hd N v)(p:N.Perm M):Win hd M v:=by
 cases v with
 | none=>exact fun n hn=>h n (p.mem_iff.mpr hn)
 | some a=>obtain⟨ha,x,hx,hb⟩:=h;exact⟨p.mem_iff.mp ha,x,hx,fun b hbm=>hb b (p.mem_iff.mpr hbm)⟩
def Zik(L:List ZaI)(H:Hp)(x:V):Prop:=(x=.non∧Win (hdL L) (L.map (·.1)) none)∨∃ (t:Addr) (e:ZaI) (z:Str),x=.ref t∧e∈L∧e.2.2.1[e.2.2.2]? = some z∧H t=some (.tup [.int e.1,.int (e.2.2.2:Int),.str z])∧Win (hdL L) (L.map (·.1)) (some e.1)
def spLCom:Sp:=fun vs H Q _=>∃ (o ra ga:Addr) (L:List ZaI) (nb li lo:Int),vs=[.ref o]∧Own H o ra ga L nb li lo∧∀ (x:V) (H':Hp),Zik L H' x→Zx H H'→Q x H'
def spLPlay:Sp:=fun vs H Q _=>∃ (o ra ga:Addr) (L:List ZaI) (nb li lo:Int),vs=[.ref o]∧Own H o ra ga L nb li lo∧(L.map (·.1)).Pairwise (·<·)∧(∀e∈L,e.2.1≠o) ∧
 ∀ (k q':Int) (H':Hp),ZaX (hdL L) 8 (L.map (·.1)) k q'→Own H' o ra ga L nb (li+k) (lo+q')→But o H H'→Q .non H'
def ZlH(L:List ZaI):List Int:=L.map fun e=>(e.2.2.1.length:Int)-(e.2.2.2:Int)
def spLLeft:Sp:=fun vs H Q _=>∃ (o ra ga:Addr) (L:List ZaI) (nb li lo:Int),vs=[.ref o]∧Own H o ra ga L nb li lo∧∀H':Hp,Zx H H'→Q (.int (ZlH L).sum) H'
structure Zbi (H:Hp) (r:Addr) (rs:List (Addr×List Str)):Prop where
 at':H r=some (.lst (rs.map fun x=>V.ref x.1))
 few:rs.length≤60
 lst:∀x∈rs,H x.1=some (.lst (x.2.map V.str))∧x.2.length≤100∧∀s∈x.2,s.length≤1000∧AZ s
theorem Zbi.same{H H':Hp}{r:Addr}{rs:List (Addr×List Str)}(h:Zbi H r rs)(s:Zx H H'):Zbi H' r rs:=⟨s _ _ h.at',h.few,fun x hx=>let ⟨a,b⟩:=h.lst x hx;⟨s _ _ a,b⟩⟩
def Zoi(L:List ZaI)(rs:List (Addr×List Str)):Prop:=L.map (·.1)=Zde 0 rs.length∧L.map (fun e=>e.2.2)=rs.map fun x=>(x.2,0)
theorem Zj8(n:Nat):(Zde 0 n).Pairwise (·<·):=by
 unfold Zde
 exact List.Pairwise.map _ (fun a b h=>by omega) (List.pairwise_lt_range)
def spLWorld:Sp:=fun vs H Q _=>∃ (r:Addr) (rs:List (Addr×List Str)),vs=[.ref r]∧Zbi H r rs ∧
 ∀ (o ra ga:Addr) (L:List ZaI) (k q':Int) (H':Hp),H o=none→H ra=none→H ga=none→ga≠ra→(∀e∈L,H e.2.1=none∧e.2.1≠o)→Zoi L rs→Own H' o ra ga L (rs.length:Int) k q'→ZaX (hdL L) 8 (L.map (·.1)) k q'→Zx H H'→Q (.ref o) H'
def ZfW:Sp:=fun vs H Q _=>∃ (p l:Addr) (c most:Int) (ss:List Str),vs=[.ref p,.ref l,.int most]∧Zag H p c∧c<2 ^ 40∧0≤most∧most≤60∧H l=some (.lst (ss.map V.str))∧1≤ss.length∧ss.length≤4∧(∀s∈ss,s.length≤24∧AZ s) ∧
 ∀ (r:Addr) (ts:List Str) (c':Int) (H':Hp),H r=none→H' r=some (.lst (ts.map V.str))→(ts.length:Int)≤most→sortedS ts=true→(∀s∈ts,s.length≤28∧AZ s)→Zag H' p c'→c≤c'→c'≤c+600→But p H H'→Q (.ref r) H'
theorem ZkU(T:Zak K mg cRow cMerge)(f_l_keys:Df P w K mg base 4 "_law_keys" ["_law_left_here", "_law_stems_here", "_law_most"] ZhB):Df P w K mg base 5 "_law_row" ["_law_left_here", "_law_stems_here", "_law_most"] ZfW:=by
 refine T.t_l_row.df Zi5 (fun vs H Q E h=>?_) (fun cdv f A outer s H vs Q E hr h=>?_)
 ·obtain⟨p,l,c,most,ss,rfl,_⟩:=h
  rfl
 obtain⟨p,l,c,most,ss,rfl,hL,hc,h0,h60,hl,h1,h4,h24,q⟩:=h
 refine⟨_,#[Zi,#[Zs,#[Zw,(Zom K),(by rfl),T.b.n_sorted,boot_sorted,#[Za,#[Zz,f_l_keys,hr,#[Za,‹0›,#[Za,‹1›,#[Za,‹2›,#[Zf]]]],(by rfl)],#[Zf]]]]],?_⟩
 refine⟨_,rfl,_,rfl,_,rfl,p,l,c,most,ss,rfl,hL,hc,h0,h60,hl,h1,h4,h24,fun r ts c' H1 hr0 hr1 hts h28 L1 a1 a2 B1=>?_⟩
 refine⟨r,ts,rfl,SqL.of hr1,by omega,fun l2 ts' hl2 hper hsrt=>?_⟩
 obtain⟨ob,hob⟩:=hL.here
 have hl20:H l2=none:=by
  cases e:H l2 with
  | none=>rfl
  | some x =>
   by_cases z:l2=p
   ·obtain⟨o1,ho1⟩:=L1.here;rw[z,ho1]at hl2;cases hl2
   ·have:=B1 l2 x e z;rw[this]at hl2;cases hl2
 exact q l2 ts' c' _ hl20 Zg (by rw[hper.length_eq];exact hts) hsrt (fun s hs=>h28 s (hper.mem_iff.mp hs)) (L1.new hl2) a1 a2 (B1.trans (But.same (Zl hl2 _)))
def ZhJ:Sp:=fun vs H Q _=>∃ (p:Addr) (c:Int),vs=[.ref p]∧Zag H p c∧c<2 ^ 30 ∧
 ∀ (r:Addr) (rs:List (Addr×List Str)) (c':Int) (H':Hp),H r=none→Zbi H' r rs→(∀x∈rs,H x.1=none∧x.1≠r∧x.1≠p∧sortedS x.2=true∧x.2.length≤60∧∀s∈x.2,s.length≤28)→rs.length≤12→Zag H' p c'→c≤c'→c'≤c+10000→But p H H'→Q (.ref r) H'
theorem ZjB(T:Zak K mg cRow cMerge)(f_l_pick:Df P w K mg base 2 "_law_pick" ["_law_left_here", "_law_many_here"] ZcT)(f_l_stems:Df P w K mg base 3 "_law_stems" ["_law_left_here"] Zeh)(f_l_many:Df P w K mg base 3 "_law_many" ["_law_left_here"] Zha)(f_l_row:Df P w K mg base 5 "_law_row" ["_law_left_here", "_law_stems_here", "_law_most"] ZfW):Df P w K mg base 6 "_law_rows" ["_law_left_here"] ZhJ:=by
 refine T.t_l_rows.df ZdK (fun vs H Q E h=>?_) (fun cdv f A outer s H vs Q E hr h=>?_)
 ·obtain⟨p,c,rfl,_⟩:=h
  rfl
 obtain⟨p,c,rfl,hL,c1,q⟩:=h
 refine⟨_,#[Ze,#[Zv,1,ZdK.nd,(Or.inr rfl),#[Zz,f_l_stems,hr,#[Za,#[pv,0,(Or.inr (Or.inl rfl))],#[Zf]],(by rfl)]],#[Ze,#[Zv,2,ZdK.nd,(Or.inr rfl),#[ZC,(ixL K),#[Zbz,#[Za,#[Zh],#[Za,#[Zh],#[Za,#[Zh],#[Za,#[Zh],#[Za,#[Zh],#[Za,#[Zh],#[Za,#[Zh],#[Za,#[Zh],#[Zf]]]]]]]]]],#[Zz,f_l_pick,hr,#[Za,#[pv,0,(Or.inr (Or.inl rfl))],#[Za,#[Zh],#[Zf]]],(by rfl)]]],#[Zi,#[Zs,#[ZbD,ZiG,#[ZbN,T.b.n_range,#[Za,#[Zz,f_l_many,hr,#[Za,#[pv,0,(Or.inr (Or.inl rfl))],#[Zf]],(by rfl)],#[Zf]]],(fun _ _ _ _=>#[cg,3,ZiG]),(fun _ _ _ _=>(@ZbG _)),(fun _ _ _ _=>#[Zz,f_l_row,hr,#[Za,#[cv,0,ZiG],#[Za,#[cv,1,ZiG],#[Za,#[cv,2,ZiG],#[Zf]]]],(ZcY ZiG rfl (by decide +kernel))])]]]]],?_⟩
 have c0:=hL.ge
 refine⟨_,rfl,p,c,rfl,hL,by omega,fun l ss c2 H1 hl0 hl1 n1 n4 h24 L1 a1 a2 B1=>?_⟩
 have npl:p≠l:=by obtain⟨o,ho⟩:=hL.here;exact Zb ho hl0
 refine⟨(by show 8≤sizeLine;decide),fun e he=>?_⟩
 have npe:p≠e:=by obtain⟨o,ho⟩:=L1.here;exact Zb ho he
 refine⟨_,rfl,p,c2,_,rfl,L1.new he,by omega,by decide,by decide,fun i H2 i0 i1 L2 B2=>?_⟩
 obtain⟨m,hm,hat⟩:=Zig (ns:=[5,5,4,6,3,7,5,20]) i0 i1
 have he2:H2 e=some (.lst (([5,5,4,6,3,7,5,20]:List Int).map V.int)):=B2 e _ Zg npe.symm
 have hm1:0≤m∧m≤20:=by
  simp only[List.mem_cons,List.not_mem_nil,or_false]at hm
  omega
 have hl2:H2 l=some (.lst (ss.map V.str)):=B2 l _ (Zl he _ _ _ hl1) npl.symm
 have B02:But p H H2:=(B1.trans (But.same (Zl he _))).trans B2
 refine⟨e,_,_,_,rfl,rfl,SqL.of he2,hat,?_⟩
 refine⟨_,rfl,p,_,rfl,L2,by omega,fun mn c3 H3 m0 m12 L3 a3 a4 B3=>?_⟩
 have hl3:=B3 l _ hl2 npl.symm
 have B03:=B02.trans B3
 refine⟨_,rfl,by omega,by omega,fun D hD=>?_⟩
 have hD0:H D=none:=by
  cases e':H D with
  | none=>rfl
  | some x =>
   by_cases z:D=p
   ·obtain⟨o1,ho1⟩:=L3.here;rw[z,ho1]at hD;cases hD
   ·have:=B03 D x e' z;rw[this]at hD;cases hD
 have npD:p≠D:=by obtain⟨o,ho⟩:=L3.here;exact Zb ho hD
 have nlD:l≠D:=Zb hl3 hD
 refine Zdl (fun i zs σ H4=>(∃v:Option V,σ=[some (.ref p),some (.ref l),some (.int m),v])∧(∃rs:List (Addr×List Str),zs=rs.map (fun x=>V.ref x.1)∧rs.length=i∧∀x∈rs,H4 x.1=some (.lst (x.2.map V.str))∧H x.1=none∧x.1≠D∧x.1≠p∧sortedS x.2=true∧x.2.length≤60∧∀s∈x.2,s.length≤28∧AZ s)∧H4 D=some (.lst zs)∧(∃c4:Int,Zag H4 p c4∧c3≤c4∧c4≤c3+600*i)∧But p H3 H4) ?_ ?_ ?_
 ·exact⟨⟨none,rfl⟩,⟨[],rfl,rfl,(fun x h=>by cases h)⟩,Zg,⟨c3,L3.new hD,by omega,by omega⟩,But.same (Zl hD _)⟩
 ·rintro i zs σ H4 hi ⟨⟨v,rfl⟩,⟨rs,rfl,hrl,hrs⟩,hD4,⟨c4,L4,b1,b2⟩,B4⟩
  have hi12:i<12:=by omega
  refine⟨_,rfl,_,rfl,_,rfl,p,l,c4,m,ss,rfl,L4,by omega,hm1.1,by omega,B4 l _ hl3 npl.symm,n1,n4,h24,fun r ts c5 H5 hr0 hr5 hts hsrt h28 L5 d1 d2 B5=>?_⟩
  have hD5:=B5 D _ hD4 npD.symm
  have nDr:D≠r:=Zb hD4 hr0
  have npr:p≠r:=by obtain⟨o,ho⟩:=L4.here;exact Zb ho hr0
  have hr00:H r=none:=by
   cases e':H r with
   | none=>rfl
   | some x=>have:=B4 r x (B03 r x e' npr.symm) npr.symm;rw[this]at hr0;cases hr0
  refine⟨hD5,(by rw[Qa];exact ZW (by omega)),⟨_,rfl⟩,⟨rs++[(r,ts)],by rw[Qf];rfl,by rw[Qo,QA];omega,fun x hx=>?_⟩,Zg,⟨c5,L5.at npD,by omega,by omega⟩,fun b x hb nb=>?_⟩
  ·rcases Qk.mp hx with hx|hx
   ·obtain⟨g1,g2,g3,g4,g5⟩:=hrs x hx
    exact⟨by rw[Zc g3];exact B5 _ _ g1 g4,g2,g3,g4,g5⟩
   ·rw[Ql.mp hx]
    exact⟨by rw[Zc nDr.symm];exact hr5,hr00,nDr.symm,npr.symm,hsrt,by show ts.length≤60;omega,h28⟩
  ·rw[Zc (Zb hb hD)];exact B5 b x (B4 b x hb nb) nb
 rintro zs σ H4 ⟨⟨v,rfl⟩,⟨rs,rfl,hrl,hrs⟩,hD4,⟨c4,L4,b1,b2⟩,B4⟩
 refine q D rs c4 H4 hD0 ⟨hD4,by omega,fun x hx=>?_⟩ (fun x hx=>?_) (by omega) L4 (by omega) (by omega) (B03.trans B4)
 ·obtain⟨g1,_,_,_,_,g6,g7⟩:=hrs x hx
  exact⟨g1,by omega,fun s hs=>⟨by have:=(g7 s hs).1;omega,(g7 s hs).2⟩⟩
 ·obtain⟨_,g2,g3,g4,g5,g6,g7⟩:=hrs x hx
  exact⟨g2,g3,g4,g5,g6,fun s hs=>(g7 s hs).1⟩
def Zdw(K:PySem.W.Frag):Sp:=fun vs H Q _=>∃ (n:Int) (a:Addr) (ss:List Str),vs=[.int n,.ref a]∧SqL K H a (ss.map V.str)∧ss.length≤200∧(∀s∈ss,s.length≤1000)∧Zgk ss .non∧∀H',Zx H H'→Q .non H'
theorem Zit(T:Zak K mg cRow cMerge)(f_first_break:Df P w K mg base 4 "first_break" ["keys"] (Zjw K)):Df P w K mg base 5 "refuse_break" ["number", "keys"] (Zdw K):=by
 refine T.t_refuse_break.df Zco (fun vs H Q E h=>?_) (fun cdv f A outer s H vs Q E hr h=>?_)
 ·obtain⟨n,a,ss,rfl,_⟩:=h
  rfl
 obtain⟨n,a,ss,rfl,hS,h200,h1000,hnon,q⟩:=h
 refine⟨_,#[Ze,#[Zv,2,Zco.nd,(Or.inl rfl),#[Zz,f_first_break,hr,#[Za,‹1›,#[Zf]],(by rfl)]],#[Zi,#[Zat,#[Zo,Zel,‹2›,#[Zae],(Zt _)],#[Zi,(@Zio _ _)],#[ZM]]]],?_⟩
 refine⟨_,rfl,a,ss,rfl,hS,h200,h1000,fun v H1 hb s1=>?_⟩
 have e:=ZkJ hb hnon
 subst e
 exact⟨_,rfl,rfl,_,rfl,ZdW (q H1 s1)⟩
structure Zu where
 n:Int
 p:Addr
 k:Addr
 f:Addr
 ss:List Str
 g:Nat
def toL(e:Zu):ZaI:=(e.n,e.p,e.ss,e.g)
def hdM(L:List Zu):Hd:=hdL (L.map toL)
def Zr(L:List Zu):List Int:=L.map (·.n)
theorem Zb6(L:List Zu):(L.map toL).map (·.1)=Zr L:=by rw[Qr];rfl
def kvM(L:List Zu):List (Key×V):=L.map fun e=>(.inl e.n,.ref e.p)
theorem Zdm{L:List Zu}(nd:(Zr L).Nodup){e:Zu}(he:e∈L):hdM L e.n=(e.ss[e.g]?).map cds :=
 Zhp (L:=L.map toL) (by rw[Zb6];exact nd) (Qc (f:=toL) he)
theorem ZjU(L:List Zu):(kvM L).map (·.1)=(Zr L).map (Sum.inl:Int→Key):=by unfold kvM Zr;rw[Qr,Qr];rfl
theorem Ze0{L:List Zu}(nd:(Zr L).Nodup){e:Zu}(he:e∈L):ZaU (kvM L) (.inl e.n)=some (.ref e.p):=Zgj (by rw[ZjU];exact Zmf nd) (Qc (f:=fun e:Zu=>((.inl e.n:Key),V.ref e.p)) he)
theorem ZcL{L:List Zu}{n:Int}(h:n∈Zr L):∃e∈L,e.n=n:=Qu.mp h
def mgF(rd:Addr)(nb li lo:Int)(sd:Addr)(best:V):List (Str×V):=[("rows",.ref rd),("next_number",.int nb),("likened",.int li),("looked",.int lo),("stays",.ref sd),("best",best)]
theorem Zmt:¬ (("rows" : Str) = "next_number"):=by decide +kernel
theorem Zl4:¬ (("rows" : Str) = "likened"):=by decide +kernel
theorem ZmW:¬ (("rows" : Str) = "looked"):=by decide +kernel
theorem ZlQ:¬ (("rows" : Str) = "stays"):=by decide +kernel
theorem ZmT:¬ (("rows" : Str) = "best"):=by decide +kernel
theorem Zmq:¬ (("next_number" : Str) = "likened"):=by decide +kernel
theorem ZlP:¬ (("next_number" : Str) = "looked"):=by decide +kernel
theorem Zl2:¬ (("next_number" : Str) = "stays"):=by decide +kernel
theorem ZmD:¬ (("next_number" : Str) = "best"):=by decide +kernel
theorem Zmh:¬ (("likened" : Str) = "looked"):=by decide +kernel
theorem ZmF:¬ (("likened" : Str) = "stays"):=by decide +kernel
theorem ZmB:¬ (("likened" : Str) = "best"):=by decide +kernel
theorem Zmn:¬ (("looked" : Str) = "stays"):=by decide +kernel
theorem ZlZ:¬ (("looked" : Str) = "best"):=by decide +kernel
theorem ZmQ:¬ (("stays" : Str) = "best"):=by decide +kernel
theorem Zb8(f:Str)(v x:V)(r:List (Str×V)):Zk f v ((f,x)::r)=(f,v)::r:=by unfold Zk;rw[if_pos rfl]
theorem Zp{f g:Str}(h:¬ g=f)(v x:V)(r:List (Str×V)):Zk f v ((g,x)::r)=(g,x)::Zk f v r:=by
 show (if g=f then (g,v)::r else (g,x)::Zk f v r)=_
 rw[if_neg h]
theorem ZaV(f:Str)(v:V):Zk f v []=[(f,v)]:=rfl
theorem ZaR(rd:Addr)(nb li lo:Int)(sd:Addr)(best:V):mgF rd nb li lo sd best=Zk "best" best (Zk "stays" (.ref sd) (Zk "looked" (.int lo) (Zk "likened" (.int li) (Zk "next_number" (.int nb) (Zk "rows" (.ref rd) []))))):=by
 rw[ZaV,Zp Zmt,ZaV,Zp Zl4,Zp Zmq,ZaV,Zp ZmW,Zp ZlP,Zp Zmh,ZaV,Zp ZlQ,Zp Zl2,Zp ZmF,Zp Zmn,ZaV,Zp ZmT,Zp ZmD,Zp ZmB,Zp ZlZ,Zp ZmQ,ZaV]
 rfl
section
variable (rd:Addr) (nb li lo:Int) (sd:Addr) (best:V)
theorem ZaH:(mgF rd nb li lo sd best).lookup ("rows" : Str)=some (.ref rd):=by
 rw[ZaR,Zj,if_neg ZmT,Zj,if_neg ZlQ,Zj,if_neg ZmW,Zj,if_neg Zl4,Zj,if_neg Zmt,Zj,if_pos rfl]
theorem ZeU:(mgF rd nb li lo sd best).lookup ("next_number" : Str)=some (.int nb):=by
 rw[ZaR,Zj,if_neg ZmD,Zj,if_neg Zl2,Zj,if_neg ZlP,Zj,if_neg Zmq,Zj,if_pos rfl]
theorem ZcF:(mgF rd nb li lo sd best).lookup ("likened" : Str)=some (.int li):=by
 rw[ZaR,Zj,if_neg ZmB,Zj,if_neg ZmF,Zj,if_neg Zmh,Zj,if_pos rfl]
theorem ZeK:(mgF rd nb li lo sd best).lookup ("looked" : Str)=some (.int lo):=by
 rw[ZaR,Zj,if_neg ZlZ,Zj,if_neg Zmn,Zj,if_pos rfl]
theorem Zb1:(mgF rd nb li lo sd best).lookup ("stays" : Str)=some (.ref sd):=by
 rw[ZaR,Zj,if_neg ZmQ,Zj,if_pos rfl]
theorem ZcA:(mgF rd nb li lo sd best).lookup ("best" : Str)=some best:=by
 rw[ZaR,Zj,if_pos rfl]
theorem Za5{m:Str}(h1:¬ m = "rows")(h2:¬ m = "next_number")(h3:¬ m = "likened")(h4:¬ m = "looked")(h5:¬ m = "stays")(h6:¬ m = "best"):(mgF rd nb li lo sd best).lookup m=none:=by
 rw[ZaR,Zj,if_neg h6,Zj,if_neg h5,Zj,if_neg h4,Zj,if_neg h3,Zj,if_neg h2,Zj,if_neg h1]
 rfl
theorem ZeJ(v:Int):Zk "next_number" (.int v) (mgF rd nb li lo sd best)=mgF rd v li lo sd best:=by unfold mgF;rw[Zp Zmt,Zb8]
theorem Zcp(v:Int):Zk "likened" (.int v) (mgF rd nb li lo sd best)=mgF rd nb v lo sd best:=by unfold mgF;rw[Zp Zl4,Zp Zmq,Zb8]
theorem ZeQ(v:Int):Zk "looked" (.int v) (mgF rd nb li lo sd best)=mgF rd nb li v sd best:=by unfold mgF;rw[Zp ZmW,Zp ZlP,Zp Zmh,Zb8]
theorem Zfa(x:Addr):Zk "stays" (.ref x) (mgF rd nb li lo sd best)=mgF rd nb li lo x best:=by unfold mgF;rw[Zp ZlQ,Zp Zl2,Zp ZmF,Zp Zmn,Zb8]
theorem Zbm(x:V):Zk "best" x (mgF rd nb li lo sd best)=mgF rd nb li lo sd x:=by unfold mgF;rw[Zp ZmT,Zp ZmD,Zp ZmB,Zp ZlZ,Zp ZmQ,Zb8]
theorem Zbl:(mgF rd nb li lo sd best).length<1000:=by show 6<1000;decide
end
structure ZcH (C:Addr) (H:Hp) (e:Zu):Prop where
 at':ZhY C H e.p e.k e.f e.ss e.g
 le:e.g≤e.ss.length
 len:e.ss.length≤100
 srt:sortedS e.ss=true
 str:∀s∈e.ss,s.length≤1000∧AZ s
structure ZG (cR cM:Addr) (H:Hp) (m rd sd:Addr) (L:List Zu) (s:StL) (nb li lo:Int) (best:V):Prop where
 ob:∃dx,H m=some (.ins cM dx (mgF rd nb li lo sd best))
 rows:H rd=some (.dK (kvM L))
 stays:H sd=some (.dT (kvS s))
 ats:AtS H s
 each:∀e∈L,ZcH cR H e
 up:Zab (Zr L)
 pd:(L.map (·.p)).Nodup
 few:L.length≤60
 sfew:s.length≤100
def Fp(m rd sd:Addr)(L:List Zu)(b:Addr):Prop:=b=m∨b=rd∨b=sd∨∃e∈L,b=e.p∨b=e.k∨b=e.f
theorem ZcH.keep{C:Addr}{H H':Hp}{e:Zu}(h:ZcH C H e)(hp:H' e.p=H e.p)(hk:H' e.k=H e.k)(hf:H' e.f=H e.f):ZcH C H' e :=
 ⟨⟨by rw[hp];exact h.at'.ob,by rw[hk];exact h.at'.ks,by rw[hf];exact h.at'.fs⟩,h.le,h.len,h.srt,h.str⟩
section
variable {cR cM:Addr} {H H':Hp} {m rd sd:Addr} {L:List Zu} {s:StL} {nb li lo:Int} {best:V}
theorem ZG.nd(h:ZG cR cM H m rd sd L s nb li lo best):(Zr L).Nodup:=ZcX h.up
theorem ZG.keep(h:ZG cR cM H m rd sd L s nb li lo best)(k:∀b o,H b=some o→Fp m rd sd L b∨(∃xs,o=.tup xs)→H' b=some o):ZG cR cM H' m rd sd L s nb li lo best:=by
 refine⟨?_,k _ _ h.rows (.inl (.inr (.inl rfl))),k _ _ h.stays (.inl (.inr (.inr (.inl rfl)))),fun e he t ht=>k _ _ (h.ats e he t ht) (.inr ⟨_,rfl⟩),fun e he=>?_,h.up,h.pd,h.few,h.sfew⟩
 ·obtain⟨dx,hd⟩:=h.ob
  exact⟨dx,k _ _ hd (.inl (.inl rfl))⟩
 ·have r:=h.each e he
  obtain⟨dx,hd⟩:=r.at'.ob
  exact⟨⟨⟨dx,k _ _ hd (.inl (.inr (.inr (.inr ⟨e,he,.inl rfl⟩))))⟩,k _ _ r.at'.ks (.inl (.inr (.inr (.inr ⟨e,he,.inr (.inl rfl)⟩)))),k _ _ r.at'.fs (.inl (.inr (.inr (.inr ⟨e,he,.inr (.inr rfl)⟩))))⟩,r.le,r.len,r.srt,r.str⟩
theorem ZG.same(h:ZG cR cM H m rd sd L s nb li lo best)(k:Zx H H'):ZG cR cM H' m rd sd L s nb li lo best:=h.keep fun b o hb _=>k b o hb
theorem ZG.ne_p(h:ZG cR cM H m rd sd L s nb li lo best){e:Zu}(he:e∈L):m≠e.p∧m≠e.k∧m≠e.f:=by
 obtain⟨dx,hd⟩:=h.ob
 have r:=h.each e he
 obtain⟨dy,hy⟩:=r.at'.ob
 refine⟨fun z=>?_,fun z=>?_,fun z=>?_⟩
 ·rw[z,hy]at hd
  injection hd with hd
  injection hd with _ _ hd
  have a:=Zd1 e.k e.f (e.g:Int)
  rw[hd,Za5 _ _ _ _ _ _ (by decide +kernel) (by decide +kernel) (by decide +kernel) (by decide +kernel) (by decide +kernel) (by decide +kernel)]at a
  cases a
 ·rw[z,r.at'.ks]at hd;cases hd
 ·rw[z,r.at'.fs]at hd;cases hd
theorem ZG.ne_m(h:ZG cR cM H m rd sd L s nb li lo best):m≠rd∧m≠sd∧rd≠sd:=by
 obtain⟨dx,hd⟩:=h.ob
 refine⟨fun z=>?_,fun z=>?_,fun z=>?_⟩
 ·rw[z,h.rows]at hd;cases hd
 ·rw[z,h.stays]at hd;cases hd
 ·have:=h.rows;rw[z,h.stays]at this;cases this
theorem ZG.ne_sd(h:ZG cR cM H m rd sd L s nb li lo best){e:Zu}(he:e∈L):sd≠e.p∧sd≠e.k∧sd≠e.f∧rd≠e.p∧rd≠e.k∧rd≠e.f:=by
 have r:=h.each e he
 obtain⟨dy,hy⟩:=r.at'.ob
 have a:=h.stays
 have b:=h.rows
 refine⟨fun z=>?_,fun z=>?_,fun z=>?_,fun z=>?_,fun z=>?_,fun z=>?_⟩
 ·rw[z,hy]at a;cases a
 ·rw[z,r.at'.ks]at a;cases a
 ·rw[z,r.at'.fs]at a;cases a
 ·rw[z,hy]at b;cases b
 ·rw[z,r.at'.ks]at b;cases b
 ·rw[z,r.at'.fs]at b;cases b
theorem ZG.obj(h:ZG cR cM H m rd sd L s nb li lo best){nb' li' lo':Int}{best':V}{dx:Addr}:ZG cR cM (upd H m (.ins cM dx (mgF rd nb' li' lo' sd best'))) m rd sd L s nb' li' lo' best':=by
 obtain⟨n1,n2,n3⟩:=h.ne_m
 obtain⟨dy,hd⟩:=h.ob
 refine⟨⟨dx,Zg⟩,by rw[Zc n1.symm];exact h.rows,by rw[Zc n2.symm];exact h.stays,fun e he t ht=>?_,fun e he=>?_,h.up,h.pd,h.few,h.sfew⟩
 ·have:=h.ats e he t ht
  rw[Zc (fun z=>by rw[z,hd]at this;cases this)];exact this
 ·obtain⟨a,b,c⟩:=h.ne_p he
  exact(h.each e he).keep (Zc a.symm) (Zc b.symm) (Zc c.symm)
theorem ZG.put(h:ZG cR cM H m rd sd L s nb li lo best){k:Int×Int}{v:Option (Addr×Int×Int)}(hv:∀t,v=some t→H t.1=some (.tup [.int t.2.1,.int t.2.2]))(hs:(ZbO s k v).length≤100):ZG cR cM (upd H sd (.dT (kvS (ZbO s k v)))) m rd sd L (ZbO s k v) nb li lo best:=by
 obtain⟨n1,n2,n3⟩:=h.ne_m
 obtain⟨dy,hd⟩:=h.ob
 have tup:∀a xs,H a=some (.tup xs)→(upd H sd (.dT (kvS (ZbO s k v)))) a=some (.tup xs):=fun a xs ha=>by rw[Zc (fun z=>by rw[z,h.stays]at ha;cases ha)];exact ha
 refine⟨⟨dy,by rw[Zc n2];exact hd⟩,by rw[Zc n3];exact h.rows,Zg,(h.ats.put hv).mono tup,fun e he=>?_,h.up,h.pd,h.few,hs⟩
 obtain⟨a,b,c,_⟩:=h.ne_sd he
 exact(h.each e he).keep (Zc a.symm) (Zc b.symm) (Zc c.symm)
end
def Zg9(cR cM:Addr):Sp:=fun vs H Q _=>∃ (m rd sd:Addr) (L:List Zu) (s:StL) (nb li lo:Int) (best:V) (a b:Zu) (x y:Str) (far:Nat),vs=[.ref m,.int a.n,.int b.n,.int (far:Int)]∧ZG cR cM H m rd sd L s nb li lo best∧a∈L∧b∈L∧a.ss[a.g]? = some x∧b.ss[b.g]? = some y∧far≤lcp (cds x) (cds y) ∧
 ∀ (t:Addr) (wi lz:Int) (H':Hp),(Btr (cds x) a.n (cds y) b.n∧wi=a.n∧lz=b.n∨¬ Btr (cds x) a.n (cds y) b.n∧wi=b.n∧lz=a.n)→H t=none→H' t=some (.tup [.int wi,.int lz,.int ((lcp (cds x) (cds y):Nat):Int)]) →
  ZG cR cM H' m rd sd L s nb (li+1) (lo+((lcp (cds x) (cds y):Nat)-(far:Int)+1)) best→(∀b o,H b=some o→b≠m→H' b=some o)→Q (.ref t) H'
theorem ZdC{ss:List Str}{g:Nat}{x:Str}(h:ss[g]? = some x):ZdF ss g=.str x:=by unfold ZdF;rw[h]
theorem ZaQ(k f:Addr)(g:Int):(ZbY k f g).lookup ("head" : Str)=none:=Zil _ _ _ (by decide +kernel) (by decide +kernel) (by decide +kernel)
theorem Zlo(T:Zak K mg cRow cMerge)(f_Row_head:Mf P w K mg base 2 cRow "head" ["self"] (ZdX cRow))(f_liken_from:Df P w K mg base 2 "liken_from" ["one", "other", "far"] ZcU):Mf P w K mg base 3 cMerge "meet" ["self", "one", "other", "far"] (Zg9 cRow cMerge):=by
 refine T.t_Merge_meet.mf Zbb (fun vs H Q E h=>?_) (fun cdv f A outer s H vs Q E hr h=>?_)
 ·obtain⟨m,rd,sd,L,s,nb,li,lo,best,a,b,x,y,far,rfl,_⟩:=h
  rfl
 obtain⟨m,rd,sd,L,s,nb,li,lo,best,a,b,x,y,far,rfl,M,ha,hb,hx,hy,hf,q⟩:=h
 refine⟨_,#[Ze,#[Za8,#[Zz,f_liken_from,hr,#[Za,#[Z0,f_Row_head,T.cl_Row,hr,#[ZC,(ixG hr),#[ZL,‹0›],‹1›]],#[Za,#[Z0,f_Row_head,T.cl_Row,hr,#[ZC,(ixG hr),#[ZL,‹0›],‹2›]],#[Za,‹3›,#[Zf]]]],(by rfl)],#[gT,K,3,#[ZV,#[ZR,4,Zbb.nd],#[ZV,#[ZR,5,Zbb.nd],#[ZV,#[ZR,6,Zbb.nd],(@ZbC _)]]]]],#[Ze,#[ZbZ,‹0›,#[Zh],ZeP],#[Ze,#[ZbZ,‹0›,‹6›,ZeP],#[Ze,#[Zat,(@PW.pt _ _ _ (@Zii _ _ _ _ _ _ _ #[Zo,Zdy,‹4›,#[Zh],(Zt _)] (@Zge _ _ _ _ (@PW.pt _ _ _ #[ZcM,#[Zo,Zcn,‹4›,#[Zh],(Zt _)],(@Zcc _ _ _ _ #[Zo,Zdy,‹1›,‹2›,(Zt _)])])))),#[Zi,#[Zs,#[Za9,#[Za,‹1›,#[Za,‹2›,#[Za,‹5›,#[Zf]]]]]]],#[ZM]],#[Zi,#[Zs,#[Za9,#[Za,‹2›,#[Za,‹1›,#[Za,‹5›,#[Zf]]]]]]]]]]],?_⟩
 obtain⟨dx,hm⟩:=M.ob
 have Ra:=M.each a ha
 have Rb:=M.each b hb
 obtain⟨da,hpa⟩:=Ra.at'.ob
 obtain⟨db,hpb⟩:=Rb.at'.ob
 have lx:=(Ra.str x (Qy hx)).1
 have ly:=(Rb.str y (Qy hy)).1
 refine⟨_,rfl,m,cMerge,dx,_,_,rfl,hm,T.cl_Merge,T.na_Merge_rows,ZaH ..,_,rfl,rd,_,rfl,Zbg.k' (k:=.inl a.n) M.rows (Ze0 M.nd ha),a.p,da,_,rfl,hpa,ZaQ ..,a.p,a.k,a.f,a.ss,a.g,rfl,Ra.at',?_⟩
 refine⟨_,rfl,m,cMerge,dx,_,_,rfl,hm,T.cl_Merge,T.na_Merge_rows,ZaH ..,_,rfl,rd,_,rfl,Zbg.k' (k:=.inl b.n) M.rows (Ze0 M.nd hb),b.p,db,_,rfl,hpb,ZaQ ..,b.p,b.k,b.f,b.ss,b.g,rfl,Rb.at',?_⟩
 rw[ZdC hx,ZdC hy]
 refine⟨_,rfl,x,y,far,rfl,lx,ly,hf,fun t ht=>?_⟩
 have s1:=Zl ht (.tup [.int (ZF (cds x) (cds y)),.int (lcp (cds x) (cds y):Nat),.int ((lcp (cds x) (cds y):Nat)-(far:Int)+1)])
 have ht1:(upd H t (.tup [.int (ZF (cds x) (cds y)),.int (lcp (cds x) (cds y):Nat),.int ((lcp (cds x) (cds y):Nat)-(far:Int)+1)])) t=some (.tup [.int (ZF (cds x) (cds y)),.int (lcp (cds x) (cds y):Nat),.int ((lcp (cds x) (cds y):Nat)-(far:Int)+1)]):=Zg
 generalize upd H t (.tup [.int (ZF (cds x) (cds y)),.int (lcp (cds x) (cds y):Nat),.int ((lcp (cds x) (cds y):Nat)-(far:Int)+1)])=H1 at s1 ht1 ⊢
 have M1:=M.same s1
 refine⟨t,_,rfl,SqT.of ht1,rfl,_,_,rfl,_,_,rfl,_,_,rfl,rfl,?_⟩
 have hm1:=s1 _ _ hm
 refine⟨_,rfl,m,cMerge,dx,_,_,rfl,hm1,T.cl_Merge,T.na_Merge_likened,ZcF ..,_,_,rfl,rfl,dx,_,hm1,Zbl ..,?_⟩
 rw[Zcp]
 have M2:=M1.obj (nb':=nb) (li':=li+1) (lo':=lo) (best':=best) (dx:=dx)
 have k2:∀b o,H b=some o→b≠m→(upd H1 m (.ins cMerge dx (mgF rd nb (li+1) lo sd best))) b=some o:=fun b o hb n=>by rw[Zc n];exact s1 b o hb
 have hm2:(upd H1 m (.ins cMerge dx (mgF rd nb (li+1) lo sd best))) m=some (.ins cMerge dx (mgF rd nb (li+1) lo sd best)):=Zg
 generalize upd H1 m (.ins cMerge dx (mgF rd nb (li+1) lo sd best))=H2 at M2 k2 hm2 ⊢
 refine⟨_,rfl,m,cMerge,dx,_,_,rfl,hm2,T.cl_Merge,T.na_Merge_looked,ZeK ..,_,rfl,_,_,rfl,rfl,dx,_,hm2,Zbl ..,?_⟩
 rw[ZeQ]
 have M3:=M2.obj (nb':=nb) (li':=li+1) (lo':=lo+((lcp (cds x) (cds y):Nat)-(far:Int)+1)) (best':=best) (dx:=dx)
 have k3:∀b o,H b=some o→b≠m→(upd H2 m (.ins cMerge dx (mgF rd nb (li+1) (lo+((lcp (cds x) (cds y):Nat)-(far:Int)+1)) sd best))) b=some o:=fun b o hb n=>by rw[Zc n];exact k2 b o hb n
 generalize upd H2 m (.ins cMerge dx (mgF rd nb (li+1) (lo+((lcp (cds x) (cds y):Nat)-(far:Int)+1)) sd best))=H3 at M3 k3 ⊢
 have fin:∀wi lz:Int,(Btr (cds x) a.n (cds y) b.n∧wi=a.n∧lz=b.n∨¬ Btr (cds x) a.n (cds y) b.n∧wi=b.n∧lz=a.n)→∀t2,H3 t2=none→Q (.ref t2) (upd H3 t2 (.tup [.int wi,.int lz,.int ((lcp (cds x) (cds y):Nat):Int)])):=fun wi lz hw t2 ht2=>by
  have hfree:H t2=none:=by
   cases e:H t2 with
   | none=>rfl
   | some o =>
    by_cases z:t2=m
    ·obtain⟨dz,hz⟩:=M3.ob;rw[z,hz]at ht2;cases ht2
    ·rw[k3 t2 o e z]at ht2;cases ht2
  exact q t2 wi lz _ hw hfree Zg (M3.same (Zl ht2 _)) (fun b o hb n=>Zl ht2 _ _ _ (k3 b o hb n))
 have sz3:3≤sizeLine:=by decide
 refine⟨_,rfl,_,_,rfl,rfl,_,rfl,Zbd (fun d=>?_) (fun d=>?_)⟩
 ·have d':ZF (cds x) (cds y)<0:=of_decide_eq_true d
  exact Zm1 ⟨_,rfl,_,rfl,_,rfl,sz3,fun t2 ht2=>fin _ _ (.inl ⟨.inl d',rfl,rfl⟩) t2 ht2⟩
 have d1:¬ ZF (cds x) (cds y)<0:=fun z=>d (decide_eq_true z)
 refine⟨_,rfl,rfl,_,rfl,Zbd (fun e=>?_) (fun e=>?_)⟩
 ·have e':ZF (cds x) (cds y)=0:=by have:=of_decide_eq_true e;injection this
  refine⟨_,rfl,_,rfl,_,_,rfl,rfl,_,rfl,Zbd (fun g=>?_) (fun g=>?_)⟩
  ·have g':a.n<b.n:=of_decide_eq_true g
   exact⟨_,rfl,_,rfl,_,rfl,sz3,fun t2 ht2=>fin _ _ (.inl ⟨.inr ⟨e',g'⟩,rfl,rfl⟩) t2 ht2⟩
  ·have g':¬ a.n<b.n:=fun z=>g (decide_eq_true z)
   exact⟨_,rfl,_,rfl,_,rfl,sz3,fun t2 ht2=>fin _ _ (.inr ⟨fun z=>by rcases z with z|z;exact d1 z;exact g' z.2,rfl,rfl⟩) t2 ht2⟩
 ·have e':ZF (cds x) (cds y)≠0:=fun z=>e (decide_eq_true (by rw[z]))
  exact ZdW ⟨_,rfl,_,rfl,_,rfl,sz3,fun t2 ht2=>fin _ _ (.inr ⟨fun z=>by rcases z with z|z;exact d1 z;exact e' z.1,rfl,rfl⟩) t2 ht2⟩
theorem ZG.cast{cR cM:Addr}{H:Hp}{m rd sd:Addr}{L:List Zu}{s:StL}{nb li lo li' lo':Int}{best:V}(h:ZG cR cM H m rd sd L s nb li lo best)(e1:li=li')(e2:lo=lo'):ZG cR cM H m rd sd L s nb li' lo' best:=by subst e1;subst e2;exact h
theorem Zg2{N:List Int}(h:N≠[]):atI (N.map V.int) (-1)=some (.int (N.getLastD 0)):=by
 have e:N=N.dropLast++[N.getLast h]:=(List.dropLast_concat_getLast h).symm
 have:=Zjl (N.dropLast.map V.int) (V.int (N.getLast h))
 rw[QY,Qaa h]
 conv=>lhs;rw[e,Qf]
 exact this
theorem Zgw{N:List Int}(h:N≠[]):atI (N.map V.int) 0=some (.int (N.headD 0)):=by
 cases N with
 | nil=>exact absurd rfl h
 | cons a r=>exact Zaw (j:=0) rfl
theorem Zdn(rd:Addr)(nb li lo:Int)(sd:Addr)(best:V):(mgF rd nb li lo sd best).lookup ("play" : Str)=none:=Za5 _ _ _ _ _ _ (by decide +kernel) (by decide +kernel) (by decide +kernel) (by decide +kernel) (by decide +kernel) (by decide +kernel)
theorem ZeB(rd:Addr)(nb li lo:Int)(sd:Addr)(best:V):(mgF rd nb li lo sd best).lookup ("meet" : Str)=none:=Za5 _ _ _ _ _ _ (by decide +kernel) (by decide +kernel) (by decide +kernel) (by decide +kernel) (by decide +kernel) (by decide +kernel)
def Zkn(K:PySem.W.Frag)(cR cM:Addr)(n:Nat):Sp:=fun vs H Q _=>∃ (m rd sd:Addr) (L:List Zu) (s:StL) (nb li lo:Int) (best:V) (l:Addr) (N:List Int),vs=[.ref m,.ref l]∧ZG cR cM H m rd sd L s nb li lo best∧H l=some (.lst (N.map V.int))∧1≤N.length∧N.length≤60∧0<n∧N.length≤2 ^ (n-1)∧(∀x∈N,x∈Zr L)∧Zab N∧(∀k,ZdJ n N k→ZK s k=none)∧s.length+N.length≤100 ∧
 ∀ (w:Option Int) (s':StL) (k q:Int) (H':Hp),Win (hdM L) N w→ZcS (hdM L) s' n N→ZaX (hdM L) n N k q→(∀j,¬ ZdJ n N j→ZK s' j=ZK s j)→s'.length+1≤s.length+N.length→ZG cR cM H' m rd sd L s' nb (li+k) (lo+q) best→(∀b o,H b=some o→b≠m→b≠sd→H' b=some o)→Q (ZbL w) H'
theorem ZhW(T:Zak K mg cRow cMerge)(f_Row_head:Mf P w K mg base 2 cRow "head" ["self"] (ZdX cRow))(f_halves:Df P w K mg base 1 "halves" ["numbers"] (Zdz K true))(f_Merge_meet:Mf P w K mg base 3 cMerge "meet" ["self", "one", "other", "far"] (Zg9 cRow cMerge)) :
  ∀n:Nat,Mf P w K mg base (n+4) cMerge "play" ["self", "numbers"] (Zkn K cRow cMerge n)
 | 0=>by
  refine T.t_Merge_play.mf Z3 (fun vs H Q E h=>?_) (fun cdv f A outer s H vs Q E hr h=>?_)
  ·obtain⟨m,rd,sd,L,s,nb,li,lo,best,l,N,rfl,_⟩:=h
   rfl
  obtain⟨m,rd,sd,L,s,nb,li,lo,best,l,N,rfl,_,_,_,_,z,_⟩:=h
  exact absurd z (by omega)
 | n+1=>by
  have f_Merge_play:=ZhW T f_Row_head f_halves f_Merge_meet n
  refine T.t_Merge_play.mf Z3 (fun vs H Q E h=>?_) (fun cdv f A outer s H vs Q E hr h=>?_)
  ·obtain⟨m,rd,sd,L,s,nb,li,lo,best,l,N,rfl,_⟩:=h
   rfl
  obtain⟨m,rd,sd,L,s,nb,li,lo',best,l,N,rfl,M,hl,h1,h60,_,hp2,hmem,hup,hfree,hsz,q⟩:=h
  rw[Q4]at hp2
  refine⟨_,#[Ze,#[Zat,#[Zo,Zcn,#[Zw,(ZdP K),(by rfl),T.b.n_len,Qs,#[Za,‹1›,#[Zf]]],#[Zh],(Zt _)],#[Zi,#[Zs,#[ZaY,#[Zo,ZbK,#[Z0,f_Row_head,T.cl_Row,hr,#[ZC,(ixG hr),#[ZL,‹0›],#[ZC,(ixL K),‹1›,#[Zh]]]],#[Zae],(Zt _)],#[Zae],#[ZC,(ixL K),‹1›,#[Zh]]]]],#[ZM]],#[Ze,#[Za8,#[Zz,f_halves,hr,#[Za,‹1›,#[Zf]],(by rfl)],#[gT,K,2,#[ZV,#[ZR,2,Z3.nd],#[ZV,#[ZR,3,Z3.nd],(@ZbC _)]]]],#[Ze,#[Zv,4,Z3.nd,(Or.inl rfl),#[Zda,f_Merge_play,T.cl_Merge,hr,‹0›,#[Za,‹2›,#[Zf]]]],#[Ze,#[Zv,5,Z3.nd,(Or.inl rfl),#[Zda,f_Merge_play,T.cl_Merge,hr,‹0›,#[Za,‹3›,#[Zf]]]],#[Ze,#[Zat,#[Zo,ZbK,‹4›,#[Zae],(Zt _)],#[Zi,#[Zs,‹5›]],#[ZM]],#[Ze,#[Zat,#[Zo,ZbK,‹5›,#[Zae],(Zt _)],#[Zi,#[Zs,‹4›]],#[ZM]],#[Ze,#[Za8,#[Zda,f_Merge_meet,T.cl_Merge,hr,‹0›,#[Za,‹4›,#[Za,‹5›,#[Za,#[Zh],#[Zf]]]]],#[gT,K,3,#[ZV,#[ZR,6,Z3.nd],#[ZV,#[ZR,7,Z3.nd],#[ZV,#[ZR,8,Z3.nd],(@ZbC _)]]]]],#[Ze,#[Za8,#[Za9,#[Za,‹7›,#[Za,‹8›,#[Zf]]]],#[Zcv,#[ZL,‹0›],#[Za9,#[Za,#[ZC,(ixL K),‹1›,#[Zh]],#[Za,#[ZC,(ixL K),‹1›,(@ZhM _ _ _ _ _ _ ZfZ #[Zh])],#[Zf]]]],(Zi1 hr)]],#[Zi,#[Zs,‹6›]]]]]]]]]],?_⟩
  obtain⟨dx,hm⟩:=M.ob
  have hN:N≠[]:=Z2 h1
  have nml:l≠m:=fun z=>by rw[z,hm]at hl;cases hl
  have nsl:l≠sd:=fun z=>by rw[z,M.stays]at hl;cases hl
  have hll:(((N.map V.int).length:Nat):Int)=(N.length:Int):=by rw[Qa]
  refine⟨_,rfl,l,_,rfl,.inl (SqL.of hl),rfl,_,rfl,Zbd (fun d=>?_) (fun d=>?_)⟩
  ·have hone:N.length=1:=by have:=of_decide_eq_true d;injection this with this;rw[hll]at this;omega
   obtain⟨n0,rfl⟩:∃n0,N=[n0]:=Qae.mp hone
   obtain⟨e,he,rfl⟩:=ZcL (hmem n0 (by simp))
   have R:=M.each e he
   obtain⟨dp,hp⟩:=R.at'.ob
   have hat:atI (([e.n]:List Int).map V.int) 0=some (.int e.n):=Zaw (j:=0) rfl
   refine⟨_,rfl,m,cMerge,dx,_,_,rfl,hm,T.cl_Merge,T.na_Merge_rows,ZaH ..,_,rfl,l,_,_,_,rfl,rfl,SqL.of hl,hat,rd,_,rfl,Zbg.k' (k:=.inl e.n) M.rows (Ze0 M.nd he),e.p,dp,_,rfl,hp,ZaQ ..,e.p,e.k,e.f,e.ss,e.g,rfl,R.at',rfl,_,rfl,?_⟩
   have hst:ZcS (hdM L) s (n+1) [e.n]:=fun h2=>by simp at h2
   have hpl:ZaX (hdM L) (n+1) [e.n] 0 0:=.few (by show 1<2;decide)
   have hwin:=Win.sing (hd:=hdM L) (n:=e.n)
   have hd:=Zdm M.nd he
   have M':=M.cast (li':=li+0) (lo':=lo'+0) (by omega) (by omega)
   cases hx:e.ss[e.g]? with
   | none =>
    rw[show ZdF e.ss e.g=.non by unfold ZdF;rw[hx]]
    rw[hd,hx]at hwin
    exact Zeu rfl (q none s 0 0 H hwin hst hpl (fun _ _=>rfl) (Qd _) M' (fun b o h _ _=>h))
   | some x =>
    rw[ZdC hx]
    rw[hd,hx]at hwin
    exact Zcs (fun z=>nomatch z) ⟨_,rfl,l,_,_,_,rfl,rfl,SqL.of hl,hat,q (some e.n) s 0 0 H hwin hst hpl (fun _ _=>rfl) (Qd _) M' (fun b o h _ _=>h)⟩
  have hge:2≤N.length:=by
   have:¬ ((N.length:Int)=1):=fun z=>d (decide_eq_true (by rw[hll,z]))
   omega
  have hn1:1≤n:=by
   cases n with
   | zero=>simp at hp2;omega
   | succ m=>omega
  have hpow:2 ^ n=2*2 ^ (n-1):=by
   obtain⟨m,rfl⟩:∃m,n=m+1:=⟨n-1,by omega⟩
   rw[Nat.pow_succ,Q4];omega
  have hlo:(lo N).length≤2 ^ (n-1)∧(lo N).length≤60:=by unfold lo mid;rw[Qx];omega
  have hupl:(up N).length≤2 ^ (n-1)∧(up N).length≤60:=by unfold up mid;rw[QL];omega
  have hsum:(lo N).length+(up N).length=N.length:=by rw[← Qo,Zby]
  have hmlo:∀x∈lo N,x∈Zr L:=fun x hx=>hmem x (List.mem_of_mem_take hx)
  have hmup:∀x∈up N,x∈Zr L:=fun x hx=>hmem x (List.mem_of_mem_drop hx)
  refine⟨_,rfl,l,N,rfl,SqL.of hl,by omega,fun t f r H2 ht hf hr' nfr ht2 hf2 hr2 s2 ntf ntr=>?_⟩
  rw[if_pos rfl]at ht2
  rw[Zl7]at hf2
  rw[Zmw]at hr2
  refine⟨t,_,rfl,SqT.of ht2,rfl,_,_,rfl,_,_,rfl,rfl,?_⟩
  have M2:=M.same s2
  have hm2:=s2 _ _ hm
  have nfm:r≠m:=(Zb hm hr').symm
  have nfs:r≠sd:=(Zb M.stays hr').symm
  refine⟨_,rfl,m,dx,_,rfl,hm2,Zdn ..,_,rfl,m,rd,sd,L,s,nb,li,lo',best,f,lo N,rfl,M2,hf2,(Zcx hge).2,hlo.2,hn1,hlo.1,hmlo,Zc2 hup,fun k hk=>hfree k ⟨hge,.inl hk⟩,by omega,fun w1 s1 k1 q1 H3 W1 S1 P1 o1 l1 M3 b3=>?_⟩
  have hr3:=b3 _ _ hr2 nfm nfs
  obtain⟨dx3,hm3⟩:=M3.ob
  refine⟨_,rfl,m,dx3,_,rfl,hm3,Zdn ..,_,rfl,m,rd,sd,L,s1,nb,_,_,best,r,up N,rfl,M3,hr3,(Zdq hge).2,hupl.2,hn1,hupl.1,hmup,ZcZ hup,fun k hk=>?_,by omega,fun w2 s2' k2 q2 H4 W2 S2 P2 o2 l2 M4 b4=>?_⟩
  ·rw[o1 k ((ZfQ hup hge hk).2 n)]
   exact hfree k ⟨hge,.inr (.inl hk)⟩
  have key_n:¬ ZdJ n (lo N) (ZD N)∧¬ ZdJ n (up N) (ZD N):=⟨fun z=>(Zf5 hup hge z).1 rfl,fun z=>(ZfQ hup hge z).1 rfl⟩
  have S1':ZcS (hdM L) s2' n (lo N):=S1.congr n _ (fun _ _=>rfl) (fun k hk=>o2 k ((Zf5 hup hge hk).2 n))
  have hk2:ZK s2' (ZD N)=none:=by rw[o2 _ key_n.2,o1 _ key_n.1];exact hfree _ ⟨hge,.inr (.inr rfl)⟩
  have oth:∀j,¬ ZdJ (n+1) N j→ZK s2' j=ZK s j:=fun j hj=>by
   rw[o2 j (fun z=>hj ⟨hge,.inr (.inl z)⟩),o1 j (fun z=>hj ⟨hge,.inl z⟩)]
  have b04:∀b o,H b=some o→b≠m→b≠sd→H4 b=some o:=fun b o hb n1 n2=>b4 b o (b3 b o (s2 b o hb) n1 n2) n1 n2
  have none':∀wn,Win (hdM L) N wn→(Win (hdM L) (lo N) none∨Win (hdM L) (up N) none)→Q (ZbL wn) H4:=fun wn hw hno=>by
   refine q wn s2' (k1+k2) (q1+q2) H4 hw (fun _=>⟨S1',S2,fun a b x y wa wb _ _=>?_,fun _=>.inl hk2⟩) (.none hge P1 P2 hno) oth (by omega) (M4.cast (by omega) (by omega)) b04
   rcases hno with z|z
   ·exact nomatch z.one wa
   ·exact nomatch z.one wb
  cases w1 with
  | none=>exact⟨_,rfl,rfl,_,rfl,Zeu rfl ⟨_,rfl,none' w2 (by have:=Win.right W1 W2;rwa [Zby]at this) (.inl W1)⟩⟩
  | some a =>
  refine⟨_,rfl,rfl,_,rfl,Zcs (fun z=>nomatch z) ?_⟩
  cases w2 with
  | none=>exact⟨_,rfl,rfl,_,rfl,Zeu rfl ⟨_,rfl,none' (some a) (by have:=Win.left W1 W2;rwa [Zby]at this) (.inr W2)⟩⟩
  | some b =>
  refine⟨_,rfl,rfl,_,rfl,Zcs (fun z=>nomatch z) ?_⟩
  obtain⟨ea,hea,ea'⟩:=ZcL (hmlo a W1.1)
  obtain⟨eb,heb,eb'⟩:=ZcL (hmup b W2.1)
  subst ea'
  subst eb'
  have hda:=Zdm M.nd hea
  have hdb:=Zdm M.nd heb
  cases hx:ea.ss[ea.g]? with
  | none=>obtain⟨_,z,hz,_⟩:=W1;rw[hda,hx]at hz;cases hz
  | some x =>
  cases hy:eb.ss[eb.g]? with
  | none=>obtain⟨_,z,hz,_⟩:=W2;rw[hdb,hy]at hz;cases hz
  | some y =>
  rw[hx]at hda
  rw[hy]at hdb
  obtain⟨dx4,hm4⟩:=M4.ob
  refine⟨_,rfl,m,dx4,_,rfl,hm4,ZeB ..,_,rfl,_,rfl,m,rd,sd,L,s2',nb,_,_,best,ea,eb,x,y,0,rfl,M4,hea,heb,hx,hy,Qq _,fun t5 wi lz H5 hw ht5 ht5' M5 b5=>?_⟩
  refine⟨t5,_,rfl,SqT.of ht5',rfl,_,_,rfl,_,_,rfl,_,_,rfl,rfl,?_⟩
  have sz2:2≤sizeLine:=by decide
  refine⟨_,rfl,_,rfl,sz2,fun t6 ht6=>?_⟩
  have s6:=Zl ht6 (.tup [.int lz,.int ((lcp (cds x) (cds y):Nat):Int)])
  have ht66:(upd H5 t6 (.tup [.int lz,.int ((lcp (cds x) (cds y):Nat):Int)])) t6=some (.tup [.int lz,.int ((lcp (cds x) (cds y):Nat):Int)]):=Zg
  have M6:=M5.same s6
  generalize upd H5 t6 (.tup [.int lz,.int ((lcp (cds x) (cds y):Nat):Int)])=H6 at s6 ht66 M6 ⊢
  obtain⟨dx6,hm6⟩:=M6.ob
  have hl6:H6 l=some (.lst (N.map V.int)):=s6 _ _ (b5 _ _ (b04 _ _ hl nml nsl) nml)
  refine⟨_,rfl,m,cMerge,dx6,_,_,rfl,hm6,T.cl_Merge,T.na_Merge_stays,Zb1 ..,_,rfl,l,_,_,_,rfl,rfl,SqL.of hl6,Zgw hN,_,rfl,_,rfl,l,_,_,_,rfl,rfl,SqL.of hl6,Zg2 hN,sz2,fun t7 ht7=>?_⟩
  have s7:=Zl ht7 (.tup [.int (N.headD 0),.int (N.getLastD 0)])
  have ht77:(upd H6 t7 (.tup [.int (N.headD 0),.int (N.getLastD 0)])) t7=some (.tup ([.inl (ZD N).1,.inl (ZD N).2].map kV)):=Zg
  have M7:=M6.same s7
  generalize upd H6 t7 (.tup [.int (N.headD 0),.int (N.getLastD 0)])=H7 at s7 ht77 M7 ⊢
  have hsl:(kvS s2').length<sizeLine:=by unfold kvS;rw[Qa];exact ZW (by omega)
  refine⟨sd,_,rfl,Zdu.t (k:=[.inl (ZD N).1,.inl (ZD N).2]) M7.stays ht77 hsl,?_⟩
  rw[show V.ref t6=stV (some (t6,lz,((lcp (cds x) (cds y):Nat):Int))) from rfl,Zek]
  have hpl:=Zjn s2' (ZD N) (some (t6,lz,((lcp (cds x) (cds y):Nat):Int)))
  have l1':=(Zcx hge).2
  have M8:=M7.put (k:=ZD N) (v:=some (t6,lz,((lcp (cds x) (cds y):Nat):Int))) (fun t ht=>by injection ht with ht;rw[← ht];exact s7 _ _ ht66) (by omega)
  have hne:ea.n≠eb.n:=fun z=>by have:=ZA hup W1.1 W2.1;omega
  have b08:∀b o,H b=some o→b≠m→b≠sd→(upd H7 sd (.dT (kvS (ZbO s2' (ZD N) (some (t6,lz,((lcp (cds x) (cds y):Nat):Int))))))) b=some o:=fun b o hb n1 n2=>by
   rw[Zc n2];exact s7 _ _ (s6 _ _ (b5 _ _ (b04 _ _ hb n1 n2) n1))
  have hwin:Win (hdM L) N (some wi):=by
   rcases hw with⟨w0,rfl,_⟩|⟨w0,rfl,_⟩
   ·have:=Win.both W1 W2 hda hdb w0;rwa [Zby]at this
   ·have:=Win.both' W1 W2 hda hdb ((Btr.total hne).resolve_left w0);rwa [Zby]at this
  have hlz:lz=if ZF (cds x) (cds y)<0∨(ZF (cds x) (cds y)=0∧ea.n<eb.n) then eb.n else ea.n:=by
   rcases hw with⟨w0,_,rfl⟩|⟨w0,_,rfl⟩
   ·exact(if_pos (show ZF (cds x) (cds y)<0∨(ZF (cds x) (cds y)=0∧ea.n<eb.n) from w0)).symm
   ·exact(if_neg (show ¬ (ZF (cds x) (cds y)<0∨(ZF (cds x) (cds y)=0∧ea.n<eb.n)) from w0)).symm
  refine⟨_,rfl,q (some wi) _ (k1+k2+1) (q1+q2+(lcp (cds x) (cds y):Nat)+1) _ hwin (fun _=>⟨?_,?_,?_,fun hno=>?_⟩) (.both hge P1 P2 W1 W2 hda hdb) (fun j hj=>?_) (by omega) (M8.cast (by omega) (by omega)) b08⟩
  ·exact S1'.congr n _ (fun _ _=>rfl) (fun k hk=>by rw[ZaA,if_neg (Zf5 hup hge hk).1])
  ·exact S2.congr n _ (fun _ _=>rfl) (fun k hk=>by rw[ZaA,if_neg (ZfQ hup hge hk).1])
  ·intro a' b' x' y' wa wb hxa hyb
   have e1:=Qe (wa.one W1)
   have e2:=Qe (wb.one W2)
   subst e1
   subst e2
   have e3:=Qe (hxa.symm.trans hda)
   have e4:=Qe (hyb.symm.trans hdb)
   subst e3
   subst e4
   exact⟨t6,by rw[ZaA,if_pos rfl,hlz]⟩
  ·rcases hno with z|z
   ·exact nomatch z.one W1
   ·exact nomatch z.one W2
  ·rw[ZaA,if_neg (fun z=>hj ⟨hge,.inr (.inr z)⟩)]
   exact oth j hj
theorem ZcH.mono{C:Addr}{H H':Hp}{e:Zu}(h:ZcH C H e)(k:∀b o,H b=some o→b=e.p∨b=e.k∨b=e.f→H' b=some o):ZcH C H' e:=by
 obtain⟨dx,hd⟩:=h.at'.ob
 exact⟨⟨⟨dx,k _ _ hd (.inl rfl)⟩,k _ _ h.at'.ks (.inr (.inl rfl)),k _ _ h.at'.fs (.inr (.inr rfl))⟩,h.le,h.len,h.srt,h.str⟩
theorem ZjG(L:List Zu):(kvM L).map (fun kv=>kV kv.1)=(Zr L).map V.int:=by unfold kvM Zr;rw[Qr,Qr];rfl
theorem Zjy{n:Nat}{N:List Int}{k:Int×Int}(_:ZdJ n N k):ZK [] k=none:=rfl
def Zd8(cR cM:Addr):Sp:=fun vs H Q _=>∃ (m rd sd:Addr) (L:List Zu) (s:StL) (nb li lo:Int) (best:V),vs=[.ref m]∧ZG cR cM H m rd sd L s nb li lo best ∧
 ∀ (sd':Addr) (s':StL) (w:Option Int) (k q:Int) (H':Hp),H sd'=none→Win (hdM L) (Zr L) w→ZcS (hdM L) s' 8 (Zr L)→ZaX (hdM L) 8 (Zr L) k q→ZG cR cM H' m rd sd' L s' nb (li+k) (lo+q) (ZbL w)→(∀b o,H b=some o→b≠m→H' b=some o)→Q .non H'
theorem Zgm(T:Zak K mg cRow cMerge)(f_Merge_play:Mf P w K mg base 12 cMerge "play" ["self", "numbers"] (Zkn K cRow cMerge 8)):Mf P w K mg base 13 cMerge "play_all" ["self"] (Zd8 cRow cMerge):=by
 refine T.t_Merge_play_all.mf ZdE (fun vs H Q E h=>?_) (fun cdv f A outer s H vs Q E hr h=>?_)
 ·obtain⟨m,rd,sd,L,s,nb,li,lo,best,rfl,_⟩:=h
  rfl
 obtain⟨m,rd,sd,L,s,nb,li,lo',best,rfl,M,q⟩:=h
 refine⟨_,#[Ze,#[Zbh,‹0›,(@ZhX _ _)],#[Zi,#[Zbh,‹0›,#[ZaY,#[Zo,ZgD,#[Zw,Znf,(by rfl),T.b.n_len,Qs,#[Za,#[ZL,‹0›],#[Zf]]],#[Zh],(Zt _)],#[Zda,f_Merge_play,T.cl_Merge,hr,‹0›,#[Za,#[Zc1,Zne,T.b.n_list,boot_list,#[Za,#[ZL,‹0›],#[Zf]]],#[Zf]]],#[Zae]]]]],?_⟩
 refine fun sd' hsd=>?_
 obtain⟨dx,hm⟩:=M.ob
 have s1:=Zl hsd (.dT [])
 have hs1:(upd H sd' (.dT [])) sd'=some (.dT (kvS [])):=Zg
 have M1:=M.same s1
 have hm1:=s1 _ _ hm
 have nms:m≠sd':=Zb hm hsd
 have nrs:rd≠sd':=Zb M.rows hsd
 generalize upd H sd' (.dT [])=H1 at s1 hs1 M1 hm1 ⊢
 refine⟨_,rfl,m,cMerge,dx,_,rfl,hm1,T.cl_Merge,T.na_Merge_stays,Zbl ..,?_⟩
 rw[Zfa]
 obtain⟨n1,n2,n3⟩:=M.ne_m
 have M2:ZG cRow cMerge (upd H1 m (.ins cMerge dx (mgF rd nb li lo' sd' best))) m rd sd' L [] nb li lo' best:=by
  refine⟨⟨dx,Zg⟩,by rw[Zc n1.symm];exact M1.rows,by rw[Zc nms.symm];exact hs1,(fun e he=>by cases he),fun e he=>?_,M.up,M.pd,M.few,by decide⟩
  obtain⟨a,b,c⟩:=M1.ne_p he
  exact(M1.each e he).keep (Zc a.symm) (Zc b.symm) (Zc c.symm)
 have k2:∀b o,H b=some o→b≠m→(upd H1 m (.ins cMerge dx (mgF rd nb li lo' sd' best))) b=some o:=fun b o hb n=>by rw[Zc n];exact s1 b o hb
 generalize upd H1 m (.ins cMerge dx (mgF rd nb li lo' sd' best))=H2 at M2 k2 ⊢
 obtain⟨dx2,hm2⟩:=M2.ob
 have hlen:(((kvM L).length:Nat):Int)=(L.length:Int):=by unfold kvM;rw[Qa]
 have hnl:(Zr L).length=L.length:=by unfold Zr;rw[Qa]
 have hfew:=M.few
 refine⟨_,rfl,m,cMerge,dx2,_,_,rfl,hm2,T.cl_Merge,T.na_Merge_rows,ZaH ..,rd,_,rfl,M2.rows,_,_,rfl,rfl,_,rfl,Zbd (fun d=>?_) (fun d=>?_)⟩
 ·have hpos:0<L.length:=by have:(0:Int)<(((kvM L).length:Nat):Int):=of_decide_eq_true d;omega
  refine⟨_,rfl,m,dx2,_,rfl,hm2,Zdn ..,_,rfl,m,cMerge,dx2,_,_,rfl,hm2,T.cl_Merge,T.na_Merge_rows,ZaH ..,rd,_,rfl,M2.rows,fun l hl=>?_⟩
  rw[ZjG]
  have s3:=Zl hl (.lst ((Zr L).map V.int))
  have hl3:(upd H2 l (.lst ((Zr L).map V.int))) l=some (.lst ((Zr L).map V.int)):=Zg
  have M3:=M2.same s3
  generalize upd H2 l (.lst ((Zr L).map V.int))=H3 at s3 hl3 M3 ⊢
  refine⟨m,rd,sd',L,[],nb,li,lo',best,l,Zr L,rfl,M3,hl3,by omega,by omega,by decide,QC (by omega:(Zr L).length≤60) (by decide),fun x hx=>hx,M.up,fun k hk=>Zjy hk,by show 0+_≤_;omega,fun w1 s' k q' H4 W S Pl _ _ M4 b4=>?_⟩
  obtain⟨dx4,hm4⟩:=M4.ob
  refine⟨_,rfl,m,cMerge,dx4,_,rfl,hm4,T.cl_Merge,T.na_Merge_best,Zbl ..,?_⟩
  rw[Zbm]
  exact q sd' s' w1 k q' _ hsd W S Pl M4.obj (fun b o hb n=>by rw[Zc n];exact b4 b o (s3 b o (k2 b o hb n)) n (Zb hb hsd))
 ·have hnil:L=[]:=by
   cases L with
   | nil=>rfl
   | cons e r=>exact absurd (decide_eq_true (show (0:Int)<(((kvM (e::r)).length:Nat):Int) by rw[hlen];simp only[List.length_cons];omega)) d
  subst hnil
  refine⟨_,rfl,m,cMerge,dx2,_,rfl,hm2,T.cl_Merge,T.na_Merge_best,Zbl ..,?_⟩
  rw[Zbm]
  exact q sd' [] none 0 0 _ hsd (Win.nil _) (fun h2=>absurd h2 (by decide)) (.few (by decide)) (M2.obj.cast (by omega) (by omega)) (fun b o hb n=>by rw[Zc n];exact k2 b o hb n)
def ZmJ(L:List Zu)(rs:List (Addr×List Str)):Prop:=Zr L=Zde 0 rs.length∧L.map (fun e=>(e.ss,e.g))=rs.map fun x=>(x.2,0)
def ZcO(cR cM:Addr):Sp:=fun vs H Q _=>∃ (m dx r:Addr) (rs:List (Addr×List Str)),vs=[.ref m,.ref r]∧H m=some (.ins cM dx [])∧Zbi H r rs∧(∀x∈rs,sortedS x.2=true) ∧
 ∀ (rd sd:Addr) (L:List Zu) (s:StL) (w:Option Int) (k q:Int) (H':Hp),ZG cR cM H' m rd sd L s (rs.length:Int) k q (ZbL w)→ZmJ L rs→Win (hdM L) (Zr L) w→ZcS (hdM L) s 8 (Zr L)→ZaX (hdM L) 8 (Zr L) k q→(∀b,Fp m rd sd L b→b=m∨H b=none)→(∀b o,H b=some o→b≠m→H' b=some o)→Q .non H'
theorem ZcN(rd:Addr)(nb li lo:Int)(sd:Addr)(best:V):(mgF rd nb li lo sd best).lookup ("play_all" : Str)=none:=Za5 _ _ _ _ _ _ (by decide +kernel) (by decide +kernel) (by decide +kernel) (by decide +kernel) (by decide +kernel) (by decide +kernel)
theorem Zh9{ss:List Str}(h:sortedS ss=true):Zgk ss .non:=by
 refine .inl ⟨rfl,fun i x y hx hy=>?_⟩
 have:=Zfx h i y x hy hx
 have:=Zbt (cds y) (cds x)
 omega
theorem Zfd(T:Zak K mg cRow cMerge)(f_refuse_break:Df P w K mg base 5 "refuse_break" ["number", "keys"] (Zdw K))(f_Row_init:Cf P w K mg base 4 cRow "Row" ["self", "keys"] (Zd0 cRow))(f_Merge_play_all:Mf P w K mg base 13 cMerge "play_all" ["self"] (Zd8 cRow cMerge)):Cf P w K mg base 14 cMerge "Merge" ["self", "rows"] (ZcO cRow cMerge):=by
 refine T.t_Merge_init.cf ZbH (fun vs H Q E h=>?_) (fun cdv f A outer s H vs Q E hr h=>?_)
 ·obtain⟨m,dx,r,rs,rfl,_⟩:=h
  rfl
 obtain⟨m,dx,r,rs,rfl,hm,hrs,hsrt,q⟩:=h
 refine⟨_,#[Ze,#[Zbh,‹0›,(@Zjd _ _)],#[Ze,#[Zdi,PassesOwn.never,(@iE _ K _ _ _ _ _ _ _ T.b.n_enumerate #[Za,‹1›,#[Zf]] (by rfl) (by rfl) (by rfl)),#[gT,K,2,#[ZV,#[ZR,2,ZbH.nd],#[ZV,#[ZR,3,ZbH.nd],(@ZbC _)]]],#[Ze,#[ZaJ,#[Zz,f_refuse_break,hr,#[Za,‹2›,#[Za,‹3›,#[Zf]]],(by rfl)]],#[Zi,#[Za8,#[Zfm,f_Row_init,hr,#[Za,‹3›,#[Zf]]],#[Zcv,#[ZL,‹0›],‹2›,(Zi1 hr)]]]]],#[Ze,#[Zbh,‹0›,#[Zw,(ZdP K),(by rfl),T.b.n_len,Qs,#[Za,‹1›,#[Zf]]]],#[Ze,#[Zbh,‹0›,#[Zh]],#[Ze,#[Zbh,‹0›,#[Zh]],#[Ze,#[Zbh,‹0›,(@ZhX _ _)],#[Ze,#[Zbh,‹0›,#[Zae]],#[Zi,#[ZaJ,#[Z0,f_Merge_play_all,T.cl_Merge,hr,‹0›]]]]]]]]]],?_⟩
 refine fun rd hrd=>?_
 have nmr:m≠rd:=Zb hm hrd
 have s1:=Zl hrd (.dK [])
 have hr1:(upd H rd (.dK [])) rd=some (.dK (kvM [])):=Zg
 have hm1:=s1 _ _ hm
 generalize upd H rd (.dK [])=H1 at s1 hr1 hm1 ⊢
 refine⟨_,rfl,m,cMerge,dx,_,rfl,hm1,T.cl_Merge,T.na_Merge_rows,(by show 0<1000;decide),?_⟩
 have nrm:r≠m:=fun z=>by have:=hrs.at';rw[z,hm]at this;cases this
 have k2:∀b o,H b=some o→b≠m→(upd H1 m (.ins cMerge dx (Zk "rows" (.ref rd) []))) b=some o:=fun b o hb n=>by rw[Zc n];exact s1 b o hb
 have hm2:(upd H1 m (.ins cMerge dx (Zk "rows" (.ref rd) []))) m=some (.ins cMerge dx (Zk "rows" (.ref rd) [])):=Zg
 have hr2:(upd H1 m (.ins cMerge dx (Zk "rows" (.ref rd) []))) rd=some (.dK (kvM [])):=by rw[Zc nmr.symm];exact hr1
 generalize upd H1 m (.ins cMerge dx (Zk "rows" (.ref rd) []))=H2 at k2 hm2 hr2 ⊢
 have hfew:=hrs.few
 have lkr:(Zk "rows" (.ref rd) []).lookup ("rows" : Str)=some (V.ref rd):=by rw[Zj,if_pos rfl]
 refine⟨_,rfl,r,_,rfl,SqL.of (k2 _ _ hrs.at' nrm),?_⟩
 refine ZgE (K:=K) (a:=r) (xs:=rs.map fun x=>V.ref x.1) (fun i σ H5=>∃ (L:List Zu) (v2 v3:Option V),σ=[some (.ref m),some (.ref r),v2,v3]∧H5 m=some (.ins cMerge dx (Zk "rows" (.ref rd) []))∧H5 rd=some (.dK (kvM L))∧(∀e∈L,ZcH cRow H5 e)∧ZmJ L (rs.take i)∧(L.map (·.p)).Nodup∧(∀e∈L,H e.p=none∧H e.k=none∧H e.f=none)∧(∀b o,H b=some o→b≠m→H5 b=some o)) ⟨[],_,_,rfl,hm2,hr2,(fun e h=>by cases h),⟨rfl,rfl⟩,List.nodup_nil,(fun e h=>by cases h),k2⟩ (fun i σ H5 ⟨_,_,_,_,_,_,_,_,_,_,k5⟩=>SqL.of (k5 _ _ hrs.at' nrm)) ?_ ?_
 ·rintro i y σ H5 p hy ⟨L,v2,v3,rfl,hm5,hr5,each,⟨n1,n2⟩,pd,hfr,k5⟩ hp
  rw[Qp]at hy
  cases hz:rs[i]? with
  | none=>rw[hz]at hy;cases hy
  | some x =>
  rw[hz]at hy
  cases hy
  have hil:i<rs.length:=(Qh.mp hz).1
  have hxm:=Qy hz
  obtain⟨lx,l100,laz⟩:=hrs.lst x hxm
  have nxm:x.1≠m:=fun z=>by rw[z,hm]at lx;cases lx
  have hLl:L.length=i:=by have:=congrArg List.length n1;unfold Zr at this;rw[Qa,ZeY,Qx]at this;omega
  have hlt:∀e∈L,e.n≠(i:Int):=fun e he z=>by
   have h1:e.n∈Zde 0 (rs.take i).length:=by rw[← n1];exact Qc (f:=fun e:Zu=>e.n) he
   unfold Zde at h1
   obtain⟨j,hj,ej⟩:=Qu.mp h1
   have:=List.mem_range.mp hj
   rw[Qx]at this
   omega
  have sp:=Zl hp (.tup [.int (i:Int),.ref x.1])
  have hp6:(upd H5 p (.tup [.int (i:Int),.ref x.1])) p=some (.tup [.int (i:Int),.ref x.1]):=Zg
  generalize upd H5 p (.tup [.int (i:Int),.ref x.1])=H6 at sp hp6 ⊢
  refine⟨p,_,rfl,SqT.of hp6,rfl,_,_,rfl,_,_,rfl,rfl,?_⟩
  have lx6:H6 x.1=some (.lst (x.2.map V.str)):=sp _ _ (k5 _ _ lx nxm)
  refine⟨_,rfl,_,rfl,(i:Int),x.1,x.2,rfl,SqL.of lx6,by omega,fun s hs=>(laz s hs).1,Zh9 (hsrt x hxm),fun H7 s7=>?_⟩
  have s57:=sp.trans s7
  refine⟨_,rfl,fun u dy hu hdy ndu=>?_⟩
  have hu5:H5 u=none:=s57.free hu
  have lx8:(upd (upd H7 dy (.own u)) u (.ins cRow dy [])) x.1=some (.lst (x.2.map V.str)):=by
   have:=s7 _ _ lx6
   rw[Zc (Zb this hu),Zc (Zb this hdy)];exact this
  have s8:∀b o,H5 b=some o→(upd (upd H7 dy (.own u)) u (.ins cRow dy [])) b=some o:=fun b o hb=>by
   have:=s57 _ _ hb
   rw[Zc (Zb this hu),Zc (Zb this hdy)];exact this
  have hu8:(upd (upd H7 dy (.own u)) u (.ins cRow dy [])) u=some (.ins cRow dy []):=Zg
  generalize upd (upd H7 dy (.own u)) u (.ins cRow dy [])=H8 at lx8 s8 hu8 ⊢
  refine⟨u,dy,x.1,x.2,rfl,hu8,lx8,l100,fun s hs=>(laz s hs).1,fun k f H9 hk hf nkf R k9=>⟨rfl,?_⟩⟩
  have s9:∀b o,H5 b=some o→H9 b=some o:=fun b o hb=>k9 b o (s8 b o hb) (Zb hb hu5)
  have free5:∀b,H8 b=none→H5 b=none:=fun b hb=>by
   cases e:H5 b with
   | none=>rfl
   | some o=>rw[s8 b o e]at hb;cases hb
  have free0:∀b,b≠m→H5 b=none→H b=none:=fun b nb hb=>by
   cases e:H b with
   | none=>rfl
   | some o=>rw[k5 b o e nb]at hb;cases hb
  have num:u≠m:=fun z=>by rw[z,hm5]at hu5;cases hu5
  have nkm:k≠m:=fun z=>by have:=free5 k hk;rw[z,hm5]at this;cases this
  have nfm:f≠m:=fun z=>by have:=free5 f hf;rw[z,hm5]at this;cases this
  have nrd:rd≠u∧rd≠k∧rd≠f:=⟨Zb hr5 hu5,Zb hr5 (free5 k hk),Zb hr5 (free5 f hf)⟩
  have hsz:(kvM L).length<sizeLine:=by unfold kvM;rw[Qa];exact ZW (by omega)
  have hn1:ZaU (kvM L) (.inl (i:Int))=none:=by
   cases hv:ZaU (kvM L) (.inl (i:Int)) with
   | none=>rfl
   | some v=>obtain⟨e,he,z⟩:=Qu.mp (ZgY hv);injection z with z _;exact absurd (Sum.inl.inj z) (hlt e he)
  refine⟨_,rfl,m,cMerge,dx,_,_,rfl,s9 _ _ hm5,T.cl_Merge,T.na_Merge_rows,lkr,_,rfl,rd,_,rfl,Zdu.k (k:=.inl (i:Int)) (s9 _ _ hr5) hsz,?_⟩
  rw[ZgM _ hn1,show kvM L++[((.inl (i:Int):Key),V.ref u)]=kvM (L++[⟨(i:Int),u,k,f,x.2,0⟩]) by unfold kvM;rw[Qf];rfl]
  refine⟨L++[⟨(i:Int),u,k,f,x.2,0⟩],_,_,rfl,by rw[Zc nmr];exact s9 _ _ hm5,Zg,fun e he=>?_,⟨?_,?_⟩,?_,fun e he=>?_,fun b o hb n=>?_⟩
  ·rcases Qk.mp he with he|he
   ·have re:=each e he
    obtain⟨de,hde⟩:=re.at'.ob
    refine re.mono fun b o hb hor=>?_
    have nb:b≠rd:=fun z=>by
     rw[z,hr5]at hb
     injection hb with hb
     subst hb
     rcases hor with z2|z2|z2
     ·rw[← z2,z,hr5]at hde;cases hde
     ·have:=re.at'.ks;rw[← z2,z,hr5]at this;cases this
     ·have:=re.at'.fs;rw[← z2,z,hr5]at this;cases this
    rw[Zc nb];exact s9 b o hb
   ·rw[Ql.mp he]
    refine ZcH.keep (H:=H9) ⟨R,Qq _,l100,hsrt x hxm,laz⟩ (Zc nrd.1.symm) (Zc nrd.2.1.symm) (Zc nrd.2.2.symm)
  ·unfold Zr at n1 ⊢
   rw[Qf,n1,Qx,Qx,Nat.min_eq_left (by omega),Nat.min_eq_left (by omega)]
   unfold Zde
   rw[List.range_succ,Qf]
   simp
  ·rw[Qf,n2,QS,hz,Qf];rfl
  ·rw[Qf]
   refine List.nodup_append.mpr ⟨pd,by simp,fun a ha b hb=>?_⟩
   obtain⟨e,he,rfl⟩:=Qu.mp ha
   have:b=u:=by simpa using hb
   rw[this]
   obtain⟨de,hde⟩:=(each e he).at'.ob
   exact Zb hde hu5
  ·rcases Qk.mp he with he|he
   ·exact hfr e he
   ·rw[Ql.mp he]
    exact⟨free0 u num hu5,free0 k nkm (free5 k hk),free0 f nfm (free5 f hf)⟩
  ·rw[Zc (Zb hb hrd)];exact s9 b o (k5 b o hb n)
 ·rintro σ H5 ⟨L,v2,v3,rfl,hm5,hr5,each,hnew,pd,hfr,k5⟩
  rw[Qa,QN (Qd _)]at hnew
  have p1:=Zbe "rows" (V.ref rd) []
  have p2:=Zbe "next_number" (V.int (rs.length:Int)) (Zk "rows" (.ref rd) [])
  have p3:=Zbe "likened" (V.int 0) (Zk "next_number" (.int (rs.length:Int)) (Zk "rows" (.ref rd) []))
  have p4:=Zbe "looked" (V.int 0) (Zk "likened" (.int 0) (Zk "next_number" (.int (rs.length:Int)) (Zk "rows" (.ref rd) [])))
  have p0:([]:List (Str×V)).length=0:=rfl
  refine⟨_,rfl,r,_,rfl,.inl (SqL.of (k5 _ _ hrs.at' nrm)),_,rfl,m,cMerge,dx,_,rfl,hm5,T.cl_Merge,T.na_Merge_next_number,by omega,?_⟩
  rw[Qa]
  refine⟨_,rfl,m,cMerge,dx,_,rfl,Zg,T.cl_Merge,T.na_Merge_likened,by omega,?_⟩
  refine⟨_,rfl,m,cMerge,dx,_,rfl,Zg,T.cl_Merge,T.na_Merge_looked,by omega,?_⟩
  have k8:∀b,b≠m→(upd (upd (upd H5 m (.ins cMerge dx (Zk "next_number" (.int (rs.length:Int)) (Zk "rows" (.ref rd) [])))) m (.ins cMerge dx (Zk "likened" (.int 0) (Zk "next_number" (.int (rs.length:Int)) (Zk "rows" (.ref rd) []))))) m (.ins cMerge dx (Zk "looked" (.int 0) (Zk "likened" (.int 0) (Zk "next_number" (.int (rs.length:Int)) (Zk "rows" (.ref rd) [])))))) b=H5 b:=fun b n=>by rw[Zc n,Zc n,Zc n]
  have hm8:(upd (upd (upd H5 m (.ins cMerge dx (Zk "next_number" (.int (rs.length:Int)) (Zk "rows" (.ref rd) [])))) m (.ins cMerge dx (Zk "likened" (.int 0) (Zk "next_number" (.int (rs.length:Int)) (Zk "rows" (.ref rd) []))))) m (.ins cMerge dx (Zk "looked" (.int 0) (Zk "likened" (.int 0) (Zk "next_number" (.int (rs.length:Int)) (Zk "rows" (.ref rd) [])))))) m=some (.ins cMerge dx (Zk "looked" (.int 0) (Zk "likened" (.int 0) (Zk "next_number" (.int (rs.length:Int)) (Zk "rows" (.ref rd) []))))):=Zg
  generalize (upd (upd (upd H5 m (.ins cMerge dx (Zk "next_number" (.int (rs.length:Int)) (Zk "rows" (.ref rd) [])))) m (.ins cMerge dx (Zk "likened" (.int 0) (Zk "next_number" (.int (rs.length:Int)) (Zk "rows" (.ref rd) []))))) m (.ins cMerge dx (Zk "looked" (.int 0) (Zk "likened" (.int 0) (Zk "next_number" (.int (rs.length:Int)) (Zk "rows" (.ref rd) []))))))=H8 at k8 hm8 ⊢
  refine fun sd hsd=>?_
  have nms:m≠sd:=Zb hm8 hsd
  have p5:=Zbe "stays" (V.ref sd) (Zk "looked" (.int 0) (Zk "likened" (.int 0) (Zk "next_number" (.int (rs.length:Int)) (Zk "rows" (.ref rd) []))))
  refine⟨_,rfl,m,cMerge,dx,_,rfl,by rw[Zc nms];exact hm8,T.cl_Merge,T.na_Merge_stays,by omega,?_⟩
  refine⟨_,rfl,m,cMerge,dx,_,rfl,Zg,T.cl_Merge,T.na_Merge_best,by omega,?_⟩
  have hsd5:H5 sd=none:=by rw[← k8 sd nms.symm];exact hsd
  have hm9:(upd (upd (upd H8 sd (.dT [])) m (.ins cMerge dx (Zk "stays" (.ref sd) (Zk "looked" (.int 0) (Zk "likened" (.int 0) (Zk "next_number" (.int (rs.length:Int)) (Zk "rows" (.ref rd) []))))))) m (.ins cMerge dx (Zk "best" .non (Zk "stays" (.ref sd) (Zk "looked" (.int 0) (Zk "likened" (.int 0) (Zk "next_number" (.int (rs.length:Int)) (Zk "rows" (.ref rd) [])))))))) m=some (.ins cMerge dx (mgF rd (rs.length:Int) 0 0 sd .non)):=by rw[ZaR];exact Zg
  have hs9:(upd (upd (upd H8 sd (.dT [])) m (.ins cMerge dx (Zk "stays" (.ref sd) (Zk "looked" (.int 0) (Zk "likened" (.int 0) (Zk "next_number" (.int (rs.length:Int)) (Zk "rows" (.ref rd) []))))))) m (.ins cMerge dx (Zk "best" .non (Zk "stays" (.ref sd) (Zk "looked" (.int 0) (Zk "likened" (.int 0) (Zk "next_number" (.int (rs.length:Int)) (Zk "rows" (.ref rd) [])))))))) sd=some (.dT (kvS [])):=by rw[Zc nms.symm,Zc nms.symm];exact Zg
  have k9:∀b o,H5 b=some o→b≠m→(upd (upd (upd H8 sd (.dT [])) m (.ins cMerge dx (Zk "stays" (.ref sd) (Zk "looked" (.int 0) (Zk "likened" (.int 0) (Zk "next_number" (.int (rs.length:Int)) (Zk "rows" (.ref rd) []))))))) m (.ins cMerge dx (Zk "best" .non (Zk "stays" (.ref sd) (Zk "looked" (.int 0) (Zk "likened" (.int 0) (Zk "next_number" (.int (rs.length:Int)) (Zk "rows" (.ref rd) [])))))))) b=some o:=fun b o hb n=>by rw[Zc n,Zc n,Zc (Zb hb hsd5),k8 b n];exact hb
  generalize (upd (upd (upd H8 sd (.dT [])) m (.ins cMerge dx (Zk "stays" (.ref sd) (Zk "looked" (.int 0) (Zk "likened" (.int 0) (Zk "next_number" (.int (rs.length:Int)) (Zk "rows" (.ref rd) []))))))) m (.ins cMerge dx (Zk "best" .non (Zk "stays" (.ref sd) (Zk "looked" (.int 0) (Zk "likened" (.int 0) (Zk "next_number" (.int (rs.length:Int)) (Zk "rows" (.ref rd) []))))))))=H9 at hm9 hs9 k9 ⊢
  have hLl:L.length=rs.length:=by have:=congrArg List.length hnew.1;unfold Zr at this;rw[Qa,ZeY]at this;exact this
  have M9:ZG cRow cMerge H9 m rd sd L [] (rs.length:Int) 0 0 .non:=by
   refine⟨⟨dx,hm9⟩,k9 _ _ hr5 nmr.symm,hs9,(fun e he=>by cases he),fun e he=>?_,by rw[hnew.1];exact Zj8 _,pd,by omega,by decide⟩
   have re:=each e he
   obtain⟨de,hde⟩:=re.at'.ob
   refine re.mono fun b o hb hor=>k9 b o hb fun z=>?_
   have hf:=hfr e he
   have hm':=hm
   rw[← z]at hm'
   rcases hor with z2|z2|z2
   ·rw[z2,hf.1]at hm';cases hm'
   ·rw[z2,hf.2.1]at hm';cases hm'
   ·rw[z2,hf.2.2]at hm';cases hm'
  refine⟨_,rfl,m,dx,_,rfl,hm9,ZcN ..,m,rd,sd,L,[],_,0,0,.non,rfl,M9,fun sd' s' w1 k q' H10 hsd' W S Pl M10 b10=>?_⟩
  have free0:∀b,b≠m→H9 b=none→H b=none:=fun b nb hb=>by
   cases e:H b with
   | none=>rfl
   | some o=>rw[k9 b o (k5 b o e nb) nb]at hb;cases hb
  refine q rd sd' L s' w1 k q' H10 (M10.cast (by omega) (by omega)) hnew W S Pl (fun b hb=>?_) (fun b o hb n=>b10 b o (k9 b o (k5 b o hb n) n) n)
  rcases hb with rfl|rfl|rfl|⟨e,he,hb⟩
  ·exact .inl rfl
  ·exact .inr hrd
  ·exact .inr (free0 _ (fun z=>by rw[z,hm9]at hsd';cases hsd') hsd')
  ·have hf:=hfr e he
   rcases hb with rfl|rfl|rfl
   ·exact .inr hf.1
   ·exact .inr hf.2.1
   ·exact .inr hf.2.2
def Zh5(cR cM:Addr):Sp:=fun vs H Q _=>∃ (m rd sd:Addr) (L:List Zu) (s:StL) (nb li lo:Int) (best:V),vs=[.ref m]∧ZG cR cM H m rd sd L s nb li lo best∧Q (.int li) H
def Zjp(cR cM:Addr):Sp:=fun vs H Q _=>∃ (m rd sd:Addr) (L:List Zu) (s:StL) (nb li lo:Int) (best:V),vs=[.ref m]∧ZG cR cM H m rd sd L s nb li lo best∧Q (.int lo) H
theorem ZfP(T:Zak K mg cRow cMerge):Mf P w K mg base 1 cMerge "likenings" ["self"] (Zh5 cRow cMerge):=by
 refine T.t_Merge_likenings.mf Zdj (fun vs H Q E h=>?_) (fun cdv f A outer s H vs Q E hr h=>?_)
 ·obtain⟨m,rd,sd,L,s,nb,li,lo,best,rfl,_⟩:=h
  rfl
 obtain⟨m,rd,sd,L,s,nb,li,lo,best,rfl,M,q⟩:=h
 refine⟨_,#[Zi,#[Zs,#[ZL,‹0›]]],?_⟩
 obtain⟨dx,hm⟩:=M.ob
 exact⟨_,rfl,m,cMerge,dx,_,_,rfl,hm,T.cl_Merge,T.na_Merge_likened,ZcF ..,q⟩
theorem ZjY(T:Zak K mg cRow cMerge):Mf P w K mg base 1 cMerge "looks" ["self"] (Zjp cRow cMerge):=by
 refine T.t_Merge_looks.mf Zez (fun vs H Q E h=>?_) (fun cdv f A outer s H vs Q E hr h=>?_)
 ·obtain⟨m,rd,sd,L,s,nb,li,lo,best,rfl,_⟩:=h
  rfl
 obtain⟨m,rd,sd,L,s,nb,li,lo,best,rfl,M,q⟩:=h
 refine⟨_,#[Zi,#[Zs,#[ZL,‹0›]]],?_⟩
 obtain⟨dx,hm⟩:=M.ob
 exact⟨_,rfl,m,cMerge,dx,_,_,rfl,hm,T.cl_Merge,T.na_Merge_looked,ZeK ..,q⟩
def ZdG(cR cM:Addr):Sp:=fun vs H Q _=>∃ (m rd sd:Addr) (L:List Zu) (s:StL) (nb li lo:Int) (w:Option Int),vs=[.ref m]∧ZG cR cM H m rd sd L s nb li lo (ZbL w)∧Win (hdM L) (Zr L) w∧∀ (x:V) (H':Hp),Zik (L.map toL) H' x→Zx H H'→Q x H'
theorem ZiY(T:Zak K mg cRow cMerge)(f_Row_head:Mf P w K mg base 2 cRow "head" ["self"] (ZdX cRow)):Mf P w K mg base 3 cMerge "coming" ["self"] (ZdG cRow cMerge):=by
 refine T.t_Merge_coming.mf Zcq (fun vs H Q E h=>?_) (fun cdv f A outer s H vs Q E hr h=>?_)
 ·obtain⟨m,rd,sd,L,s,nb,li,lo,w,rfl,_⟩:=h
  rfl
 obtain⟨m,rd,sd,L,s,nb,li,lo,w,rfl,M,W,q⟩:=h
 refine⟨_,#[Ze,#[Zat,#[Zo,ZbK,#[ZL,‹0›],#[Zae],(Zt _)],#[Zi,#[Zs,#[Zae]]],#[ZM]],#[Ze,#[Zv,1,Zcq.nd,(Or.inl rfl),#[ZC,(ixG hr),#[ZL,‹0›],#[ZL,‹0›]]],#[Zi,#[Zs,#[Za9,#[Za,#[ZL,‹0›],#[Za,#[ZL,‹1›],#[Za,#[Z0,f_Row_head,T.cl_Row,hr,‹1›],#[Zf]]]]]]]]],?_⟩
 obtain⟨dx,hm⟩:=M.ob
 refine⟨_,rfl,m,cMerge,dx,_,_,rfl,hm,T.cl_Merge,T.na_Merge_best,ZcA ..,rfl,_,rfl,?_⟩
 have W':Win (hdL (L.map toL)) ((L.map toL).map (·.1)) w:=by rw[Zb6];exact W
 cases w with
 | none=>exact Zeu rfl (q _ H (.inl ⟨rfl,W'⟩) (Zx.refl H))
 | some a =>
  obtain⟨e,he,rfl⟩:=ZcL W.1
  have R:=M.each e he
  obtain⟨dp,hp⟩:=R.at'.ob
  have hd:=Zdm M.nd he
  cases hx:e.ss[e.g]? with
  | none=>obtain⟨_,z,hz,_⟩:=W;rw[hd,hx]at hz;cases hz
  | some x =>
  refine Zcs (fun z=>nomatch z) ?_
  refine⟨_,rfl,m,cMerge,dx,_,_,rfl,hm,T.cl_Merge,T.na_Merge_rows,ZaH ..,_,rfl,m,cMerge,dx,_,_,rfl,hm,T.cl_Merge,T.na_Merge_best,ZcA ..,rd,_,rfl,Zbg.k' (k:=.inl e.n) M.rows (Ze0 M.nd he),?_⟩
  refine⟨_,rfl,m,cMerge,dx,_,_,rfl,hm,T.cl_Merge,T.na_Merge_best,ZcA ..,_,rfl,e.p,cRow,dp,_,_,rfl,hp,T.cl_Row,T.na_Row_gone,ZbU ..,_,rfl,e.p,dp,_,rfl,hp,ZaQ ..,e.p,e.k,e.f,e.ss,e.g,rfl,R.at',(by show 3≤sizeLine;decide),fun t ht=>?_⟩
  rw[ZdC hx]
  exact q _ _ (.inr ⟨t,toL e,x,rfl,Qc he,hx,Zg,W'⟩) (Zl ht _)
def spLeftM(cR cM:Addr):Sp:=fun vs H Q _=>∃ (m rd sd:Addr) (L:List Zu) (s:StL) (nb li lo:Int) (best:V),vs=[.ref m]∧ZG cR cM H m rd sd L s nb li lo best∧∀H':Hp,Zx H H'→Q (.int (ZlH (L.map toL)).sum) H'
def ZjQ(L:List ZaI):List (Int×Option Str):=L.map fun e=>(e.1,e.2.2.1[e.2.2.2]?)
def Znn(H:Hp)(l:Addr)(E:List (Int×Option Str)):Prop:=∃ts:List (Addr×Int×Option Str),ts.map (·.2)=E∧H l=some (.lst (ts.map fun t=>V.ref t.1))∧∀t∈ts,H t.1=some (.tup [.int t.2.1,oV t.2.2])
theorem ZgW(ss:List Str)(g:Nat):ZdF ss g=oV ss[g]?:=by unfold ZdF oV;cases ss[g]?<;>rfl
def Zgu(cR cM:Addr):Sp:=fun vs H Q _=>∃ (m rd sd:Addr) (L:List Zu) (s:StL) (nb li lo:Int) (best:V),vs=[.ref m]∧ZG cR cM H m rd sd L s nb li lo best∧∀ (l:Addr) (H':Hp),H l=none→Znn H' l (ZjQ (L.map toL))→Zx H H'→Q (.ref l) H'
theorem ZiO(T:Zak K mg cRow cMerge)(f_Row_head:Mf P w K mg base 2 cRow "head" ["self"] (ZdX cRow)):Mf P w K mg base 3 cMerge "heads" ["self"] (Zgu cRow cMerge):=by
 refine T.t_Merge_heads.mf ZeW (fun vs H Q E h=>?_) (fun cdv f A outer s H vs Q E hr h=>?_)
 ·obtain⟨m,rd,sd,L,s,nb,li,lo,best,rfl,_⟩:=h
  rfl
 obtain⟨m,rd,sd,L,s,nb,li,lo,best,rfl,M,q⟩:=h
 refine⟨_,#[Zi,#[Zs,(@ZkZ _ _ _ #[ZbD,Zjs,(@Zjo _ _ _ _ _ _ _ _ #[ZL,‹0›] (by rfl) (by rfl)),(fun _ _ _ _=>#[gT,K,2,#[ZV,#[cg,1,Zjs],#[ZV,#[cg,2,Zjs],(@ZbC _)]]]),(fun _ _ _ _=>(@ZbG _)),(fun _ _ _ _=>#[Za9,#[Za,#[cw,1,Zjs],#[Za,#[Z0,f_Row_head,T.cl_Row,hr,#[cw,2,Zjs]],#[Zf]]]])])]],?_⟩
 obtain⟨dx,hm⟩:=M.ob
 have hfew:=M.few
 refine⟨rd,_,M.rows,True.intro,_,rfl,m,cMerge,dx,_,_,rfl,hm,T.cl_Merge,T.na_Merge_rows,ZaH ..,rd,_,rfl,M.rows,fun ob B hB=>?_⟩
 have hfz:(upd H rd (.frz ob (.dK (kvM L)))) rd=some (.frz ob (.dK (kvM L))):=Zg
 have k1:∀b x,H b=some x→b≠rd→(upd H rd (.frz ob (.dK (kvM L)))) b=some x:=fun b x h n=>by rw[Zc n];exact h
 have hB0:H B=none:=by
  cases e:H B with
  | none=>rfl
  | some o =>
   by_cases z:B=rd
   ·rw[z]at hB;rw[show (upd H rd (.frz ob (.dK (kvM L)))) rd=some (.frz ob (.dK (kvM L))) from Zg]at hB;cases hB
   ·rw[k1 B o e z]at hB;cases hB
 generalize upd H rd (.frz ob (.dK (kvM L)))=H1 at hfz k1 hB ⊢
 refine Zlm (d:=rd) (o:=ob) (kvs:=kvM L) (fun i zs σ H2=>(∃v1 v2:Option V,σ=[some (.ref m),v1,v2])∧(∃ts:List (Addr×Int×Option Str),ts.map (·.2)=ZjQ ((L.take i).map toL)∧zs=(ts.map fun t=>V.ref t.1)∧∀t∈ts,H2 t.1=some (.tup [.int t.2.1,oV t.2.2])∧t.1≠B∧t.1≠rd)∧i≤L.length∧H2 B=some (.lst zs)∧Zx H1 H2) ?_ (fun _ _ _ _ h=>h.2.2.2.2 _ _ hfz) ?_ ?_
 ·exact⟨⟨none,none,rfl⟩,⟨[],rfl,rfl,(fun t h=>by cases h)⟩,Qq _,Zg,Zl hB _⟩
 ·rintro i k x zs σ H2 p hkx ⟨⟨v1,v2,rfl⟩,⟨ts,hts,rfl,hall⟩,hi,hB2,s2⟩ hp0
  unfold kvM at hkx
  rw[Qp]at hkx
  cases hu:L[i]? with
  | none=>rw[hu]at hkx;cases hkx
  | some e =>
  rw[hu]at hkx
  cases hkx
  have hil:i<L.length:=(Qh.mp hu).1
  have he:=Qy hu
  have R:=M.each e he
  obtain⟨_,_,_,n1,n2,n3⟩:=M.ne_sd he
  have s3:=Zl hp0 (.tup [kV (.inl e.n),.ref e.p])
  have hp3:(upd H2 p (.tup [kV (.inl e.n),.ref e.p])) p=some (.tup [.int e.n,.ref e.p]):=Zg
  generalize upd H2 p (.tup [kV (.inl e.n),.ref e.p])=H3 at s3 hp3 ⊢
  have R2:ZcH cRow H3 e:=R.mono fun b o hb hor=>s3 _ _ (s2 _ _ (k1 b o hb (by rcases hor with z|z|z<;>rw[z];exact n1.symm;exact n2.symm;exact n3.symm)))
  obtain⟨dp,hp⟩:=R2.at'.ob
  have hB3:=s3 _ _ hB2
  have hf3:=s3 _ _ (s2 _ _ hfz)
  have hlen:ts.length=i:=by have:=congrArg List.length hts;unfold ZjQ at this;rw[Qa,Qa,Qa,Qx]at this;omega
  refine⟨p,_,rfl,SqT.of hp3,rfl,_,_,rfl,_,_,rfl,rfl,_,rfl,_,rfl,e.p,dp,_,rfl,hp,ZaQ ..,e.p,e.k,e.f,e.ss,e.g,rfl,R2.at',(by show 2≤sizeLine;decide),fun t ht=>?_⟩
  rw[ZgW]
  have nBt:B≠t:=Zb hB3 ht
  have nrt:rd≠t:=Zb hf3 ht
  refine⟨by rw[Zc nBt];exact hB3,(by rw[Qa];exact ZW (by omega)),⟨_,_,rfl⟩,⟨ts++[(t,e.n,e.ss[e.g]?)],?_,by rw[Qf];rfl,fun u hu'=>?_⟩,hil,Zg,fun b x hb=>?_⟩
  ·rw[Qf,hts,QS,hu,Qf]
   unfold ZjQ
   rw[Qf];rfl
  ·rcases Qk.mp hu' with hu'|hu'
   ·obtain⟨g1,g2,g3⟩:=hall u hu'
    have:=s3 _ _ g1
    exact⟨by rw[Zc g2,Zc (Zb this ht)];exact this,g2,g3⟩
   ·rw[Ql.mp hu']
    exact⟨by rw[Zc nBt.symm];exact Zg,nBt.symm,nrt.symm⟩
  ·have:=s3 b x (s2 b x hb)
   rw[Zc (Zb hb hB),Zc (Zb this ht)];exact this
 rintro zs σ H2 ⟨⟨v1,v2,rfl⟩,⟨ts,hts,rfl,hall⟩,_,hB2,s2⟩
 have hkl:(kvM L).length=L.length:=by unfold kvM;rw[Qa]
 rw[hkl,QN (Qd _)]at hts
 refine⟨ob,s2 _ _ hfz,?_⟩
 have nBr:B≠rd:=(Zb hfz hB).symm
 refine q B _ hB0 ⟨ts,hts,by rw[Zc nBr];exact hB2,fun t ht=>?_⟩ (fun b x hb=>?_)
 ·obtain⟨g1,g2,g3⟩:=hall t ht
  rw[Zc g3];exact g1
 ·by_cases e:b=rd
  ·rw[e,M.rows]at hb;rw[e,Zg];exact hb
  ·rw[Zc e];exact s2 _ _ (k1 b x hb e)
def Agr(Lo:List ZaI)(L:List Zu):Prop:=Lo.map (fun e=>(e.1,e.2.2))=L.map (fun e=>(e.n,(e.ss,e.g)))
theorem ZhV:∀ (A B:List ZaI),A.map (fun e=>(e.1,e.2.2))=B.map (fun e=>(e.1,e.2.2))→hdL A=hdL B
 | [],[],_=>rfl
 | [],_::_,h=>by cases h
 | _::_,[],h=>by cases h
 | a::A,b::B,h=>by
  rw[Qg,Qg]at h
  injection h with h1 h2
  injection h1 with h3 h4
  have ih:=ZhV A B h2
  funext n
  have ihn:=congrFun ih n
  unfold hdL at ihn ⊢
  rw[QZ,QZ,h3]
  split
  ·simp only[Option.bind_some];rw[h4]
  ·exact ihn
theorem Zds{α β:Type}:∀ {P:List (α×β)},(P.map (·.1)).Nodup→∀ {p q:α×β},p∈P→q∈P→p.1=q.1→p=q
 | [],_,_,_,h,_,_=>by cases h
 | x::r,nd,p,q,hp,hq,e=>by
  rw[Qg,QP]at nd
  rcases QE.mp hp with h1|h1
  ·rcases QE.mp hq with h2|h2
   ·rw[h1,h2]
   ·exact absurd (show x.1∈r.map (·.1) by rw[← h1,e];exact Qc (f:=fun x:α×β=>x.1) h2) nd.1
  ·rcases QE.mp hq with h2|h2
   ·exact absurd (show x.1∈r.map (·.1) by rw[← h2,← e];exact Qc (f:=fun x:α×β=>x.1) h1) nd.1
   ·exact Zds nd.2 h1 h2 e
def FlatV(x:V):Prop:=x=.non∨(∃b,x=.bl b)∨(∃i,x=.int i)∨∃s,x=.str s
structure F2 (R:V→V→Prop) (xs ys:List V):Prop where
 len:xs.length=ys.length
 at':∀ (i:Nat) (x y:V),xs[i]? = some x→ys[i]? = some y→R x y
theorem Zaa(rd:Addr)(nb li lo:Int)(sd:Addr)(best:V):(mgF rd nb li lo sd best).lookup ("likenings" : Str)=none:=Za5 _ _ _ _ _ _ (by decide +kernel) (by decide +kernel) (by decide +kernel) (by decide +kernel) (by decide +kernel) (by decide +kernel)
theorem Zcy(rd:Addr)(nb li lo:Int)(sd:Addr)(best:V):(mgF rd nb li lo sd best).lookup ("looks" : Str)=none:=Za5 _ _ _ _ _ _ (by decide +kernel) (by decide +kernel) (by decide +kernel) (by decide +kernel) (by decide +kernel) (by decide +kernel)
theorem Zbn(rd:Addr)(nb li lo:Int)(sd:Addr)(best:V):(mgF rd nb li lo sd best).lookup ("coming" : Str)=none:=Za5 _ _ _ _ _ _ (by decide +kernel) (by decide +kernel) (by decide +kernel) (by decide +kernel) (by decide +kernel) (by decide +kernel)
theorem Zg3(rd:Addr)(nb li lo:Int)(sd:Addr)(best:V):(mgF rd nb li lo sd best).lookup ("heads" : Str)=none:=Za5 _ _ _ _ _ _ (by decide +kernel) (by decide +kernel) (by decide +kernel) (by decide +kernel) (by decide +kernel) (by decide +kernel)
def spStands(cR cM:Addr):Sp:=fun vs H Q _=>∃ (m rd sd:Addr) (L:List Zu) (s:StL) (nb li lo:Int) (w:Option Int) (o ra ga:Addr) (Lo:List ZaI) (nb':Int),vs=[.ref m,.ref o]∧ZG cR cM H m rd sd L s nb li lo (ZbL w)∧Win (hdM L) (Zr L) w∧Own H o ra ga Lo nb' li lo∧Agr Lo L∧∀H',Zx H H'→Q (.bl true) H'
def rowsD(rs:List (Addr×List Str)):PyData:=.list (rs.map fun x=>.list (x.2.map PyData.str))
def Z8(M:List Int)(n:Int):List Int:=if n∈lo M then lo M else up M
def Zai(M:List Int)(n:Int):List Int:=if n∈lo M then up M else lo M
def ZJ:Nat→List Int→Int→List (List Int)
 | 0,_,_=>[]
 | k+1,M,n=>if 2≤M.length then ZJ k (Z8 M n) n++[M] else []
inductive Sub (N:List Int):List Int→Prop
 | top:Sub N N
 | lo {M:List Int}:Sub N M→2≤M.length→Sub N (lo M)
 | up {M:List Int}:Sub N M→2≤M.length→Sub N (up M)
theorem Sub.trans{A B C:List Int}(h:Sub A B)(k:Sub B C):Sub A C:=by
 induction k with
 | top=>exact h
 | lo _ h2 ih=>exact ih.lo h2
 | up _ h2 ih=>exact ih.up h2
theorem Sub.rise{N M:List Int}(h:Sub N M)(r:Zab N):Zab M:=by
 induction h with
 | top=>exact r
 | lo _ _ ih=>exact Zc2 ih
 | up _ _ ih=>exact ZcZ ih
theorem Sub.mem{N M:List Int}(h:Sub N M){x:Int}(hx:x∈M):x∈N:=by
 induction h with
 | top=>exact hx
 | lo _ _ ih=>exact ih (List.mem_of_mem_take hx)
 | up _ _ ih=>exact ih (List.mem_of_mem_drop hx)
theorem Zgs{M:List Int}(h:2≤M.length)(n:Int):Sub M (Z8 M n):=by
 unfold Z8
 split
 ·exact Sub.top.lo h
 ·exact Sub.top.up h
theorem ZcQ{M:List Int}{n:Int}(h:n∈M):n∈Z8 M n:=by
 unfold Z8
 split
 ·assumption
 ·rename_i hn
  rw[← Zby M]at h
  exact(Qk.mp h).resolve_left hn
theorem Zep{M:List Int}(r:Zab M){n:Int}(hn:n∈Z8 M n):n ∉ Zai M n:=by
 intro h
 unfold Zai Z8 at *
 split at h
 ·rename_i hl
  have:=ZA r hl h
  omega
 ·rename_i hl;exact hl h
theorem Zd4(M:List Int)(n:Int):(Z8 M n++Zai M n).Perm M:=by
 unfold Z8 Zai
 split
 ·rw[Zby]
 ·exact List.perm_append_comm.trans (by rw[Zby])
def Kys(M:List Int)(k:Int×Int):Prop:=∃M',Sub M M'∧2≤M'.length∧k=ZD M'
theorem ZfL{M:List Int}{k:Int×Int}(h:Kys M k):k.1∈M∧k.2∈M:=by
 obtain⟨M',s,h2,rfl⟩:=h
 have hn:M'≠[]:=Z2 (by omega)
 exact⟨s.mem (Zbs hn),s.mem (Zbp hn)⟩
theorem Zj2{M:List Int}(r:Zab M)(h2:2≤M.length){k:Int×Int}(h:Kys (lo M) k):k≠ZD M∧¬ Kys (up M) k:=by
 have:=ZfL h
 refine⟨fun z=>?_,fun m=>?_⟩
 ·have h1:=ZdM h2
  rw[z,h1]at this
  have:=ZA r this.2 (Zbp (Z2 (Zdq h2).2))
  omega
 ·have:=ZA r this.1 (ZfL m).1
  omega
theorem ZjN{M:List Int}(r:Zab M)(h2:2≤M.length){k:Int×Int}(h:Kys (up M) k):k≠ZD M∧¬ Kys (lo M) k:=by
 have:=ZfL h
 refine⟨fun z=>?_,fun m=>?_⟩
 ·have h1:=Zd5 h2
  rw[z,h1]at this
  have:=ZA r (Zbs (Z2 (Zcx h2).2)) this.1
  omega
 ·have:=ZA r (ZfL m).1 this.1
  omega
theorem Zgn{M:List Int}(r:Zab M)(h2:2≤M.length){n:Int}{k:Int×Int}(h:Kys (Z8 M n) k):k≠ZD M∧¬ Kys (Zai M n) k:=by
 unfold Z8 at h
 unfold Zai
 split
 ·rename_i hl;rw[if_pos hl]at h;exact Zj2 r h2 h
 ·rename_i hl;rw[if_neg hl]at h;exact ZjN r h2 h
theorem Zgq{M:List Int}(r:Zab M)(h2:2≤M.length){n:Int}{k:Int×Int}(h:Kys (Zai M n) k):k≠ZD M∧¬ Kys (Z8 M n) k:=by
 unfold Zai at h
 unfold Z8
 split
 ·rename_i hl;rw[if_pos hl]at h;exact ZjN r h2 h
 ·rename_i hl;rw[if_neg hl]at h;exact Zj2 r h2 h
theorem ZdV{M M':List Int}(h:Sub M M'):M'=M∨(2≤M.length∧(Sub (lo M) M'∨Sub (up M) M')):=by
 induction h with
 | top=>exact .inl rfl
 | lo h h2 ih =>
  rcases ih with rfl|⟨g,ih⟩
  ·exact .inr ⟨h2,.inl .top⟩
  ·exact .inr ⟨g,ih.imp (fun z=>z.lo h2) (fun z=>z.lo h2)⟩
 | up h h2 ih =>
  rcases ih with rfl|⟨g,ih⟩
  ·exact .inr ⟨h2,.inr .top⟩
  ·exact .inr ⟨g,ih.imp (fun z=>z.up h2) (fun z=>z.up h2)⟩
theorem Zko{M M':List Int}(n:Int)(h:Sub M M'):M'=M∨(2≤M.length∧(Sub (Z8 M n) M'∨Sub (Zai M n) M')):=by
 rcases ZdV h with h|⟨g,h⟩
 ·exact .inl h
 ·refine .inr ⟨g,?_⟩
  unfold Z8 Zai
  split
  ·exact h
  ·exact h.symm
def Zdc(hd:Hd)(s:StL)(A B:List Int)(k:Int×Int):Prop :=
 (∀a b x y,Win hd A (some a)→Win hd B (some b)→hd a=some x→hd b=some y→∃t lz,ZK s k=some (some (t,lz,((lcp x y:Nat):Int)))∧((Btr x a y b∧lz=b)∨(Btr y b x a∧lz=a))) ∧
 ((Win hd A none∨Win hd B none)→ZK s k=none∨ZK s k=some none)
theorem Zdc.swap{hd:Hd}{s:StL}{A B:List Int}{k:Int×Int}(h:Zdc hd s A B k):Zdc hd s B A k:=by
 refine⟨fun a b x y wa wb hx hy=>?_,fun hw=>h.2 hw.symm⟩
 obtain⟨t,lz,e,o⟩:=h.1 b a y x wb wa hy hx
 exact⟨t,lz,by rw[Zbv x y];exact e,o.symm⟩
def ZN(hd:Hd)(s:StL)(N:List Int):Prop:=∀M,Sub N M→2≤M.length→Zdc hd s (lo M) (up M) (ZD M)
theorem ZN.sub{hd:Hd}{s:StL}{N M:List Int}(h:ZN hd s N)(k:Sub N M):ZN hd s M:=fun M' h' h2=>h M' (k.trans h') h2
theorem ZN.at_side{hd:Hd}{s:StL}{M:List Int}(h:ZN hd s M)(h2:2≤M.length)(n:Int):Zdc hd s (Z8 M n) (Zai M n) (ZD M):=by
 have:=h M .top h2
 unfold Z8 Zai
 split
 ·exact this
 ·exact this.swap
theorem ZbX:∀ (n:Nat) (hd:Hd) (s:StL) (N:List Int),Zab N→N.length≤2 ^ (n-1)→0<n→ZcS hd s n N→ZN hd s N
 | 0,_,_,_,_,_,h,_=>absurd h (by omega)
 | n+1,hd,s,N,r,hl,_,h=>fun M hM h2=>by
  rw[Q4]at hl
  rcases ZdV hM with rfl|⟨g,hM⟩
  ·obtain⟨_,_,c1,c2⟩:=h h2
   refine⟨fun a b x y wa wb hx hy=>?_,c2⟩
   obtain⟨t,e⟩:=c1 a b x y wa wb hx hy
   have hab:=ZA r wa.1 wb.1
   by_cases hb:ZF x y<0∨(ZF x y=0∧a<b)
   ·rw[if_pos hb]at e;exact⟨t,b,e,.inl ⟨hb,rfl⟩⟩
   ·rw[if_neg hb]at e;exact⟨t,a,e,.inr ⟨(Btr.total (show a≠b by omega)).resolve_left hb,rfl⟩⟩
  ·obtain⟨h1,h3,_⟩:=h g
   have hn:1≤n:=by
    cases n with
    | zero=>simp at hl;omega
    | succ m=>omega
   have hp:2 ^ n=2*2 ^ (n-1):=by
    obtain⟨m,rfl⟩:∃m,n=m+1:=⟨n-1,by omega⟩
    rw[Nat.pow_succ,Q4];omega
   rcases hM with hM|hM
   ·exact ZbX n hd s (lo N) (Zc2 r) (by unfold lo mid;rw[Qx];omega) hn h1 M hM h2
   ·exact ZbX n hd s (up N) (ZcZ r) (by unfold up mid;rw[QL];omega) hn h3 M hM h2
theorem Zdc.congr{hd hd':Hd}{s s':StL}{A B:List Int}{k:Int×Int}(h:Zdc hd s A B k)(ha:∀m∈A,hd' m=hd m)(hb:∀m∈B,hd' m=hd m)(hk:ZK s' k=ZK s k):Zdc hd' s' A B k:=by
 refine⟨fun a b x y wa wb hx hy=>?_,fun hw=>?_⟩
 ·rw[hk]
  exact h.1 a b x y (wa.congr fun m hm=>(ha m hm).symm) (wb.congr fun m hm=>(hb m hm).symm) (by rw[← ha a wa.1];exact hx) (by rw[← hb b wb.1];exact hy)
 ·rw[hk]
  exact h.2 (hw.imp (fun w=>w.congr fun m hm=>(ha m hm).symm) (fun w=>w.congr fun m hm=>(hb m hm).symm))
theorem ZN.congr{hd hd':Hd}{s s':StL}{M:List Int}(h:ZN hd s M)(hh:∀m∈M,hd' m=hd m)(hk:∀k,Kys M k→ZK s' k=ZK s k):ZN hd' s' M:=fun M' hM h2 =>
 (h M' hM h2).congr (fun m hm=>hh m (hM.mem (List.mem_of_mem_take hm))) (fun m hm=>hh m (hM.mem (List.mem_of_mem_drop hm))) (hk _ ⟨M',hM,h2,rfl⟩)
theorem ZiL{hd:Hd}{s:StL}{M:List Int}{n:Int}(h1:ZN hd s (Z8 M n))(h3:ZN hd s (Zai M n))(h:Zdc hd s (Z8 M n) (Zai M n) (ZD M)):ZN hd s M:=fun M' hM h2=>by
 rcases Zko n hM with rfl|⟨g,hM|hM⟩
 ·unfold Z8 Zai at h
  split at h
  ·exact h
  ·exact h.swap
 ·exact h1 M' hM h2
 ·exact h3 M' hM h2
def low(n:Int)(C:List (List Int)):Nat→List Int
 | 0=>[n]
 | i+1=>C.getD i []
theorem Zeq:∀ (k:Nat) (M:List Int) (n:Int),n∈M→M.length≤2 ^ k→(∀i X,(ZJ k M n)[i]? = some X→Sub M X∧2≤X.length∧n∈X∧Z8 X n=low n (ZJ k M n) i)∧low n (ZJ k M n) (ZJ k M n).length=M∧(ZJ k M n).length≤k
 | 0,M,n,hn,hl=>by
  refine⟨fun i X h=>by unfold ZJ at h;simp at h,?_,Qd _⟩
  have h1:M.length=1:=by
   have:=Qaf hn
   simp at hl;omega
  obtain⟨x,rfl⟩:=Qae.mp h1
  have:n=x:=by simpa using hn
  rw[this];rfl
 | k+1,M,n,hn,hl=>by
  unfold ZJ
  by_cases h2:2≤M.length
  ·rw[if_pos h2]
   have hs:(Z8 M n).length≤2 ^ k:=by
    rw[Nat.pow_succ]at hl
    unfold Z8
    split
    ·unfold lo mid;rw[Qx];omega
    ·unfold up mid;rw[QL];omega
   obtain⟨a,b,c⟩:=Zeq k (Z8 M n) n (ZcQ hn) hs
   refine⟨fun i X h=>?_,?_,by rw[Qo,QA];omega⟩
   ·have lw:∀j,j≤(ZJ k (Z8 M n) n).length→low n (ZJ k (Z8 M n) n++[M]) j=low n (ZJ k (Z8 M n) n) j:=fun j hj=>by
     cases j with
     | zero=>rfl
     | succ j =>
      show (ZJ k (Z8 M n) n++[M]).getD j []=(ZJ k (Z8 M n) n).getD j []
      rw[Qt,Qt,QR (by omega)]
    by_cases hi:i<(ZJ k (Z8 M n) n).length
    ·rw[QR hi]at h
     obtain⟨g1,g2,g3,g4⟩:=a i X h
     exact⟨(Zgs h2 n).trans g1,g2,g3,by rw[lw i (by omega)];exact g4⟩
    ·have hi':i=(ZJ k (Z8 M n) n).length:=by
      have:=(Qh.mp h).1
      rw[Qo,QA]at this
      omega
     subst hi'
     rw[QM (Qd _),Nat.sub_self]at h
     cases h
     exact⟨.top,h2,hn,by rw[lw _ (Qd _),b]⟩
   ·rw[Qo,QA]
    show (ZJ k (Z8 M n) n++[M]).getD _ []=M
    rw[Qt,QM (Qd _),Nat.sub_self];rfl
  ·rw[if_neg h2]
   refine⟨fun i X h=>by simp at h,?_,Qq _⟩
   have h1:M.length=1:=by have:=Qaf hn;omega
   obtain⟨x,rfl⟩:=Qae.mp h1
   have:n=x:=by simpa using hn
   rw[this];rfl
structure Tk (hd hd':Hd) (N:List Int) (n:Int) (z:List Nat):Prop where
 win:Win hd N (some n)
 key:hd n=some z
 oth:∀b,b≠n→hd' b=hd b
 nxt:∀x,hd' n=some x→ZF z x≤0
 up:Zab N
theorem Tk.ge{hd hd':Hd}{N:List Int}{n:Int}{z:List Nat}(h:Tk hd hd' N n z){b:Int}(hb:b∈N){y:List Nat}(hy:hd' b=some y):ZF z y≤0:=by
 by_cases e:b=n
 ·exact h.nxt y (by rw[← e];exact hy)
 ·obtain⟨_,x,hx,hw⟩:=h.win
  rw[h.key]at hx
  cases hx
  rw[h.oth b e]at hy
  rcases hw b hb y hy with z|z
  ·exact absurd z e
  ·rcases z with z|z<;>omega
inductive Ag (hd:Hd) (z:List Nat):List (List Int×List Int)→Int→Int→Prop
 | nil:Ag hd z [] 0 0
 | no {C:List (List Int×List Int)} {A B:List Int} {k q:Int}:Ag hd z C k q→(Win hd A none∨Win hd B none)→Ag hd z (C++[(A,B)]) k q
 | eq {C:List (List Int×List Int)} {A B:List Int} {k q:Int} {a b:Int} {x y:List Nat}:Ag hd z C k q→Win hd A (some a)→Win hd B (some b)→hd a=some x→hd b=some y→lcp x z=lcp y z→Ag hd z (C++[(A,B)]) (k+1) (q+((lcp x y:Nat)-(lcp x z:Nat)+1))
 | ne {C:List (List Int×List Int)} {A B:List Int} {k q:Int} {a b:Int} {x y:List Nat}:Ag hd z C k q→Win hd A (some a)→Win hd B (some b)→hd a=some x→hd b=some y→lcp x z≠lcp y z→Ag hd z (C++[(A,B)]) (k+1) q
theorem Zex{α:Type}{C D:List α}{c d:α}(h:C++[c]=D++[d]):C=D∧c=d:=by
 have:=List.append_inj' h rfl
 exact⟨this.1,by simpa using this.2⟩
theorem Ag.last{hd:Hd}{z:List Nat}{D:List (List Int×List Int)}{k q:Int}(h:Ag hd z D k q):∀ {C:List (List Int×List Int)} {A B:List Int},D=C++[(A,B)]→∃k0 q0,Ag hd z C k0 q0∧(((Win hd A none∨Win hd B none)∧k=k0∧q=q0)∨(∃a b x y,Win hd A (some a)∧Win hd B (some b)∧hd a=some x∧hd b=some y∧k=k0+1∧q=if lcp x z=lcp y z then q0+((lcp x y:Nat)-(lcp x z:Nat)+1) else q0)):=by
 intro C A B e
 cases h with
 | nil=>simp at e
 | no g hw=>obtain⟨rfl,e2⟩:=Zex e;cases e2;exact⟨_,_,g,.inl ⟨hw,rfl,rfl⟩⟩
 | eq g wa wb hx hy he=>obtain⟨rfl,e2⟩:=Zex e;cases e2;exact⟨_,_,g,.inr ⟨_,_,_,_,wa,wb,hx,hy,rfl,by rw[if_pos he]⟩⟩
 | ne g wa wb hx hy he=>obtain⟨rfl,e2⟩:=Zex e;cases e2;exact⟨_,_,g,.inr ⟨_,_,_,_,wa,wb,hx,hy,rfl,by rw[if_neg he]⟩⟩
theorem Ag.one{hd:Hd}{z:List Nat}{C:List (List Int×List Int)}{k q:Int}(h:Ag hd z C k q):∀ {k' q':Int},Ag hd z C k' q'→k=k'∧q=q':=by
 induction h with
 | nil =>
  intro k' q' g
  generalize hC:([]:List (List Int×List Int))=C at g
  cases g with
  | nil=>exact⟨rfl,rfl⟩
  | no _ _=>simp at hC
  | eq _ _ _ _ _ _=>simp at hC
  | ne _ _ _ _ _ _=>simp at hC
 | no g hw ih =>
  intro k' q' g'
  obtain⟨k0,q0,g0,o⟩:=g'.last rfl
  obtain⟨e1,e2⟩:=ih g0
  rcases o with⟨_,rfl,rfl⟩|⟨a,b,x,y,wa,wb,_⟩
  ·exact⟨e1,e2⟩
  ·rcases hw with hw|hw
   ·exact nomatch hw.one wa
   ·exact nomatch hw.one wb
 | eq g wa wb hx hy he ih =>
  intro k' q' g'
  obtain⟨k0,q0,g0,o⟩:=g'.last rfl
  obtain⟨e1,e2⟩:=ih g0
  rcases o with⟨hw,_⟩|⟨a,b,x,y,wa',wb',hx',hy',rfl,rfl⟩
  ·rcases hw with hw|hw
   ·exact nomatch hw.one wa
   ·exact nomatch hw.one wb
  ·have ea:=Qe (wa.one wa')
   have eb:=Qe (wb.one wb')
   subst ea;subst eb
   rw[hx]at hx';cases hx'
   rw[hy]at hy';cases hy'
   rw[if_pos he]
   exact⟨by rw[e1],by rw[e2]⟩
 | ne g wa wb hx hy he ih =>
  intro k' q' g'
  obtain⟨k0,q0,g0,o⟩:=g'.last rfl
  obtain⟨e1,e2⟩:=ih g0
  rcases o with⟨hw,_⟩|⟨a,b,x,y,wa',wb',hx',hy',rfl,rfl⟩
  ·rcases hw with hw|hw
   ·exact nomatch hw.one wa
   ·exact nomatch hw.one wb
  ·have ea:=Qe (wa.one wa')
   have eb:=Qe (wb.one wb')
   subst ea;subst eb
   rw[hx]at hx';cases hx'
   rw[hy]at hy';cases hy'
   rw[if_neg he]
   exact⟨by rw[e1],e2⟩
theorem ZhQ:∀ (x z y:List Nat),lcp z y<lcp x z→ZF x y=ZF z y
 | [],z,y,h=>by rw[lcp_nil']at h;omega
 | _::_,[],y,h=>by rw[ZcW]at h;omega
 | a::x,b::z,[],h=>by unfold ZF;rfl
 | a::x,b::z,c::y,h=>by
  unfold lcp at h
  by_cases e:a=b
  ·subst e
   rw[if_pos rfl]at h
   by_cases e2:a=c
   ·subst e2
    rw[if_pos rfl]at h
    unfold ZF
    rw[if_pos rfl,if_pos rfl]
    exact ZhQ x z y (by omega)
   ·unfold ZF
    rw[if_neg e2,if_neg e2]
  ·rw[if_neg e]at h;omega
theorem ZkK{x z y:List Nat}(h:lcp z y<lcp x z):lcp x y=lcp z y:=by
 have:=Zd7 x y z
 rw[Zbv y z]at this
 omega
theorem ZmP{x z y:List Nat}(h:lcp x z=lcp y z):lcp x z≤lcp x y:=by
 have:=Zd7 x y z
 omega
theorem ZgB{x z y:List Nat}{a b:Int}(h:lcp y z<lcp x z)(hz:ZF z y≤0):Btr x a y b∧lcp x y=lcp y z:=by
 rw[Zbv y z]at h ⊢
 refine⟨.inl ?_,ZkK h⟩
 rw[ZhQ x z y h]
 rcases Int.lt_or_eq_of_le hz with g|g
 ·exact g
 ·have e:=Zfs _ _ g
  subst e
  rw[Zgr]at h
  have:=(Zes x z).2
  omega
abbrev Com:=Option (Int×Int)
def Zgh(hd:Hd)(z:List Nat)(M:List Int)(c:Com):Prop:=Win hd M (c.map (·.1))∧∀p,c=some p→∃x,hd p.1=some x∧p.2=((lcp x z:Nat):Int)
theorem Zj0{hd hd':Hd}{N M:List Int}{n:Int}{z:List Nat}{s:StL}(T:Tk hd hd' N n z)(hM:Sub N M)(h2:2≤M.length)(hn:n∈M)(ok:ZN hd s N) :
  (Win hd' (Zai M n) none∧(ZK s (ZD M)=none∨ZK s (ZD M)=some none))∨∃t b y,Win hd' (Zai M n) (some b)∧hd' b=some y∧b∈N∧ZK s (ZD M)=some (some (t,b,((lcp y z:Nat):Int))):=by
 have r:=hM.rise T.up
 have nd:=ZcX r
 have hno:=Zep r (ZcQ hn)
 have nS:=(ok.sub hM).at_side h2 n
 have hoN:∀b∈Zai M n,b∈M:=fun b hb=>(Zd4 M n).mem_iff.mp (Qn _ hb)
 have hsN:∀b∈Z8 M n,b∈M:=fun b hb=>(Zd4 M n).mem_iff.mp (QG _ hb)
 have wS:Win hd (Z8 M n) (some n):=by
  obtain⟨_,x,hx,hw⟩:=T.win
  exact⟨ZcQ hn,x,hx,fun b hb y hy=>hw b (hM.mem (hsN b hb)) y hy⟩
 have cO:∀m∈Zai M n,hd' m=hd m:=fun m hm=>T.oth m fun e=>hno (e ▸ hm)
 have ndO:(Zai M n).Nodup:=by unfold Zai;split;exact ZcX (ZcZ r);exact ZcX (Zc2 r)
 obtain⟨w,hw⟩:=Win.ex hd (Zai M n) ndO
 cases w with
 | none=>exact .inl ⟨hw.congr cO,nS.2 (.inr hw)⟩
 | some b =>
  obtain⟨y,hy⟩:∃y,hd b=some y:=by obtain⟨_,y,hy,_⟩:=hw;exact⟨y,hy⟩
  obtain⟨t,lz,e,o⟩:=nS.1 n b z y wS hw T.key hy
  have hbM:=hoN b hw.1
  have hbn:b≠n:=fun z=>hno (z ▸ hw.1)
  have hB:Btr z n y b:=by
   obtain⟨_,x,hx,hww⟩:=T.win
   rw[T.key]at hx;cases hx
   exact(hww b (hM.mem hbM) y hy).resolve_left hbn
  have el:lz=b:=by
   rcases o with⟨_,e⟩|⟨e,_⟩
   ·exact e
   ·exact(hB.asym e).elim
  subst el
  exact .inr ⟨t,lz,y,hw.congr cO,by rw[cO lz hw.1];exact hy,hM.mem hbM,by rw[Zbv y z];exact e⟩
theorem Zh8(ns:List Int):(Zc4 ns).length=(ns.length+1) / 2:=by unfold Zc4 mid;rw[Qx];omega
theorem ZhU(ns:List Int):(Ze4 ns).length=ns.length / 2:=by unfold Ze4 mid;rw[QL];omega
def Ze9:Nat→List Int→Int→List (List Int)
 | 0,_,_=>[]
 | f+1,ns,n=>if ns.length≤1 then [] else if n∈Zc4 ns then Ze4 ns::Ze9 f (Zc4 ns) n else Zc4 ns::Ze9 f (Ze4 ns) n
def Zbj(ns:List Int)(n:Int):List Int:=if n∈Zc4 ns then Zc4 ns else Ze4 ns
def Zca(ns:List Int)(n:Int):List Int:=if n∈Zc4 ns then Ze4 ns else Zc4 ns
theorem ZdI{ns:List Int}{n:Int}(h:1<ns.length):(Zbj ns n).length<ns.length:=by
 unfold Zbj
 split
 ·rw[Zh8];omega
 ·rw[ZhU];omega
theorem Zkb{ns:List Int}{n:Int}(h:1<ns.length):0<(Zbj ns n).length:=by
 unfold Zbj
 split
 ·rw[Zh8];omega
 ·rw[ZhU];omega
theorem ZdU{f:Nat}{ns:List Int}{n:Int}(h:1<ns.length):Ze9 (f+1) ns n=Zca ns n::Ze9 f (Zbj ns n) n:=by
 conv=>lhs;unfold Ze9
 rw[if_neg (by omega)]
 unfold Zca Zbj
 split<;>rfl
theorem Zbx{f:Nat}{ns:List Int}{n:Int}(h:ns.length≤1):Ze9 f ns n=[]:=by
 cases f with
 | zero=>rfl
 | succ f=>unfold Ze9;rw[if_pos h]
theorem Zfl:∀ (f g:Nat) (ns:List Int) (n:Int),ns.length≤f+1→ns.length≤g+1→Ze9 f ns n=Ze9 g ns n
 | 0,g,ns,n,h,_=>by rw[Zbx (by omega),Zbx (by omega)]
 | f+1,0,ns,n,_,h=>by rw[Zbx (by omega),Zbx (by omega)]
 | f+1,g+1,ns,n,h1,h2=>by
  by_cases h:1<ns.length
  ·have:=ZdI (n:=n) h
   rw[ZdU h,ZdU h,Zfl f g _ n (by omega) (by omega)]
  ·rw[Zbx (by omega),Zbx (by omega)]
def way(ns:List Int)(n:Int):List (List Int):=Ze9 ns.length ns n
theorem ZgS{ns:List Int}{n:Int}(h:1<ns.length):way ns n=Zca ns n::way (Zbj ns n) n:=by
 unfold way
 cases e:ns.length with
 | zero=>omega
 | succ f =>
  have:=ZdI (n:=n) h
  rw[ZdU h,Zfl f (Zbj ns n).length _ n (by omega) (by omega)]
theorem ZfU{ns:List Int}{n:Int}(h:ns.length≤1):way ns n=[]:=Zbx h
theorem Zie(n:Int):∀ns:List Int,inV (.int n) (ns.map V.int)=decide (n∈ns)
 | []=>rfl
 | m::r=>by
  have ih:=Zie n r
  unfold inV at ih ⊢
  rw[Qg,Q9,ih]
  by_cases h:m=n
  ·subst h;simp[eqV]
  ·have:(m == n)=false:=by simpa using h
   simp[eqV,this,List.mem_cons,Ne.symm h]
theorem Zfq:∀ns:List Int,(ns.map V.int).all ZdD=true
 | []=>rfl
 | _::r=>by rw[Qg,List.all_cons,Zfq r];rfl
def Rd(H:Hp):List Addr→List (List Int)→Prop
 | [],[]=>True
 | l::ls,d::ds=>H l=some (.lst (d.map V.int))∧Rd H ls ds
 | _,_=>False
theorem Rd.len{H:Hp}:∀ {ls:List Addr} {ds:List (List Int)},Rd H ls ds→ls.length=ds.length
 | [],[],_=>rfl
 | [],_::_,h=>h.elim
 | _::_,[],h=>h.elim
 | _::ls,_::ds,h=>by rw[QF,QF,Rd.len h.2]
theorem Rd.mono{H H':Hp}:∀ {ls:List Addr} {ds:List (List Int)},(∀l∈ls,∀o,H l=some o→H' l=some o)→Rd H ls ds→Rd H' ls ds
 | [],[],_,_=>trivial
 | [],_::_,_,h=>h.elim
 | _::_,[],_,h=>h.elim
 | l::ls,_::ds,k,h=>⟨k l (by simp) _ h.1,Rd.mono (fun x hx=>k x (Qw _ hx)) h.2⟩
theorem Rd.app{H:Hp}:∀ {ls:List Addr} {ds:List (List Int)} {ms:List Addr} {es:List (List Int)},Rd H ls ds→Rd H ms es→Rd H (ls++ms) (ds++es)
 | [],[],_,_,_,h=>h
 | [],_::_,_,_,h,_=>h.elim
 | _::_,[],_,_,h,_=>h.elim
 | _::ls,_::ds,_,_,h,g=>⟨h.1,Rd.app h.2 g⟩
theorem Rd.rev{H:Hp}:∀ {ls:List Addr} {ds:List (List Int)},Rd H ls ds→Rd H ls.reverse ds.reverse
 | [],[],h=>h
 | [],_::_,h=>h.elim
 | _::_,[],h=>h.elim
 | l::ls,d::ds,h=>by
  rw[Q7,Q7]
  exact Rd.app (Rd.rev h.2) ⟨h.1,trivial⟩
def Zjh:Sp:=fun vs H Q _=>∃ (a:Addr) (ns:List Int) (n:Int),vs=[.ref a,.int n]∧H a=some (.lst (ns.map V.int))∧1≤ns.length∧ns.length≤100 ∧
 ∀ (r:Addr) (ls:List Addr) (H':Hp),H r=none→H' r=some (.lst (ls.map V.ref))→r ∉ ls→(∀l∈ls,H l=none)→Rd H' ls (way ns n).reverse→Zx H H'→Q (.ref r) H'
def Dn(H:Hp)(a o:Addr)(ns:List Int)(n:Int)(b:Addr)(cur:List Int)(ls:List Addr)(H2:Hp):Prop :=
 ∃done:List (List Int),H2 b=some (.lst (cur.map V.int))∧b≠o∧1≤cur.length∧cur.length≤100∧way ns n=done++way cur n∧Rd H2 ls done∧H2 o=some (.lst (ls.map V.ref))∧Zx H H2∧(∀l∈ls,H l=none)∧o ∉ ls∧ls.length+cur.length≤100
theorem Dn.step{H:Hp}{a o:Addr}{ns:List Int}{n:Int}{b:Addr}{cur:List Int}{ls:List Addr}{H2 H3:Hp}(D:Dn H a o ns n b cur ls H2)(hO:H o=none)(h1:1<cur.length)(s:Zx H2 H3){x y:Addr}(hx:H3 x=some (.lst ((Zbj cur n).map V.int)))(hy:H3 y=some (.lst ((Zca cur n).map V.int)))(nx:H2 x=none)(ny:H2 y=none) :
  Dn H a o ns n x (Zbj cur n) (ls++[y]) (upd H3 o (.lst (ls.map V.ref++[.ref y]))):=by
 obtain⟨done,d1,d2,d3,d4,d5,d6,d7,d8,d9,d10,d11⟩:=D
 have xo:x≠o:=(Zb d7 nx).symm
 have yo:y≠o:=(Zb d7 ny).symm
 have sl:=ZdI (n:=n) h1
 have k:∀l,l≠o→∀u,H3 l=some u→(upd H3 o (.lst (ls.map V.ref++[.ref y]))) l=some u:=fun l hl u hu=>by rw[Zc hl];exact hu
 refine⟨done++[Zca cur n],k x xo _ hx,xo,Zkb h1,by omega,by rw[d5,ZgS h1,List.append_assoc];rfl,?_,?_,fun c u hu=>?_,?_,?_,?_⟩
 ·refine Rd.app (Rd.mono (fun l hl u hu=>k l (fun e=>d10 (e ▸ hl)) u (s _ _ hu)) d6) ⟨k y yo _ hy,trivial⟩
 ·rw[Zg,Qf];rfl
 ·rw[Zc (Zb hu hO)];exact s _ _ (d8 _ _ hu)
 ·intro l hl
  rcases Qk.mp hl with hl|hl
  ·exact d9 l hl
  ·rw[Ql.mp hl];exact d8.free ny
 ·intro hm
  rcases Qk.mp hm with hl|hl
  ·exact d10 hl
  ·exact yo (Ql.mp hl).symm
 ·rw[Qo,QA];omega
theorem Zma(T:Zak K mg cRow cMerge)(f_halves:Df P w K mg base 1 "halves" ["numbers"] (Zdz K true)):Df P w K mg base 2 "way_up" ["numbers", "n"] Zjh:=by
 refine T.t_way_up.df Za3 (fun vs H Q E h=>?_) (fun cdv f A outer s H vs Q E hr h=>?_)
 ·obtain⟨a,ns,n,rfl,_⟩:=h
  rfl
 obtain⟨a,ns,n,rfl,hA,h1,h100,q⟩:=h
 refine⟨_,#[Ze,#[Zv,2,Za3.nd,(Or.inl rfl),#[Zbz,#[Zf]]],#[Ze,#[Zv,3,Za3.nd,(Or.inl rfl),‹0›],#[Ze,(@Zdv _ _ _ _ _ _ PassesOwn.never #[Zo,ZgD,#[Zw,(ZdP K),(by rfl),T.b.n_len,Qs,#[Za,‹3›,#[Zf]]],#[Zh],(Zt _)] #[Ze,#[Za8,#[Zz,f_halves,hr,#[Za,‹3›,#[Zf]],(by rfl)],#[gT,K,2,#[ZV,#[ZR,4,Za3.nd],#[ZV,#[ZR,5,Za3.nd],(@ZbC _)]]]],#[Zi,#[Zat,#[Zo,(inQ K),‹1›,‹4›,(by with_unfolding_all rfl)],#[Ze,#[ZaJ,#[ZeL,QI,QJ,QK,Za4,‹2›,#[Za,‹5›,#[Zf]]]],#[Zi,#[Zv,3,Za3.nd,(Or.inl rfl),‹4›]]],#[Ze,#[ZaJ,#[ZeL,QI,QJ,QK,Za4,‹2›,#[Za,‹4›,#[Zf]]]],#[Zi,#[Zv,3,Za3.nd,(Or.inl rfl),‹5›]]]]]]),#[Ze,#[ZaJ,(@ZlY _ _ _ _ _ _ _ _ _ QI PySem.F.slot_list_reverse PySem.F.type_list_reverse Zhk ‹2› (by rfl) (by rfl))],#[Zi,#[Zs,‹2›]]]]]],?_⟩
 refine⟨(by show 0≤sizeLine;decide),fun o hO=>?_⟩
 have nao:a≠o:=Zb hA hO
 refine⟨_,rfl,?_⟩
 refine⟨fun m σ H2=>∃ (b:Addr) (cur:List Int) (ls:List Addr) (v4 v5:Option V),σ=[some (.ref a),some (.int n),some (.ref o),some (.ref b),v4,v5]∧Dn H a o ns n b cur ls H2∧m=cur.length,⟨_,a,ns,[],none,none,rfl,⟨[],?_,nao,h1,h100,rfl,trivial,Zg,Zl hO _,(fun l hl=>by cases hl),(fun hm=>by cases hm),by simpa using h100⟩,rfl⟩,?_⟩
 ·rw[Zc nao];exact hA
 rintro m σ H2 ⟨b,cur,ls,v4,v5,rfl,D,rfl⟩
 obtain⟨done,d1,d2,d3,d4,d5,d6,d7,d8,d9,d10,d11⟩:=id D
 have hlc:(((cur.map V.int).length:Nat):Int)=(cur.length:Int):=by rw[Qa]
 refine⟨_,rfl,b,_,rfl,.inl (SqL.of d1),_,_,rfl,rfl,_,rfl,?_⟩
 refine Zbd (fun c1=>?_) (fun c1=>?_)
 ·have c1':(1:Int)<(((cur.map V.int).length:Nat):Int):=of_decide_eq_true c1
  have hc:1<cur.length:=by omega
  refine⟨_,fun σ' H' h=>h,?_⟩
  refine⟨_,rfl,b,cur,rfl,SqL.of d1,d4,fun t x y H3 ht hx hy nxy et ex ey s3 ntx nty=>?_⟩
  refine⟨t,_,rfl,SqT.of et,rfl,_,_,rfl,_,_,rfl,rfl,?_⟩
  have ho3:=s3 _ _ d7
  have hlt:(ls.map V.ref).length<sizeLine:=by rw[Qa];exact ZW (by omega)
  have sl:=ZdI (n:=n) hc
  refine⟨_,rfl,_,rfl,x,_,rfl,.inl (SqL.of ex),rfl,Zfq _,_,rfl,?_⟩
  show if inV (V.int n) ((Zc4 cur).map V.int)=true then _ else _
  rw[Zie]
  refine Zbd (fun c2=>?_) (fun c2=>?_)
  ·have c2':n∈Zc4 cur:=of_decide_eq_true c2
   have e1:Zbj cur n=Zc4 cur:=by unfold Zbj;rw[if_pos c2']
   have e2:Zca cur n=Ze4 cur:=by unfold Zca;rw[if_pos c2']
   refine⟨_,rfl,.inl ⟨rfl,_,SqL.of ho3⟩,_,rfl,o,_,_,rfl,rfl,ho3,hlt,_,rfl,_,?_,x,Zbj cur n,ls++[y],_,_,rfl,D.step hO hc s3 (by rw[e1];exact ex) (by rw[e2];exact ey) hx hy,rfl⟩
   exact sl
  ·have c2':¬ n∈Zc4 cur:=fun z=>c2 (decide_eq_true z)
   have e1:Zbj cur n=Ze4 cur:=by unfold Zbj;rw[if_neg c2']
   have e2:Zca cur n=Zc4 cur:=by unfold Zca;rw[if_neg c2']
   refine⟨_,rfl,.inl ⟨rfl,_,SqL.of ho3⟩,_,rfl,o,_,_,rfl,rfl,ho3,hlt,_,rfl,_,?_,y,Zbj cur n,ls++[x],_,_,rfl,D.step hO hc s3 (by rw[e1];exact ey) (by rw[e2];exact ex) hy hx,rfl⟩
   exact sl
 ·have c1':¬ (1:Int)<(((cur.map V.int).length:Nat):Int):=fun z=>c1 (decide_eq_true z)
  have e:way ns n=done:=by rw[d5,ZfU (by omega),List.append_nil]
  refine⟨_,rfl,.inl ⟨rfl,_,SqL.of d7⟩,o,_,rfl,rfl,d7,?_⟩
  refine⟨_,rfl,q o ls.reverse _ hO (by rw[Zg,List.map_reverse]) (fun hm=>d10 (List.mem_reverse.mp hm)) (fun l hl=>d9 l (List.mem_reverse.mp hl)) ?_ fun c u hu=>?_⟩
  ·rw[e]
   refine Rd.mono (fun l hl u hu=>?_) d6.rev
   rw[Zc (fun z=>by subst z;exact d10 (List.mem_reverse.mp hl))]
   exact hu
  ·rw[Zc (Zb hu hO)];exact d8 _ _ hu
theorem Zfh:∀ (k:Nat) (M:List Int) (n:Int),M.length≤2 ^ k→(way M n).reverse=(ZJ k M n).map (fun X=>Zai X n)
 | 0,M,n,h=>by
  rw[ZfU (by simpa using h)];rfl
 | k+1,M,n,h=>by
  unfold ZJ
  by_cases h2:2≤M.length
  ·rw[if_pos h2,ZgS (by omega),Q7,Qf]
   have hs:(Z8 M n).length≤2 ^ k:=by
    rw[Nat.pow_succ]at h
    unfold Z8
    split
    ·unfold lo mid;rw[Qx];omega
    ·unfold up mid;rw[QL];omega
   have e:=Zfh k (Z8 M n) n hs
   rw[← e];rfl
  ·rw[if_neg h2,ZfU (by omega)];rfl
theorem Zjg{M:List Int}(h:2≤M.length)(n:Int):Zai M n≠[]:=by
 unfold Zai
 split
 ·exact Z2 (Zdq h).2
 ·exact Z2 (Zcx h).2
theorem Zhs{M:List Int}(r:Zab M)(h:2≤M.length)(n:Int):ZD M=(if (Zai M n).headD 0<(Z8 M n).headD 0 then (Zai M n).headD 0 else (Z8 M n).headD 0,if (Zai M n).getLastD 0>(Z8 M n).getLastD 0 then (Zai M n).getLastD 0 else (Z8 M n).getLastD 0):=by
 have a:=Zd5 h
 have b:=ZdM h
 have l1:=Zbs (Z2 (Zcx h).2)
 have l2:=Zbp (Z2 (Zcx h).2)
 have u1:=Zbs (Z2 (Zdq h).2)
 have u2:=Zbp (Z2 (Zdq h).2)
 have c:=ZA r l1 u1
 have d:=ZA r l2 u2
 unfold Z8 Zai
 split<;>(refine Prod.ext ?_ ?_<;>dsimp only<;>first|omega|(split<;>omega))
theorem Rd.get{H:Hp}:∀ {ls:List Addr} {ds:List (List Int)},Rd H ls ds→∀ {i:Nat} {l:Addr} {d:List Int},ls[i]? = some l→ds[i]? = some d→H l=some (.lst (d.map V.int))
 | [],[],_,i,l,d,h,_=>by simp at h
 | l::ls,d::ds,⟨h1,h2⟩,0,a,b,e1,e2=>by simp at e1 e2;rw[← e1,← e2];exact h1
 | l::ls,d::ds,⟨h1,h2⟩,i+1,a,b,e1,e2=>Rd.get h2 (by simpa using e1) (by simpa using e2)
def ZfJ:Sp:=fun vs H Q _=>∃ (a:Addr) (N:List Int) (n:Int),vs=[.ref a,.int n]∧H a=some (.lst (N.map V.int))∧n∈N∧N.length≤60∧Zab N ∧
 ∀ (r:Addr) (ts:List Addr) (H':Hp),H r=none→H' r=some (.lst (ts.map V.ref))→ts.length=(ZJ 8 N n).length→(∀ (i:Nat) (t:Addr) (X:List Int),ts[i]? = some t→(ZJ 8 N n)[i]? = some X→H' t=some (.tup [.int (ZD X).1,.int (ZD X).2]))→Zx H H'→Q (.ref r) H'
theorem Zhy(T:Zak K mg cRow cMerge)(f_way_up:Df P w K mg base 2 "way_up" ["numbers", "n"] Zjh):Df P w K mg base 3 "matches_up" ["numbers", "n"] ZfJ:=by
 refine T.t_matches_up.df Zao (fun vs H Q E h=>?_) (fun cdv f A outer s H vs Q E hr h=>?_)
 ·obtain⟨a,N,n,rfl,_⟩:=h
  rfl
 obtain⟨a,N,n,rfl,ha,hn,h60,hup,q⟩:=h
 refine⟨_,#[Ze,#[Zv,2,Zao.nd,(Or.inl rfl),#[Zbz,#[Zf]]],#[Ze,#[Zv,3,Zao.nd,(Or.inl rfl),‹1›],#[Ze,#[Zv,4,Zao.nd,(Or.inl rfl),‹1›],#[Ze,#[Zdi,PassesOwn.never,#[iL,K,#[Zz,f_way_up,hr,#[Za,‹0›,#[Za,‹1›,#[Zf]]],(by rfl)]],#[ZR,5,Zao.nd],#[Ze,#[Zv,3,Zao.nd,(Or.inl rfl),#[Zw,(Zfe rfl),(by rfl),T.b.n_min,boot_min,#[Za,‹3›,#[Za,#[ZC,(ixL K),‹5›,#[Zh]],#[Zf]]]]],#[Ze,#[Zv,4,Zao.nd,(Or.inl rfl),#[Zw,(Zfp rfl),(by rfl),T.b.n_max,boot_max,#[Za,‹4›,#[Za,#[ZC,(ixL K),‹5›,(@ZhM _ _ _ _ _ _ ZfZ #[Zh])],#[Zf]]]]],#[Zi,#[ZaJ,#[ZeL,QI,QJ,QK,Za4,‹2›,#[Za,#[Za9,#[Za,‹3›,#[Za,‹4›,#[Zf]]]],#[Zf]]]]]]]],#[Zi,#[Zs,‹2›]]]]]],?_⟩
 have hpos:=Qaf hn
 have hpw:N.length≤2 ^ 8:=QC h60 (by decide)
 obtain⟨cok,ctop,clen⟩:=Zeq 8 N n hn hpw
 refine⟨(by show 0≤sizeLine;decide),fun r hr0=>?_⟩
 have s1:=Zl hr0 (.lst [])
 have hr1:(upd H r (.lst [])) r=some (.lst []):=Zg
 generalize upd H r (.lst [])=H1 at s1 hr1 ⊢
 refine⟨_,rfl,_,rfl,_,rfl,_,rfl,a,N,n,rfl,s1 _ _ ha,hpos,by omega,fun wy ls H2 hwy hwy2 hnot hfr hrd s2=>?_⟩
 rw[Zfh 8 N n hpw]at hrd
 have hll:=hrd.len
 rw[Qa]at hll
 have s02:=s1.trans s2
 refine⟨wy,rfl,⟨_,SqL.of hwy2⟩,?_⟩
 refine Zgt (K:=K) (a:=wy) (xs:=ls.map V.ref) (fun i σ H3=>∃ (v5:Option V) (ts:List Addr),σ=[some (.ref a),some (.int n),some (.ref r),some (.int ((low n (ZJ 8 N n) i).headD 0)),some (.int ((low n (ZJ 8 N n) i).getLastD 0)),v5]∧i≤ls.length∧ts.length=i∧H3 r=some (.lst (ts.map V.ref))∧(∀ (j:Nat) (t:Addr) (X:List Int),ts[j]? = some t→(ZJ 8 N n)[j]? = some X→H3 t=some (.tup [.int (ZD X).1,.int (ZD X).2]))∧(∀t∈ts,t≠r∧∃xs,H3 t=some (.tup xs))∧(∀b o,H2 b=some o→b≠r→H3 b=some o)) ⟨_,[],rfl,Qq _,rfl,s2 _ _ hr1,(fun j t X h=>by simp at h),(fun t h=>by cases h),fun b o h _=>h⟩ (fun i σ H3 _ ⟨_,_,_,_,_,_,_,_,k3⟩=>SqL.of (k3 _ _ hwy2 (fun z=>by rw[z,hr1]at hwy;cases hwy))) ?_ ?_
 ·rintro i y σ H3 hy ⟨v5,ts,rfl,hi,htl,hr3,hts,htr,k3⟩
  rw[Qp]at hy
  cases hz:ls[i]? with
  | none=>rw[hz]at hy;cases hy
  | some l =>
  rw[hz]at hy
  cases hy
  have hil:i<ls.length:=(Qh.mp hz).1
  cases hX:(ZJ 8 N n)[i]? with
  | none=>rw[List.getElem?_eq_none_iff]at hX;omega
  | some X =>
  obtain⟨x1,x2,x3,x4⟩:=cok i X hX
  have hl2:H2 l=some (.lst ((Zai X n).map V.int)):=hrd.get hz (by rw[Qp,hX];rfl)
  have nlr:l≠r:=fun z=>by rw[z]at hl2;rw[s2 _ _ hr1]at hl2;have:=hfr l (Qy hz);rw[z,hr1]at this;cases this
  have hl3:=k3 _ _ hl2 nlr
  have hne:=Zjg x2 n
  have e2:=Zhs (x1.rise hup) x2 n
  rw[x4]at e2
  have e3:low n (ZJ 8 N n) (i+1)=X:=by show (ZJ 8 N n).getD i []=X;rw[Qt,hX];rfl
  refine⟨_,rfl,_,rfl,l,_,_,_,rfl,rfl,SqL.of hl3,Zgw hne,_,_,rfl,?_⟩
  refine⟨_,rfl,_,rfl,_,rfl,l,_,_,_,rfl,rfl,SqL.of hl3,Zg2 hne,_,_,rfl,?_⟩
  refine⟨_,rfl,.inl ⟨rfl,_,SqL.of hr3⟩,_,rfl,_,rfl,(by show 2≤sizeLine;decide),fun t ht=>?_⟩
  have nrt:r≠t:=Zb hr3 ht
  refine⟨r,_,_,rfl,rfl,by rw[Zc nrt];exact hr3,(by rw[Qa];exact ZW (by omega)),?_⟩
  refine⟨some (.ref l),ts++[t],?_,hil,by rw[Qo,QA];omega,by rw[Zg,Qf];rfl,fun j u Y hu hY=>?_,fun u hu=>?_,fun b o hb nb=>?_⟩
  ·rw[e3]
   have h1:=congrArg Prod.fst e2
   have h2:=congrArg Prod.snd e2
   simp only at h1 h2
   rw[show X.headD 0=(ZD X).1 from rfl,show X.getLastD 0=(ZD X).2 from rfl,h1,h2]
   rfl
  ·have htuple:∀ (u:Addr) (xs:List V),H3 u=some (.tup xs)→(upd (upd H3 t (.tup [.int (if (Zai X n).headD 0<(low n (ZJ 8 N n) i).headD 0 then (Zai X n).headD 0 else (low n (ZJ 8 N n) i).headD 0),.int (if (Zai X n).getLastD 0>(low n (ZJ 8 N n) i).getLastD 0 then (Zai X n).getLastD 0 else (low n (ZJ 8 N n) i).getLastD 0)])) r (.lst (ts.map V.ref++[.ref t]))) u=some (.tup xs):=fun u xs hu=>by
    rw[Zc (fun z=>by rw[z,hr3]at hu;cases hu),Zc (Zb hu ht)];exact hu
   by_cases hj:j<ts.length
   ·rw[QR hj]at hu
    exact htuple u _ (hts j u Y hu hY)
   ·have ej:j=ts.length:=by have:=(Qh.mp hu).1;rw[Qo,QA]at this;omega
    subst ej
    rw[QM (Qd _),Nat.sub_self]at hu
    cases hu
    rw[htl,hX]at hY
    cases hY
    rw[Zc nrt.symm,Zg,e2]
  ·rcases Qk.mp hu with hu|hu
   ·obtain⟨g1,xs,g2⟩:=htr u hu
    exact⟨g1,xs,by rw[Zc g1,Zc (Zb g2 ht)];exact g2⟩
   ·rw[Ql.mp hu]
    exact⟨nrt.symm,_,by rw[Zc nrt.symm];exact Zg⟩
  ·have:=k3 b o hb nb
   rw[Zc nb,Zc (Zb this ht)];exact this
 ·rintro σ H3 ⟨v5,ts,rfl,_,htl,hr3,hts,_,k3⟩
  rw[Qa]at htl
  exact⟨_,rfl,q r ts H3 hr0 hr3 (by omega) hts (fun b o hb=>k3 b o (s02 b o hb) (Zb hb hr0))⟩
def CV(H:Hp)(v:V)(c:Com):Prop:=(c=none∧v=.non)∨∃ (t:Addr) (p:Int×Int),c=some p∧v=.ref t∧H t=some (.tup [.int p.1,.int p.2])
theorem CV.keep{H H':Hp}{v:V}{c:Com}(h:CV H v c)(k:∀t xs,H t=some (.tup xs)→H' t=some (.tup xs)):CV H' v c:=by
 rcases h with h|⟨t,p,h1,h2,h3⟩
 ·exact .inl h
 ·exact .inr ⟨t,p,h1,h2,k _ _ h3⟩
theorem Zjf{s:StL}{k:Int×Int}{v0:Option (Addr×Int×Int)}(h:ZK s k=some v0):s.any (fun e=>decide (e.1=k))=true:=List.any_eq_true.mpr ⟨_,Zfu h,decide_eq_true rfl⟩
theorem ZdR{s:StL}{k:Int×Int}{v0 v:Option (Addr×Int×Int)}(h:ZK s k=some v0):(ZbO s k v).length=s.length:=by
 unfold ZbO
 rw[if_pos (Zjf h),Qa]
def AgS(hd:Hd)(z:List Nat)(A B:List Int)(k q:Int):Prop:=∀C k0 q0,Ag hd z C k0 q0→Ag hd z (C++[(A,B)]) (k0+k) (q0+q)
def Zih(cR cM:Addr):Sp:=fun vs H Q _=>∃ (m rd sd:Addr) (L:List Zu) (s:StL) (nb li lo:Int) (best:V) (tm:Addr) (v:V) (c:Com) (z:List Nat) (M:List Int) (n:Int),vs=[.ref m,.ref tm,v]∧ZG cR cM H m rd sd L s nb li lo best∧H tm=some (.tup [.int (ZD M).1,.int (ZD M).2])∧CV H v c∧Zgh (hdM L) z (Z8 M n) c ∧
 ((Win (hdM L) (Zai M n) none∧(ZK s (ZD M)=none∨ZK s (ZD M)=some none))∨∃t b y,Win (hdM L) (Zai M n) (some b)∧hdM L b=some y∧ZK s (ZD M)=some (some (t,b,((lcp y z:Nat):Int)))) ∧
 (∀b∈M,∀y,hdM L b=some y→ZF z y≤0)∧Zab M∧(∀b∈M,b∈Zr L)∧2≤M.length∧n∈M ∧
 ∀ (v':V) (c':Com) (s':StL) (k q:Int) (H':Hp),CV H' v' c'→Zgh (hdM L) z M c'→Zdc (hdM L) s' (Z8 M n) (Zai M n) (ZD M)→(∀j,j≠ZD M→ZK s' j=ZK s j)→AgS (hdM L) z (Z8 M n) (Zai M n) k q →
  ZG cR cM H' m rd sd L s' nb (li+k) (lo+q) best→(∀b o,H b=some o→b≠m→b≠sd→H' b=some o)→Q v' H'
theorem Zkg{L:List Zu}(nd:(Zr L).Nodup){b:Int}(hb:b∈Zr L){y:List Nat}(hy:hdM L b=some y):∃e∈L,e.n=b∧∃x,e.ss[e.g]? = some x∧y=cds x:=by
 obtain⟨e,he,rfl⟩:=ZcL hb
 rw[Zdm nd he]at hy
 cases hx:e.ss[e.g]? with
 | none=>rw[hx]at hy;cases hy
 | some x=>rw[hx]at hy;cases hy;exact⟨e,he,rfl,x,hx,rfl⟩
theorem ZjD(T:Zak K mg cRow cMerge)(f_Merge_meet:Mf P w K mg base 3 cMerge "meet" ["self", "one", "other", "far"] (Zg9 cRow cMerge)):Mf P w K mg base 4 cMerge "play_again" ["self", "meeting", "comer"] (Zih cRow cMerge):=by
 refine T.t_Merge_play_again.mf Zac (fun vs H Q E h=>?_) (fun cdv f A outer s H vs Q E hr h=>?_)
 ·obtain⟨m,rd,sd,L,s,nb,li,lo,best,tm,v,c,z,M,n,rfl,_⟩:=h
  rfl
 obtain⟨m,rd,sd,L,s,nb,li,lo',best,tm,v,c,z,M,n,rfl,Mg,htm,hcv,⟨wS,hcf⟩,hst,hge,hup,hin,h2,hn,q⟩:=h
 refine⟨_,#[Ze,#[Zv,3,Zac.nd,(Or.inl rfl),(@ZlW _ _ _ _ _ _ _ _ hr #[ZL,‹0›] ‹1› (by rfl) (by rfl) (by rfl))],#[Ze,#[Zat,#[Zo,ZbK,‹3›,#[Zae],(Zt _)],#[Zi,#[Zs,‹2›]],#[ZM]],#[Ze,#[Zat,#[Zo,ZbK,‹2›,#[Zae],(Zt _)],#[Ze,#[Za8,#[Zae],#[Zcv,#[ZL,‹0›],‹1›,(Zi1 hr)]],#[Zi,#[Zs,‹3›]]],#[ZM]],#[Ze,#[Zat,#[Zo,Zcn,#[ZC,(ixT K),‹2›,#[Zh]],#[ZC,(ixT K),‹3›,#[Zh]],(Zt _)],#[Ze,#[Za8,#[Zda,f_Merge_meet,T.cl_Merge,hr,‹0›,#[Za,#[ZC,(ixT K),‹2›,#[Zh]],#[Za,#[ZC,(ixT K),‹3›,#[Zh]],#[Za,#[ZC,(ixT K),‹2›,#[Zh]],#[Zf]]]]],#[gT,K,3,#[ZV,#[ZR,4,Zac.nd],#[ZV,#[ZR,5,Zac.nd],#[ZV,#[ZR,6,Zac.nd],(@ZbC _)]]]]],#[Ze,#[Za8,#[Za9,#[Za,‹5›,#[Za,‹6›,#[Zf]]]],#[Zcv,#[ZL,‹0›],‹1›,(Zi1 hr)]],#[Zi,#[Zs,#[Za9,#[Za,‹4›,#[Za,#[ZC,(ixT K),‹2›,#[Zh]],#[Zf]]]]]]]],#[ZM]],#[Ze,#[ZbZ,‹0›,#[Zh],ZeP],#[Ze,#[Zat,#[Zo,ZgD,#[ZC,(ixT K),‹2›,#[Zh]],#[ZC,(ixT K),‹3›,#[Zh]],(Zt _)],#[Zi,#[Zs,‹2›]],#[ZM]],#[Ze,#[Za8,‹2›,#[Zcv,#[ZL,‹0›],‹1›,(Zi1 hr)]],#[Zi,#[Zs,‹3›]]]]]]]]],?_⟩
 obtain⟨dx,hm⟩:=Mg.ob
 have htm':H tm=some (.tup (([.inl (ZD M).1,.inl (ZD M).2]:List Key).map kV)):=htm
 have pm:=Zd4 M n
 have dg:=Zbg.t (k:=[.inl (ZD M).1,.inl (ZD M).2]) Mg.stays htm'
 rw[ZgX]at dg
 have sA:∀b∈Z8 M n,b∈M:=fun b hb=>pm.mem_iff.mp (QG _ hb)
 have sB:∀b∈Zai M n,b∈M:=fun b hb=>pm.mem_iff.mp (Qn _ hb)
 have hno:=Zep hup (ZcQ hn)
 have dis:∀a b,a∈Z8 M n→b∈Zai M n→a≠b:=fun a b ha hb e=>by
  subst e
  unfold Z8 Zai at *
  split at ha
  ·rename_i hl;rw[if_pos hl]at hb;have:=ZA hup ha hb;omega
  ·rename_i hl;rw[if_neg hl]at hb;have:=ZA hup hb ha;omega
 refine⟨_,rfl,m,cMerge,dx,_,_,rfl,hm,T.cl_Merge,T.na_Merge_stays,Zb1 ..,sd,rfl,.inr ⟨_,.inl Mg.stays⟩,_,rfl,_,dg,?_⟩
 rcases hst with⟨wO,hlk⟩|⟨t,b,y,wO,hy,hlk⟩
 ·have ev:((ZK s (ZD M)).map stV).getD .non=.non:=by rcases hlk with e|e<;>rw[e]<;>rfl
  rw[ev]
  refine⟨_,rfl,rfl,_,rfl,Zeu rfl ⟨_,rfl,q v c s 0 0 H hcv ⟨(Win.left wS wO).perm pm,hcf⟩ ⟨(fun a b x y _ wb _ _=>nomatch wO.one wb),fun _=>hlk⟩ (fun _ _=>rfl) (fun C k0 q0 g=>by rw[Q0,Q0];exact .no g (.inr wO)) (Mg.cast (by omega) (by omega)) (fun b o h _ _=>h)⟩⟩
 have hat:=Mg.ats _ (Zfu hlk) _ rfl
 have e1:((ZK s (ZD M)).map stV).getD .non=.ref t:=by rw[hlk];rfl
 rw[e1]
 have hsf:=Mg.sfew
 have hsl:(kvS s).length<sizeLine:=by unfold kvS;rw[Qa];exact ZW (by omega)
 refine⟨_,rfl,rfl,_,rfl,Zcs (fun z=>nomatch z) ?_⟩
 have hbM:=sB b wO.1
 rcases hcv with⟨rfl,rfl⟩|⟨tc,p,rfl,rfl,htc⟩
 ·refine⟨_,rfl,rfl,_,rfl,Zeu rfl ?_⟩
  refine⟨_,rfl,m,cMerge,dx,_,_,rfl,hm,T.cl_Merge,T.na_Merge_stays,Zb1 ..,_,rfl,sd,_,rfl,Zdu.t (k:=[.inl (ZD M).1,.inl (ZD M).2]) Mg.stays htm' hsl,?_⟩
  rw[show V.non=stV none from rfl,Zek]
  have hl1:(ZbO s (ZD M) none).length≤100:=by rw[ZdR hlk];exact hsf
  have M2:=Mg.put (k:=ZD M) (v:=none) (fun t ht=>by cases ht) hl1
  have wS':Win (hdM L) (Z8 M n) none:=wS
  refine⟨_,rfl,q (.ref t) (some (b,((lcp y z:Nat):Int))) _ 0 0 _ (.inr ⟨t,_,rfl,rfl,?_⟩) ⟨(Win.right wS' wO).perm pm,fun p hp=>?_⟩ ⟨(fun a b x y wa _ _ _=>nomatch wS'.one wa),fun _=>.inr ?_⟩ (fun j hj=>?_) (fun C k0 q0 g=>?_) (M2.cast (by omega) (by omega)) (fun b o hb _ n2=>by rw[Zc n2];exact hb)⟩
  ·rw[Zc (fun z=>by rw[z,Mg.stays]at hat;cases hat)];exact hat
  ·cases hp;exact⟨y,hy,rfl⟩
  ·rw[ZaA,if_pos rfl]
  ·rw[ZaA,if_neg hj]
  ·rw[Q0,Q0];exact .no g (.inl wS')
 obtain⟨a,fa⟩:=p
 obtain⟨x,hx,efa⟩:=hcf _ rfl
 simp only at hx efa
 subst efa
 have wS':Win (hdM L) (Z8 M n) (some a):=wS
 have haM:=sA a wS'.1
 have hab:=dis a b wS'.1 wO.1
 obtain⟨ea,hea,rfl,zx,hzx,rfl⟩:=Zkg Mg.nd (hin a haM) hx
 obtain⟨eb,heb,rfl,zy,hzy,rfl⟩:=Zkg Mg.nd (hin b hbM) hy
 have c0:atI [V.int ea.n,.int ((lcp (cds zx) z:Nat):Int)] 0=some (.int ea.n):=Zaw (j:=0) rfl
 have c1:atI [V.int ea.n,.int ((lcp (cds zx) z:Nat):Int)] 1=some (.int ((lcp (cds zx) z:Nat):Int)):=Zaw (j:=1) rfl
 have d0:atI [V.int eb.n,.int ((lcp (cds zy) z:Nat):Int)] 0=some (.int eb.n):=Zaw (j:=0) rfl
 have d1:atI [V.int eb.n,.int ((lcp (cds zy) z:Nat):Int)] 1=some (.int ((lcp (cds zy) z:Nat):Int)):=Zaw (j:=1) rfl
 refine⟨_,rfl,rfl,_,rfl,Zcs (fun z=>nomatch z) ?_⟩
 refine⟨_,rfl,tc,_,_,_,rfl,rfl,SqT.of htc,c1,_,rfl,t,_,_,_,rfl,rfl,SqT.of hat,d1,rfl,_,rfl,Zbd (fun d=>?_) (fun d=>?_)⟩
 ·have ef:lcp (cds zx) z=lcp (cds zy) z:=by have:=of_decide_eq_true d;injection this with this;omega
  have hle:=ZmP ef
  refine⟨_,rfl,m,dx,_,rfl,hm,ZeB ..,_,rfl,tc,_,_,_,rfl,rfl,SqT.of htc,c0,_,rfl,t,_,_,_,rfl,rfl,SqT.of hat,d0,_,rfl,tc,_,_,_,rfl,rfl,SqT.of htc,c1,?_⟩
  refine⟨m,rd,sd,L,s,nb,li,lo',best,ea,eb,zx,zy,lcp (cds zx) z,rfl,Mg,hea,heb,hzx,hzy,hle,fun t5 wi lz H5 hw ht5 ht5' M5 b5=>?_⟩
  refine⟨t5,_,rfl,SqT.of ht5',rfl,_,_,rfl,_,_,rfl,_,_,rfl,rfl,?_⟩
  have sz2:2≤sizeLine:=by decide
  refine⟨_,rfl,_,rfl,sz2,fun t6 ht6=>?_⟩
  have s6:=Zl ht6 (.tup [.int lz,.int ((lcp (cds zx) (cds zy):Nat):Int)])
  have ht66:(upd H5 t6 (.tup [.int lz,.int ((lcp (cds zx) (cds zy):Nat):Int)])) t6=some (.tup [.int lz,.int ((lcp (cds zx) (cds zy):Nat):Int)]):=Zg
  have M6:=M5.same s6
  generalize upd H5 t6 (.tup [.int lz,.int ((lcp (cds zx) (cds zy):Nat):Int)])=H6 at s6 ht66 M6 ⊢
  obtain⟨dx6,hm6⟩:=M6.ob
  have ntm:tm≠m:=fun z=>by rw[z,hm]at htm;cases htm
  have ntc:tc≠m:=fun z=>by rw[z,hm]at htc;cases htc
  have htm6:H6 tm=some (.tup (([.inl (ZD M).1,.inl (ZD M).2]:List Key).map kV)):=s6 _ _ (b5 _ _ htm' ntm)
  refine⟨_,rfl,m,cMerge,dx6,_,_,rfl,hm6,T.cl_Merge,T.na_Merge_stays,Zb1 ..,_,rfl,sd,_,rfl,Zdu.t (k:=[.inl (ZD M).1,.inl (ZD M).2]) M6.stays htm6 hsl,?_⟩
  rw[show V.ref t6=stV (some (t6,lz,((lcp (cds zx) (cds zy):Nat):Int))) from rfl,Zek]
  have hl1:(ZbO s (ZD M) (some (t6,lz,((lcp (cds zx) (cds zy):Nat):Int)))).length≤100:=by rw[ZdR hlk];exact hsf
  have M7:=M6.put (k:=ZD M) (v:=some (t6,lz,((lcp (cds zx) (cds zy):Nat):Int))) (fun t ht=>by injection ht with ht;rw[← ht];exact ht66) hl1
  have b7:∀b o,H b=some o→b≠m→b≠sd→(upd H6 sd (.dT (kvS (ZbO s (ZD M) (some (t6,lz,((lcp (cds zx) (cds zy):Nat):Int))))))) b=some o:=fun b o hb n1 n2=>by rw[Zc n2];exact s6 _ _ (b5 b o hb n1)
  have ntcs:tc≠sd:=fun z=>by rw[z,Mg.stays]at htc;cases htc
  generalize upd H6 sd (.dT (kvS (ZbO s (ZD M) (some (t6,lz,((lcp (cds zx) (cds zy):Nat):Int))))))=H7 at M7 b7 ⊢
  refine⟨_,rfl,_,rfl,tc,_,_,_,rfl,rfl,SqT.of (b7 _ _ htc ntc ntcs),c1,sz2,fun t8 ht8=>?_⟩
  have wn:Win (hdM L) M (some wi):=by
   rcases hw with⟨w0,rfl,_⟩|⟨w0,rfl,_⟩
   ·exact(Win.both wS' wO hx hy w0).perm pm
   ·exact(Win.both' wS' wO hx hy ((Btr.total hab).resolve_left w0)).perm pm
  refine q (.ref t8) (some (wi,((lcp (cds zx) z:Nat):Int))) _ 1 ((lcp (cds zx) (cds zy):Nat)-(lcp (cds zx) z:Nat)+1) _ (.inr ⟨t8,_,rfl,rfl,Zg⟩) ⟨wn,fun p hp=>?_⟩ ⟨fun a b x' y' wa wb hxa hyb=>?_,fun hno=>?_⟩ (fun j hj=>by rw[ZaA,if_neg hj]) (fun C k0 q0 g=>.eq g wS' wO hx hy ef) ((M7.same (Zl ht8 _)).cast rfl rfl) (fun b o hb n1 n2=>Zl ht8 _ _ _ (b7 b o hb n1 n2))
  ·cases hp
   rcases hw with⟨w0,rfl,_⟩|⟨w0,rfl,_⟩
   ·exact⟨_,hx,rfl⟩
   ·exact⟨_,hy,by simp only;rw[ef]⟩
  ·have e1:=Qe (wa.one wS')
   have e2:=Qe (wb.one wO)
   subst e1
   subst e2
   have e3:=Qe (hxa.symm.trans hx)
   have e4:=Qe (hyb.symm.trans hy)
   subst e3
   subst e4
   refine⟨t6,lz,by rw[ZaA,if_pos rfl],?_⟩
   rcases hw with⟨w0,_,rfl⟩|⟨w0,_,rfl⟩
   ·exact .inl ⟨w0,rfl⟩
   ·exact .inr ⟨(Btr.total hab).resolve_left w0,rfl⟩
  ·rcases hno with z|z
   ·exact nomatch z.one wS'
   ·exact nomatch z.one wO
 have nef:lcp (cds zx) z≠lcp (cds zy) z:=fun e=>d (decide_eq_true (by rw[e]))
 refine⟨_,rfl,m,cMerge,dx,_,_,rfl,hm,T.cl_Merge,T.na_Merge_likened,ZcF ..,_,_,rfl,rfl,dx,_,hm,Zbl ..,?_⟩
 rw[Zcp]
 have M2:=Mg.obj (nb':=nb) (li':=li+1) (lo':=lo') (best':=best) (dx:=dx)
 have k2:∀b o,H b=some o→b≠m→(upd H m (.ins cMerge dx (mgF rd nb (li+1) lo' sd best))) b=some o:=fun b o hb n=>by rw[Zc n];exact hb
 have ntc:tc≠m:=fun z=>by rw[z,hm]at htc;cases htc
 have ntt:t≠m:=fun z=>by rw[z,hm]at hat;cases hat
 have ntm:tm≠m:=fun z=>by rw[z,hm]at htm;cases htm
 generalize upd H m (.ins cMerge dx (mgF rd nb (li+1) lo' sd best))=H2 at M2 k2 ⊢
 have htc2:=k2 _ _ htc ntc
 have hat2:=k2 _ _ hat ntt
 refine⟨_,rfl,tc,_,_,_,rfl,rfl,SqT.of htc2,c1,_,rfl,t,_,_,_,rfl,rfl,SqT.of hat2,d1,_,_,rfl,rfl,_,rfl,Zbd (fun g=>?_) (fun g=>?_)⟩
 ·have hgt:lcp (cds zy) z<lcp (cds zx) z:=by have:((lcp (cds zy) z:Nat):Int)<((lcp (cds zx) z:Nat):Int):=of_decide_eq_true g;omega
  obtain⟨bt,el⟩:=ZgB (a:=ea.n) (b:=eb.n) hgt (hge _ hbM _ hy)
  refine⟨_,rfl,q (.ref tc) (some (ea.n,((lcp (cds zx) z:Nat):Int))) s 1 0 H2 (.inr ⟨tc,_,rfl,rfl,htc2⟩) ⟨(Win.both wS' wO hx hy bt).perm pm,fun p hp=>by cases hp;exact⟨_,hx,rfl⟩⟩ ⟨fun a b x' y' wa wb hxa hyb=>?_,fun hno=>?_⟩ (fun _ _=>rfl) (fun C k0 q0 g=>by rw[Q0];exact .ne g wS' wO hx hy nef) (M2.cast rfl (by omega)) (fun b o hb n1 _=>k2 b o hb n1)⟩
  ·have e1:=Qe (wa.one wS')
   have e2:=Qe (wb.one wO)
   subst e1
   subst e2
   have e3:=Qe (hxa.symm.trans hx)
   have e4:=Qe (hyb.symm.trans hy)
   subst e3
   subst e4
   exact⟨t,_,by rw[el];exact hlk,.inl ⟨bt,rfl⟩⟩
  ·rcases hno with z|z
   ·exact nomatch z.one wS'
   ·exact nomatch z.one wO
 ·have hlt:lcp (cds zx) z<lcp (cds zy) z:=by
   have:¬ ((lcp (cds zy) z:Nat):Int)<((lcp (cds zx) z:Nat):Int):=fun e=>g (decide_eq_true e)
   omega
  obtain⟨bt,el⟩:=ZgB (a:=eb.n) (b:=ea.n) hlt (hge _ haM _ hx)
  obtain⟨dx2,hm2⟩:=M2.ob
  have htm2:H2 tm=some (.tup (([.inl (ZD M).1,.inl (ZD M).2]:List Key).map kV)):=k2 _ _ htm' ntm
  refine⟨_,rfl,_,rfl,m,cMerge,dx2,_,_,rfl,hm2,T.cl_Merge,T.na_Merge_stays,Zb1 ..,_,rfl,sd,_,rfl,Zdu.t (k:=[.inl (ZD M).1,.inl (ZD M).2]) M2.stays htm2 hsl,?_⟩
  rw[show V.ref tc=stV (some (tc,ea.n,((lcp (cds zx) z:Nat):Int))) from rfl,Zek]
  have hl1:(ZbO s (ZD M) (some (tc,ea.n,((lcp (cds zx) z:Nat):Int)))).length≤100:=by rw[ZdR hlk];exact hsf
  have M3:=M2.put (k:=ZD M) (v:=some (tc,ea.n,((lcp (cds zx) z:Nat):Int))) (fun t ht=>by injection ht with ht;rw[← ht];exact htc2) hl1
  refine⟨_,rfl,q (.ref t) (some (eb.n,((lcp (cds zy) z:Nat):Int))) _ 1 0 _ (.inr ⟨t,_,rfl,rfl,?_⟩) ⟨(Win.both' wS' wO hx hy bt).perm pm,fun p hp=>by cases hp;exact⟨_,hy,rfl⟩⟩ ⟨fun a b x' y' wa wb hxa hyb=>?_,fun hno=>?_⟩ (fun j hj=>by rw[ZaA,if_neg hj]) (fun C k0 q0 g=>by rw[Q0];exact .ne g wS' wO hx hy nef) (M3.cast rfl (by omega)) (fun b o hb n1 n2=>by rw[Zc n2];exact k2 b o hb n1)⟩
  ·rw[Zc (fun z=>by rw[z,M2.stays]at hat2;cases hat2)];exact hat2
  ·have e1:=Qe (wa.one wS')
   have e2:=Qe (wb.one wO)
   subst e1
   subst e2
   have e3:=Qe (hxa.symm.trans hx)
   have e4:=Qe (hyb.symm.trans hy)
   subst e3
   subst e4
   exact⟨tc,_,by rw[ZaA,if_pos rfl,Zbv (cds zx) (cds zy),el],.inr ⟨bt,rfl⟩⟩
  ·rcases hno with z|z
   ·exact nomatch z.one wS'
   ·exact nomatch z.one wO
def Zb3(n:Int)(e:Zu):Zu:=if e.n=n then ⟨e.n,e.p,e.k,e.f,e.ss,e.g+1⟩ else e
def bump(L:List Zu)(n:Int):List Zu:=L.map (Zb3 n)
theorem Zcm(n:Int)(e:Zu):(Zb3 n e).n=e.n∧(Zb3 n e).p=e.p∧(Zb3 n e).k=e.k∧(Zb3 n e).f=e.f∧(Zb3 n e).ss=e.ss:=by unfold Zb3;split<;>exact⟨rfl,rfl,rfl,rfl,rfl⟩
theorem Zdt{n:Int}{e:Zu}(h:e.n=n):Zb3 n e=⟨e.n,e.p,e.k,e.f,e.ss,e.g+1⟩:=if_pos h
theorem ZeH{n:Int}{e:Zu}(h:¬ e.n=n):Zb3 n e=e:=if_neg h
theorem Zbr(L:List Zu)(n:Int):Zr (bump L n)=Zr L:=by
 unfold Zr bump
 rw[Qr]
 exact QO fun e _=>(Zcm n e).1
theorem Zlv(L:List Zu)(n:Int):(bump L n).map (·.p)=L.map (·.p):=by
 unfold bump
 rw[Qr]
 exact QO fun e _=>(Zcm n e).2.1
theorem Zj7(L:List Zu)(n:Int):kvM (bump L n)=kvM L:=by
 unfold kvM bump
 rw[Qr]
 refine QO fun e _=>?_
 simp only[Function.comp]
 rw[(Zcm n e).1,(Zcm n e).2.1]
theorem Zlf{m rd sd:Addr}{L:List Zu}{n:Int}{b:Addr}(h:Fp m rd sd (bump L n) b):Fp m rd sd L b:=by
 rcases h with h|h|h|⟨e',he',h⟩
 ·exact .inl h
 ·exact .inr (.inl h)
 ·exact .inr (.inr (.inl h))
 ·obtain⟨e,he,rfl⟩:=Qu.mp he'
  obtain⟨_,h1,h2,h3,_⟩:=Zcm n e
  rw[h1,h2,h3]at h
  exact .inr (.inr (.inr ⟨e,he,h⟩))
theorem Fp_bump'{m rd sd:Addr}{L:List Zu}{n:Int}{b:Addr}(h:Fp m rd sd L b):Fp m rd sd (bump L n) b:=by
 rcases h with h|h|h|⟨e,he,h⟩
 ·exact .inl h
 ·exact .inr (.inl h)
 ·exact .inr (.inr (.inl h))
 ·obtain⟨_,h1,h2,h3,_⟩:=Zcm n e
  refine .inr (.inr (.inr ⟨Zb3 n e,Qc he,?_⟩))
  rw[h1,h2,h3]
  exact h
theorem Zh3{n b:Int}(h:b≠n):∀L:List Zu,hdM (bump L n) b=hdM L b
 | []=>rfl
 | e::L=>by
  have ih:=Zh3 h L
  unfold hdM hdL bump at ih ⊢
  rw[Qg,Qg,Qg,QZ,QZ]
  have e1:(toL (Zb3 n e)).1=e.n:=(Zcm n e).1
  rw[e1]
  by_cases he:e.n=b
  ·rw[decide_eq_true he,decide_eq_true (show (toL e).1=b from he),ZeH (fun z=>h (he.symm.trans z))]
  ·rw[decide_eq_false he,decide_eq_false (show ¬ (toL e).1=b from he)]
   exact ih
theorem Zgo{L:List Zu}(nd:(Zr L).Nodup){e:Zu}(he:e∈L):hdM (bump L e.n) e.n=(e.ss[e.g+1]?).map cds:=by
 have hm:Zb3 e.n e∈bump L e.n:=Qc he
 rw[Zdt rfl]at hm
 exact Zdm (L:=bump L e.n) (by rw[Zbr];exact nd) hm
theorem ZdY(k f:Addr)(g:Int):ZbY k f g=([("all_keys",.ref k),("fars",.ref f),("gone",.int g)]:List (Str×V)):=by
 unfold ZbY
 rw[ZaV,Zp nFK,ZaV,Zp nGK,Zp nGF,ZaV]
theorem Ze8(k f:Addr)(g v:Int):Zk "gone" (.int v) (ZbY k f g)=ZbY k f v:=by
 rw[ZdY,ZdY,Zp nGK,Zp nGF,Zb8]
theorem Zka(k f:Addr)(g:Int):(ZbY k f g).length<1000:=by rw[ZdY];show 3<1000;decide
theorem Zir(k f:Addr)(g:Int):(ZbY k f g).lookup ("fars" : Str)=some (.ref f):=by
 unfold ZbY
 rw[Zj,if_neg nGF,Zj,if_pos rfl]
theorem Zm0{L:List Zu}(pd:(L.map (·.p)).Nodup){e e':Zu}(he:e∈L)(he':e'∈L)(h:e.p=e'.p):e=e':=by
 have n2:((L.map fun x=>(x.p,x)).map (·.1)).Nodup:=by rw[Qr];exact pd
 have:=Zds n2 (Qc (f:=fun x:Zu=>(x.p,x)) he) (Qc (f:=fun x:Zu=>(x.p,x)) he') h
 injection this
theorem ZG.bump{cR cM:Addr}{H:Hp}{m rd sd:Addr}{L:List Zu}{s:StL}{nb li lo:Int}{best:V}(M:ZG cR cM H m rd sd L s nb li lo best){e:Zu}(he:e∈L)(hg:e.g<e.ss.length){dp:Addr} :
  ZG cR cM (upd H e.p (.ins cR dp (ZbY e.k e.f ((e.g+1:Nat):Int)))) m rd sd (My.bump L e.n) s nb li lo best:=by
 obtain⟨dm,hm⟩:=M.ob
 obtain⟨dq,hp⟩:=(M.each e he).at'.ob
 obtain⟨n1,_,_⟩:=M.ne_p he
 obtain⟨n2,_,_,n3,_,_⟩:=M.ne_sd he
 refine⟨⟨dm,by rw[Zc n1];exact hm⟩,by rw[Zc n3,Zj7];exact M.rows,by rw[Zc n2];exact M.stays,fun x hx t ht=>?_,fun e' he'=>?_,by rw[Zbr];exact M.up,by rw[Zlv];exact M.pd,by unfold My.bump;rw[Qa];exact M.few,M.sfew⟩
 ·have:=M.ats x hx t ht
  rw[Zc (fun z=>by rw[z,hp]at this;cases this)];exact this
 ·obtain⟨x,hx,rfl⟩:=Qu.mp he'
  have R:=M.each x hx
  have kne:∀ {y:Zu},y∈L→y.k≠e.p∧y.f≠e.p:=fun {y} hy=>by
   have Ry:=M.each y hy
   exact⟨(fun z=>by have:=Ry.at'.ks;rw[z,hp]at this;cases this),(fun z=>by have:=Ry.at'.fs;rw[z,hp]at this;cases this)⟩
  obtain⟨k1,k2⟩:=kne hx
  by_cases hn:x.n=e.n
  ·have ex:x=e:=by
    have n2:((L.map fun x=>(x.n,x)).map (·.1)).Nodup:=by rw[Qr];exact M.nd
    have:=Zds n2 (Qc (f:=fun x:Zu=>(x.n,x)) hx) (Qc (f:=fun x:Zu=>(x.n,x)) he) hn
    injection this
   subst ex
   rw[Zdt rfl]
   exact⟨⟨⟨dp,Zg⟩,by show (upd H x.p _) x.k=_;rw[Zc k1];exact R.at'.ks,by show (upd H x.p _) x.f=_;rw[Zc k2];exact R.at'.fs⟩,hg,R.len,R.srt,R.str⟩
  ·rw[ZeH hn]
   exact R.keep (Zc (fun z=>hn (by rw[Zm0 M.pd hx he z]))) (Zc k1) (Zc k2)
theorem Zm2{L:List Zu}{e:Zu}{x:Str}(nd:(Zr L).Nodup)(up:Zab (Zr L))(he:e∈L)(hx:e.ss[e.g]? = some x)(srt:sortedS e.ss=true)(W:Win (hdM L) (Zr L) (some e.n)):Tk (hdM L) (hdM (bump L e.n)) (Zr L) e.n (cds x):=by
 refine⟨W,by rw[Zdm nd he,hx];rfl,fun b hb=>Zh3 hb L,fun y hy=>?_,up⟩
 rw[Zgo nd he]at hy
 cases hz:e.ss[e.g+1]? with
 | none=>rw[hz]at hy;cases hy
 | some y'=>rw[hz]at hy;cases hy;exact Zfx srt e.g x y' hx hz
theorem ZlX{c:Bool}{e1 e2:VK→Prop}{Q:VK}(P:V→Hp→Prop)(h1:c=true→∀Q':VK,(∀v H,P v H→Q' v H)→e1 Q')(h2:c=false→∀Q':VK,(∀v H,P v H→Q' v H)→e2 Q')(q:∀v H,P v H→Q v H):if c=true then e1 Q else e2 Q:=by
 cases c with
 | true=>rw[if_pos rfl];exact h1 rfl Q q
 | false=>rw[if_neg (by decide)];exact h2 rfl Q q
def Zcd(n:Int)(C:List (List Int)):List (List Int×List Int):=C.map fun X=>(Z8 X n,Zai X n)
theorem Zgl(rd:Addr)(nb li lo:Int)(sd:Addr)(best:V):(mgF rd nb li lo sd best).lookup ("play_again" : Str)=none:=Za5 _ _ _ _ _ _ (by decide +kernel) (by decide +kernel) (by decide +kernel) (by decide +kernel) (by decide +kernel) (by decide +kernel)
def Zju(cR cM:Addr):Sp:=fun vs H Q _=>∃ (m rd sd:Addr) (L:List Zu) (s:StL) (nb li lo:Int) (best:V) (e:Zu) (x:Str),vs=[.ref m,.int e.n]∧ZG cR cM H m rd sd L s nb li lo best∧e∈L∧e.ss[e.g]? = some x∧Win (hdM L) (Zr L) (some e.n)∧ZN (hdM L) s (Zr L) ∧
 ∀ (s':StL) (w':Option Int) (k q:Int) (H':Hp),ZG cR cM H' m rd sd (bump L e.n) s' nb (li+k) (lo+q) (ZbL w')→Win (hdM (bump L e.n)) (Zr L) w'→ZN (hdM (bump L e.n)) s' (Zr L)→Ag (hdM (bump L e.n)) (cds x) (Zcd e.n (ZJ 8 (Zr L) e.n)) k q→(∀b o,H b=some o→¬ Fp m rd sd L b→H' b=some o)→Q .non H'
theorem ZkQ(T:Zak K mg cRow cMerge)(f_Row_head:Mf P w K mg base 2 cRow "head" ["self"] (ZdX cRow))(f_matches_up:Df P w K mg base 3 "matches_up" ["numbers", "n"] ZfJ)(f_Merge_play_again:Mf P w K mg base 4 cMerge "play_again" ["self", "meeting", "comer"] (Zih cRow cMerge)):Mf P w K mg base 5 cMerge "send_out" ["self", "number"] (Zju cRow cMerge):=by
 refine T.t_Merge_send_out.mf Zal (fun vs H Q E h=>?_) (fun cdv f A outer s H vs Q E hr h=>?_)
 ·obtain⟨m,rd,sd,L,s,nb,li,lo,best,e,x,rfl,_⟩:=h
  rfl
 obtain⟨m,rd,sd,L,s,nb,li,lo',best,e,x,rfl,M,he,hx,W,ok,q⟩:=h
 refine⟨_,#[Ze,#[Zv,2,Zal.nd,(Or.inl rfl),#[ZC,(ixG hr),#[ZL,‹0›],‹1›]],#[Ze,#[ZbZ,‹2›,#[Zh],ZeP],#[Ze,#[Zv,3,Zal.nd,(Or.inl rfl),#[ZaY,#[Zo,ZbK,#[Z0,f_Row_head,T.cl_Row,hr,‹2›],#[Zae],(Zt _)],#[Zae],#[Za9,#[Za,‹1›,#[Za,#[ZC,(ixL K),#[ZL,‹2›],#[ZL,‹2›]],#[Zf]]]]]],#[Ze,#[Zdi,PassesOwn.never,#[iL,K,#[Zz,f_matches_up,hr,#[Za,#[Zc1,Zne,T.b.n_list,boot_list,#[Za,#[ZL,‹0›],#[Zf]]],#[Za,‹1›,#[Zf]]],(by rfl)]],#[ZR,4,Zal.nd],#[Zi,#[Zv,3,Zal.nd,(Or.inl rfl),#[Zda,f_Merge_play_again,T.cl_Merge,hr,‹0›,#[Za,‹4›,#[Za,‹3›,#[Zf]]]]]]],#[Zi,#[Zbh,‹0›,#[ZaY,#[Zo,ZbK,‹3›,#[Zae],(Zt _)],#[Zae],#[ZC,(ixT K),‹3›,#[Zh]]]]]]]]],?_⟩
 obtain⟨dx,hm⟩:=M.ob
 have R:=M.each e he
 obtain⟨dp,hp⟩:=R.at'.ob
 have hg:e.g<e.ss.length:=(Qh.mp hx).1
 have tk:=Zm2 M.nd M.up he hx R.srt W
 refine⟨_,rfl,m,cMerge,dx,_,_,rfl,hm,T.cl_Merge,T.na_Merge_rows,ZaH ..,_,rfl,rd,_,rfl,Zbg.k' (k:=.inl e.n) M.rows (Ze0 M.nd he),?_⟩
 refine⟨_,rfl,e.p,cRow,dp,_,_,rfl,hp,T.cl_Row,T.na_Row_gone,ZbU ..,_,_,rfl,rfl,dp,_,hp,Zka ..,?_⟩
 rw[Ze8,show ((e.g:Int)+1)=((e.g+1:Nat):Int) by omega]
 have M1:=M.bump he hg (dp:=dp)
 have hp1:(upd H e.p (.ins cRow dp (ZbY e.k e.f ((e.g+1:Nat):Int)))) e.p=some (.ins cRow dp (ZbY e.k e.f ((e.g+1:Nat):Int))):=Zg
 have k1:∀b o,H b=some o→b≠e.p→(upd H e.p (.ins cRow dp (ZbY e.k e.f ((e.g+1:Nat):Int)))) b=some o:=fun b o hb n=>by rw[Zc n];exact hb
 generalize upd H e.p (.ins cRow dp (ZbY e.k e.f ((e.g+1:Nat):Int)))=H1 at M1 hp1 k1 ⊢
 have hm':(⟨e.n,e.p,e.k,e.f,e.ss,e.g+1⟩:Zu)∈bump L e.n:=by
  have:Zb3 e.n e∈bump L e.n:=Qc he
  rwa [Zdt rfl]at this
 have R1:=M1.each _ hm'
 have keep1:∀ {H2:Hp},(∀b o,H1 b=some o→b≠m→b≠sd→H2 b=some o)→∀b o,H b=some o→¬ Fp m rd sd L b→H2 b=some o:=fun {H2} k b o hb nf =>
  k b o (k1 b o hb fun z=>nf (.inr (.inr (.inr ⟨e,he,.inl z⟩)))) (fun z=>nf (.inl z)) (fun z=>nf (.inr (.inr (.inl z))))
 have hpos:e.n∈Zr L:=W.1
 have h60:(Zr L).length≤60:=by unfold Zr;rw[Qa];exact M.few
 have hpw:(Zr L).length≤2 ^ 8:=QC h60 (by decide)
 obtain⟨cok,ctop,clen⟩:=Zeq 8 (Zr L) e.n hpos hpw
 have hgo:hdM (bump L e.n) e.n=(e.ss[e.g+1]?).map cds:=Zgo M.nd he
 have hdd:∀ (c:Com),(c=none∧e.ss[e.g+1]? = none)∨(∃y,e.ss[e.g+1]? = some y∧c=some (e.n,((lcp (cds y) (cds x):Nat):Int)))→Zgh (hdM (bump L e.n)) (cds x) [e.n] c:=fun c hc=>by
  have hw:=Win.sing (hd:=hdM (bump L e.n)) (n:=e.n)
  rcases hc with⟨rfl,hn⟩|⟨y,hy,rfl⟩
  ·rw[hgo,hn]at hw
   exact⟨hw,fun p hp=>by cases hp⟩
  ·rw[hgo,hy]at hw
   exact⟨hw,fun p hp=>by cases hp;exact⟨cds y,by rw[hgo,hy];rfl,rfl⟩⟩
 refine⟨_,rfl,e.p,dp,_,rfl,hp1,ZaQ ..,e.p,e.k,e.f,e.ss,e.g+1,rfl,R1.at',rfl,_,rfl,?_⟩
 rw[ZgW]
 refine ZlX (fun v H2=>Zx H1 H2∧∃c,CV H2 v c∧Zgh (hdM (bump L e.n)) (cds x) [e.n] c) (fun d Q' hq=>?_) (fun d Q' hq=>?_) (fun v H2 ⟨s2,c,hcv,hok⟩=>?_)
 ·have hn:e.ss[e.g+1]? = none:=by
   have:=of_decide_eq_true d
   cases hy:e.ss[e.g+1]? with
   | none=>rfl
   | some y=>rw[hy]at this;cases this
  exact hq _ _ ⟨Zx.refl _,none,.inl ⟨rfl,rfl⟩,hdd none (.inl ⟨rfl,hn⟩)⟩
 ·obtain⟨y,hy⟩:∃y,e.ss[e.g+1]? = some y:=by
   cases hy:e.ss[e.g+1]? with
   | none=>rw[hy]at d;exact absurd rfl (of_decide_eq_false d)
   | some y=>exact⟨y,rfl⟩
  have hyl:e.g+1<e.ss.length:=(Qh.mp hy).1
  have hal:ZbV e.ss (e.g+1)=((lcp (cds y) (cds x):Nat):Int):=by
   unfold ZbV
   rw[if_neg (by omega),Q4,Qt,Qt,hx,hy,Zbv]
   rfl
  have hat:atI ((List.range e.ss.length).map fun j=>V.int (ZbV e.ss j)) ((e.g+1:Nat):Int)=some (.int ((lcp (cds y) (cds x):Nat):Int)):=Zaw (by rw[Qp,List.getElem?_range hyl,← hal];rfl)
  refine⟨_,rfl,_,rfl,e.p,cRow,dp,_,_,rfl,hp1,T.cl_Row,T.na_Row_fars,Zir ..,_,rfl,e.p,cRow,dp,_,_,rfl,hp1,T.cl_Row,T.na_Row_gone,ZbU ..,e.f,_,_,_,rfl,rfl,SqL.of R1.at'.fs,hat,(by show 2≤sizeLine;decide),fun tc htc=>?_⟩
  exact hq _ _ ⟨Zl htc _,some (e.n,((lcp (cds y) (cds x):Nat):Int)),.inr ⟨tc,_,rfl,rfl,Zg⟩,hdd _ (.inr ⟨y,hy,rfl⟩)⟩
 have M2:=M1.same s2
 obtain⟨dx2,hm2⟩:=M2.ob
 refine⟨_,rfl,m,cMerge,dx2,_,_,rfl,hm2,T.cl_Merge,T.na_Merge_rows,ZaH ..,rd,_,rfl,M2.rows,fun l hl=>?_⟩
 rw[ZjG,Zbr]
 have s3:=s2.trans (Zl hl (.lst ((Zr L).map V.int)))
 have hl3:(upd H2 l (.lst ((Zr L).map V.int))) l=some (.lst ((Zr L).map V.int)):=Zg
 have hcv3:CV (upd H2 l (.lst ((Zr L).map V.int))) v c:=hcv.keep fun t xs ht=>Zl hl _ _ _ ht
 generalize upd H2 l (.lst ((Zr L).map V.int))=H3 at s3 hl3 hcv3 ⊢
 refine⟨_,rfl,l,Zr L,e.n,rfl,hl3,hpos,h60,M.up,fun r ts H4 hr0 hr4 htl hts s4=>?_⟩
 have s14:=s3.trans s4
 have M4:=M1.same s14
 have hcv4:CV H4 v c:=hcv3.keep fun t xs ht=>s4 _ _ ht
 refine⟨r,rfl,⟨_,SqL.of hr4⟩,?_⟩
 obtain⟨dm4,hm4⟩:=M4.ob
 obtain⟨dm1,hm1⟩:=M1.ob
 have nrm:r≠m:=(Zb (s3 _ _ hm1) hr0).symm
 have nrs:r≠sd:=(Zb (s3 _ _ M1.stays) hr0).symm
 refine Zgt (K:=K) (a:=r) (xs:=ts.map V.ref) (fun i σ H5=>∃ (v':V) (c':Com) (s':StL) (k q':Int) (v4:Option V),σ=[some (.ref m),some (.int e.n),some (.ref e.p),some v',v4]∧i≤ts.length∧CV H5 v' c'∧Zgh (hdM (bump L e.n)) (cds x) (low e.n (ZJ 8 (Zr L) e.n) i) c'∧ZG cRow cMerge H5 m rd sd (bump L e.n) s' nb (li+k) (lo'+q') best∧ZN (hdM (bump L e.n)) s' (low e.n (ZJ 8 (Zr L) e.n) i)∧(∀j,¬ Kys (low e.n (ZJ 8 (Zr L) e.n) i) j→ZK s' j=ZK s j)∧Ag (hdM (bump L e.n)) (cds x) (Zcd e.n ((ZJ 8 (Zr L) e.n).take i)) k q'∧(∀b o,H4 b=some o→b≠m→b≠sd→H5 b=some o)) ?_ (fun i σ H5 _ ⟨_,_,_,_,_,_,_,_,_,_,_,_,_,_,k5⟩=>SqL.of (k5 _ _ hr4 nrm nrs)) ?_ ?_
 ·refine⟨v,c,s,0,0,_,rfl,Qq _,hcv4,hok,M4.cast (by omega) (by omega),fun X hX h2=>?_,fun _ _=>rfl,.nil,fun b o h _ _=>h⟩
  have:=ZdV hX
  rcases this with rfl|⟨g,_⟩
  ·exact absurd h2 (by show ¬ 2≤1;decide)
  ·exact absurd g (by show ¬ 2≤1;decide)
 ·rintro i y σ H5 hy ⟨v',c',s',k,q',v4,rfl,hi,hcv5,hok5,M5,nok,hlk,ag,k5⟩
  rw[Qp]at hy
  cases hz:ts[i]? with
  | none=>rw[hz]at hy;cases hy
  | some t =>
  rw[hz]at hy
  cases hy
  have hil:i<ts.length:=(Qh.mp hz).1
  cases hX:(ZJ 8 (Zr L) e.n)[i]? with
  | none=>rw[List.getElem?_eq_none_iff]at hX;omega
  | some X =>
  obtain⟨x1,x2,x3,x4⟩:=cok i X hX
  have hup:=x1.rise M.up
  have e3:low e.n (ZJ 8 (Zr L) e.n) (i+1)=X:=by show (ZJ 8 (Zr L) e.n).getD i []=X;rw[Qt,hX];rfl
  have ht5:H5 t=some (.tup [.int (ZD X).1,.int (ZD X).2]):=k5 _ _ (hts i t X hz hX) (fun z=>by have:=hts i t X hz hX;rw[z,hm4]at this;cases this) (fun z=>by have:=hts i t X hz hX;rw[z,M4.stays]at this;cases this)
  obtain⟨dm5,hm5⟩:=M5.ob
  rw[← x4]at hok5 nok hlk
  have was:=Zj0 tk x1 x2 x3 ok
  have hkey:ZK s' (ZD X)=ZK s (ZD X):=hlk _ fun z=>(Zgn hup x2 z).1 rfl
  refine⟨_,rfl,m,dm5,_,rfl,hm5,Zgl ..,_,rfl,_,rfl,m,rd,sd,bump L e.n,s',nb,_,_,best,t,v',c',cds x,X,e.n,rfl,M5,ht5,hcv5,hok5,?_,fun b hb y hy=>tk.ge (x1.mem hb) hy,hup,fun b hb=>by rw[Zbr];exact x1.mem hb,x2,x3,fun v6 c6 s6 k6 q6 H6 hcv6 hok6 hnd6 hoth6 hag6 M6 k6'=>?_⟩
  ·rw[hkey]
   rcases was with w|⟨t',b,y,w1,w2,_,w4⟩
   ·exact .inl w
   ·exact .inr ⟨t',b,y,w1,w2,w4⟩
  ·refine⟨v6,c6,s6,k+k6,q'+q6,_,rfl,hil,hcv6,by rw[e3];exact hok6,M6.cast (by omega) (by omega),?_,fun j hj=>?_,?_,fun b o hb n1 n2=>k6' b o (k5 b o hb n1 n2) n1 n2⟩
   ·rw[e3]
    refine ZiL (n:=e.n) (nok.congr (fun _ _=>rfl) fun j hj=>hoth6 j (Zgn hup x2 hj).1) ?_ hnd6
    have hno:=Zep hup (ZcQ x3)
    have so:Sub X (Zai X e.n):=by unfold Zai;split;exact Sub.top.up x2;exact Sub.top.lo x2
    refine(ok.sub (x1.trans so)).congr (fun b hb=>tk.oth b fun z=>hno (z ▸ hb)) fun j hj=>?_
    rw[hoth6 j (Zgq hup x2 hj).1,hlk j (Zgq hup x2 hj).2]
   ·rw[e3]at hj
    rw[hoth6 j (fun z=>hj ⟨X,.top,x2,z⟩),hlk j (fun ⟨Y,y1,y2,y3⟩=>hj ⟨Y,(Zgs x2 e.n).trans y1,y2,y3⟩)]
   ·have:=hag6 _ _ _ ag
    unfold Zcd at this ⊢
    rw[QS,hX,Qf]
    exact this
 ·rintro σ H5 ⟨v',c',s',k,q',v4,rfl,_,hcv5,hok5,M5,nok,hlk,ag,k5⟩
  rw[Qa,htl,ctop]at hok5 nok
  rw[Qa,htl,QN (Qd _)]at ag
  obtain⟨dm5,hm5⟩:=M5.ob
  have fin:∀w':Option Int,w'=c'.map (·.1)→Q .non (upd H5 m (.ins cMerge dm5 (mgF rd nb (li+k) (lo'+q') sd (ZbL w')))):=fun w' ew=>by
   subst ew
   refine q s' _ k q' _ M5.obj hok5.1 nok ag fun b o hb nf=>?_
   rw[Zc (fun z=>nf (.inl z))]
   exact keep1 (fun b o hb n1 n2=>k5 b o (s14 b o hb) n1 n2) b o hb nf
  rcases hcv5 with⟨rfl,rfl⟩|⟨t,p,rfl,rfl,ht⟩
  ·refine⟨_,rfl,rfl,_,rfl,Zeu rfl ?_⟩
   refine⟨_,rfl,m,cMerge,dm5,_,rfl,hm5,T.cl_Merge,T.na_Merge_best,Zbl ..,?_⟩
   rw[Zbm]
   exact fin none rfl
  ·refine⟨_,rfl,rfl,_,rfl,Zcs (fun z=>nomatch z) ?_⟩
   refine⟨_,rfl,t,_,_,_,rfl,rfl,SqT.of ht,(show atI [V.int p.1,V.int p.2] 0=some (.int p.1) from Zaw (j:=0) rfl),_,rfl,m,cMerge,dm5,_,rfl,hm5,T.cl_Merge,T.na_Merge_best,Zbl ..,?_⟩
   rw[Zbm]
   exact fin (some p.1) rfl
def Zfy(L:List Zu)(w:Option Int)(x:V)(L':List Zu)(k q:Int)(H':Hp):Prop :=
 (w=none∧x=.non∧L'=L∧k=0∧q=0)∨∃ (e:Zu) (t:Addr) (z:Str),e∈L∧w=some e.n∧x=.ref t∧e.ss[e.g]? = some z∧H' t=some (.tup [.int e.n,.int (e.g:Int),.str z])∧L'=bump L e.n∧Ag (hdM L') (cds z) (Zcd e.n (ZJ 8 (Zr L) e.n)) k q
theorem Zhl(rd:Addr)(nb li lo:Int)(sd:Addr)(best:V):(mgF rd nb li lo sd best).lookup ("send_out" : Str)=none:=Za5 _ _ _ _ _ _ (by decide +kernel) (by decide +kernel) (by decide +kernel) (by decide +kernel) (by decide +kernel) (by decide +kernel)
theorem Zdp(rd:Addr)(nb li lo:Int)(sd:Addr)(best:V):(mgF rd nb li lo sd best).lookup ("take" : Str)=none:=Za5 _ _ _ _ _ _ (by decide +kernel) (by decide +kernel) (by decide +kernel) (by decide +kernel) (by decide +kernel) (by decide +kernel)
def ZhG(cR cM:Addr):Sp:=fun vs H Q _=>∃ (m rd sd:Addr) (L:List Zu) (s:StL) (nb li lo:Int) (w:Option Int),vs=[.ref m]∧ZG cR cM H m rd sd L s nb li lo (ZbL w)∧Win (hdM L) (Zr L) w∧ZN (hdM L) s (Zr L) ∧
 ∀ (x:V) (L':List Zu) (s':StL) (w':Option Int) (k q:Int) (H':Hp),Zfy L w x L' k q H'→ZG cR cM H' m rd sd L' s' nb (li+k) (lo+q) (ZbL w')→Win (hdM L') (Zr L') w'→ZN (hdM L') s' (Zr L')→(∀b o,H b=some o→¬ Fp m rd sd L b→H' b=some o)→Q x H'
theorem Zk0(T:Zak K mg cRow cMerge)(f_Merge_coming:Mf P w K mg base 3 cMerge "coming" ["self"] (ZdG cRow cMerge))(f_Merge_send_out:Mf P w K mg base 5 cMerge "send_out" ["self", "number"] (Zju cRow cMerge)):Mf P w K mg base 6 cMerge "take" ["self"] (ZhG cRow cMerge):=by
 refine T.t_Merge_take.mf Zdd (fun vs H Q E h=>?_) (fun cdv f A outer s H vs Q E hr h=>?_)
 ·obtain⟨m,rd,sd,L,s,nb,li,lo,w,rfl,_⟩:=h
  rfl
 obtain⟨m,rd,sd,L,s,nb,li,lo',w,rfl,M,W,ok,q⟩:=h
 refine⟨_,#[Ze,#[Zv,1,Zdd.nd,(Or.inl rfl),#[Z0,f_Merge_coming,T.cl_Merge,hr,‹0›]],#[Ze,#[Zat,#[Zo,Zel,‹1›,#[Zae],(Zt _)],#[Zi,#[ZaJ,#[Zda,f_Merge_send_out,T.cl_Merge,hr,‹0›,#[Za,#[ZL,‹0›],#[Zf]]]]],#[ZM]],#[Zi,#[Zs,‹1›]]]],?_⟩
 obtain⟨dx,hm⟩:=M.ob
 refine⟨_,rfl,m,dx,_,rfl,hm,Zbn ..,m,rd,sd,L,s,nb,li,lo',w,rfl,M,W,fun x H1 hc s1=>?_⟩
 have M1:=M.same s1
 rcases hc with⟨rfl,hw⟩|⟨t,e',z,rfl,he',hz,ht,hw⟩
 ·have hw':Win (hdM L) (Zr L) none:=by rw[Zb6]at hw;exact hw
  have ew:=W.one hw'
  subst ew
  exact⟨_,rfl,rfl,_,rfl,ZeO rfl ⟨_,rfl,q .non L s none 0 0 H1 (.inl ⟨rfl,rfl,rfl,rfl,rfl⟩) (M1.cast (by omega) (by omega)) W ok (fun b o hb _=>s1 b o hb)⟩⟩
 ·obtain⟨e,he,rfl⟩:=Qu.mp he'
  have hw':Win (hdM L) (Zr L) (some e.n):=by rw[Zb6]at hw;exact hw
  have ew:=W.one hw'
  subst ew
  obtain⟨dx1,hm1⟩:=M1.ob
  refine⟨_,rfl,rfl,_,rfl,ZlJ (fun z=>nomatch z) ?_⟩
  refine⟨_,rfl,m,dx1,_,rfl,hm1,Zhl ..,_,rfl,m,cMerge,dx1,_,_,rfl,hm1,T.cl_Merge,T.na_Merge_best,ZcA ..,m,rd,sd,L,s,nb,li,lo',_,e,z,rfl,M1,he,hz,W,ok,fun s' w' k q' H2 M2 W2 ok2 ag k2=>?_⟩
  have ht2:H2 t=some (.tup [.int e.n,.int (e.g:Int),.str z]):=k2 _ _ ht fun hf=>by
   have ht':=ht
   rcases hf with h|h|h|⟨y,hy,h⟩
   ·rw[h,hm1]at ht';cases ht'
   ·rw[h,M1.rows]at ht';cases ht'
   ·rw[h,M1.stays]at ht';cases ht'
   ·have R:=(M1.each y hy).at'
    obtain⟨dy,hdy⟩:=R.ob
    rcases h with h|h|h
    ·rw[h,hdy]at ht';cases ht'
    ·rw[h,R.ks]at ht';cases ht'
    ·rw[h,R.fs]at ht';cases ht'
  exact⟨_,rfl,q (.ref t) (bump L e.n) s' w' k q' H2 (.inr ⟨e,t,z,he,rfl,rfl,hz,ht2,rfl,ag⟩) M2 (by rw[Zbr];exact W2) (by rw[Zbr];exact ok2) (fun b o hb nf=>k2 b o (s1 b o hb) nf)⟩
abbrev Z7:=Int×List Str×Nat
def pur(Lo:List ZaI):List Z7:=Lo.map fun e=>(e.1,e.2.2)
def Z6(L:List Zu):List Z7:=L.map fun e=>(e.n,(e.ss,e.g))
def hdP(P:List Z7):Hd:=hdL (P.map fun x=>(x.1,0,x.2))
def ZaT(P:List Z7):List Int:=P.map (·.1)
def ZdB(n:Int)(x:Z7):Z7:=if x.1=n then (x.1,x.2.1,x.2.2+1) else x
def Zbc(P:List Z7)(n:Int):List Z7:=P.map (ZdB n)
theorem ZaZ(L:List Zu):hdM L=hdP (Z6 L):=ZhV _ _ (by unfold Z6;rw[Qr,Qr,Qr];rfl)
theorem ZZ(L:List Zu):Zr L=ZaT (Z6 L):=by unfold ZaT Z6 Zr;rw[Qr];rfl
theorem Zfj(L:List Zu)(n:Int):Z6 (bump L n)=Zbc (Z6 L) n:=by
 unfold Z6 bump Zbc
 rw[Qr,Qr]
 refine QO fun e _=>?_
 simp only[Function.comp]
 unfold ZdB
 by_cases h:e.n=n
 ·rw[Zdt h,if_pos h]
 ·rw[ZeH h,if_neg h]
def ZnG(n:Int)(e:ZaI):ZaI:=if e.1=n then (e.1,e.2.1,e.2.2.1,e.2.2.2+1) else e
def Znx(Lo:List ZaI)(n:Int):List ZaI:=Lo.map (ZnG n)
theorem Zfo(P:List Z7)(n:Int):ZaT (Zbc P n)=ZaT P:=by
 unfold ZaT Zbc
 rw[Qr]
 refine QO fun x _=>?_
 simp only[Function.comp]
 unfold ZdB
 split<;>rfl
theorem Zmu{P:List Z7}(nd:(ZaT P).Nodup){x:Z7}(h:x∈P):hdP P x.1=(x.2.1[x.2.2]?).map cds :=
 Zhp (L:=P.map fun x:Z7=>((x.1,0,x.2):ZaI)) (e:=(x.1,0,x.2)) (by rw[Qr];exact nd) (Qc (f:=fun x:Z7=>((x.1,0,x.2):ZaI)) h)
def Zed(P:List Z7)(x:Z7)(z:Str)(k q:Int):Prop:=x∈P∧x.2.1[x.2.2]? = some z∧Win (hdP P) (ZaT P) (some x.1)∧Ag (hdP (Zbc P x.1)) (cds z) (Zcd x.1 (ZJ 8 (ZaT P) x.1)) k q
abbrev Ze1:=Int×Nat×Str
inductive ZcV (P:List Z7):List Ze1→List Z7→Int→Int→Prop
 | nil:ZcV P [] P 0 0
 | snoc {ts:List Ze1} {P1:List Z7} {x:Z7} {z:Str} {k q k1 q1:Int}:ZcV P ts P1 k q→Zed P1 x z k1 q1→ZcV P (ts++[(x.1,x.2.2,z)]) (Zbc P1 x.1) (k+k1) (q+q1)
inductive ZbJ:List Z7→Int→Int→Prop
 | stop {P:List Z7}:Win (hdP P) (ZaT P) none→ZbJ P 0 0
 | go {P:List Z7} {x:Z7} {z:Str} {k q k1 q1:Int}:Zed P x z k1 q1→ZbJ (Zbc P x.1) k q→ZbJ P (k1+k) (q1+q)
theorem Zed.one{P:List Z7}(nd:(ZaT P).Nodup){x y:Z7}{z u:Str}{k q k' q':Int}(h:Zed P x z k q)(g:Zed P y u k' q'):x=y∧z=u∧k=k'∧q=q':=by
 obtain⟨h1,h2,h3,h4⟩:=h
 obtain⟨g1,g2,g3,g4⟩:=g
 have e1:=Qe (h3.one g3)
 have e2:=Zds nd h1 g1 e1
 subst e2
 have e3:=Qe (h2.symm.trans g2)
 subst e3
 exact⟨rfl,rfl,h4.one g4⟩
theorem ZbJ.one{P:List Z7}{k q:Int}(h:ZbJ P k q):(ZaT P).Nodup→∀ {k' q':Int},ZbJ P k' q'→k=k'∧q=q':=by
 induction h with
 | stop w =>
  intro nd k' q' g
  cases g with
  | stop _=>exact⟨rfl,rfl⟩
  | go s _=>exact nomatch w.one s.2.2.1
 | go s _ ih =>
  intro nd k' q' g
  cases g with
  | stop w=>exact nomatch w.one s.2.2.1
  | go s' g' =>
   obtain⟨e1,_,e2,e3⟩:=s.one nd s'
   subst e1
   obtain⟨e4,e5⟩:=ih (by rw[Zfo];exact nd) g'
   exact⟨by rw[e2,e4],by rw[e3,e5]⟩
theorem ZcV.ends{P P':List Z7}{ts:List Ze1}{k q:Int}(h:ZcV P ts P' k q):∀ {k' q':Int},ZbJ P' k' q'→ZbJ P (k+k') (q+q'):=by
 induction h with
 | nil=>intro k' q' g;rw[Int.zero_add,Int.zero_add];exact g
 | snoc _ s ih =>
  intro k' q' g
  have:=ih (.go s g)
  rwa [← Int.add_assoc,← Int.add_assoc]at this
theorem ZcV.num{P P':List Z7}{ts:List Ze1}{k q:Int}(h:ZcV P ts P' k q):ZaT P'=ZaT P:=by
 induction h with
 | nil=>rfl
 | snoc _ _ ih=>rw[Zfo,ih]
def ZbQ(P:List Z7):Nat:=(P.map fun x=>x.2.1.length-x.2.2).sum
theorem ZdN:∀ (P:List Z7),(ZaT P).Nodup→∀ {x:Z7},x∈P→x.2.2<x.2.1.length→ZbQ (Zbc P x.1)+1=ZbQ P
 | [],_,_,h,_=>by cases h
 | y::P,nd,x,h,hlt=>by
  unfold ZaT at nd
  rw[Qg,QP]at nd
  unfold ZbQ Zbc
  rw[Qg,Qg,Qg,Q5,Q5]
  rcases QE.mp h with rfl|h
  ·have e:P.map (ZdB x.1)=P:=by
    conv=>rhs;rw[← List.map_id P]
    refine QO fun u hu=>?_
    unfold ZdB
    rw[if_neg (fun z:u.1=x.1=>nd.1 (z ▸ Qc (f:=fun x:Z7=>x.1) hu))]
    rfl
   rw[e]
   unfold ZdB
   rw[if_pos rfl]
   show x.2.1.length-(x.2.2+1)+_+1=_
   omega
  ·have ih:=ZdN P nd.2 h hlt
   unfold ZbQ Zbc at ih
   have e:ZdB x.1 y=y:=if_neg (fun z:y.1=x.1=>nd.1 (z ▸ Qc (f:=fun x:Z7=>x.1) h))
   rw[e]
   omega
theorem Zis{P:List Z7}(nd:(ZaT P).Nodup)(h:ZbQ P=0)(ok:∀x∈P,x.2.2≤x.2.1.length):Win (hdP P) (ZaT P) none:=fun n hn=>by
 obtain⟨x,hx,rfl⟩:=Qu.mp hn
 rw[Zmu nd hx]
 have:x.2.1.length-x.2.2=0:=by
  unfold ZbQ at h
  have h2:∀l:List Nat,l.sum=0→∀a∈l,a=0:=fun l hl a ha=>by
   induction l with
   | nil=>cases ha
   | cons b r ih =>
    rw[Q5]at hl
    rcases QE.mp ha with rfl|ha
    ·omega
    ·exact ih (by omega) ha
  exact h2 _ h _ (Qc (f:=fun x:Z7=>x.2.1.length-x.2.2) hx)
 rw[Q6 (by omega)];rfl
theorem ZcV.left{P P':List Z7}{ts:List Ze1}{k q:Int}(h:ZcV P ts P' k q)(nd:(ZaT P).Nodup):ZbQ P'+ts.length=ZbQ P:=by
 induction h with
 | nil=>rfl
 | snoc h s ih =>
  have:=ZdN _ (by rw[h.num];exact nd) s.1 (Qh.mp s.2.1).1
  rw[Qo,QA]
  omega
theorem ZdS{L L':List Zu}{w:Option Int}{x:V}{k q:Int}{H:Hp}(W:Win (hdM L) (Zr L) w)(h:Zfy L w x L' k q H):(Win (hdP (Z6 L)) (ZaT (Z6 L)) none∧x=.non∧L'=L∧k=0∧q=0)∨∃ (y:Z7) (z:Str) (t:Addr),Zed (Z6 L) y z k q∧Z6 L'=Zbc (Z6 L) y.1∧x=.ref t∧H t=some (.tup [.int y.1,.int (y.2.2:Int),.str z]):=by
 rw[ZaZ,ZZ]at W
 rcases h with⟨rfl,h1,h2,h3,h4⟩|⟨e,t,z,he,rfl,rfl,hz,ht,rfl,ag⟩
 ·exact .inl ⟨W,h1,h2,h3,h4⟩
 ·refine .inr ⟨(e.n,(e.ss,e.g)),z,t,⟨Qc (f:=fun e:Zu=>(e.n,(e.ss,e.g))) he,hz,W,?_⟩,Zfj L e.n,rfl,ht⟩
  rw[ZaZ,Zfj,ZZ]at ag
  exact ag
def ZlE(K:PySem.W.Frag)(cR cM:Addr):Sp:=fun vs H Q _=>∃ (m rd sd:Addr) (L:List Zu) (s:StL) (nb li lo:Int) (w:Option Int) (many:Int),vs=[.ref m,.int many]∧ZG cR cM H m rd sd L s nb li lo (ZbL w)∧Win (hdM L) (Zr L) w∧ZN (hdM L) s (Zr L)∧ZbQ (Z6 L)≤100000 ∧
 ∀ (r:Addr) (us:List (Addr×Ze1)) (L':List Zu) (s':StL) (w':Option Int) (k q:Int) (H':Hp),H r=none→H' r=some (.lst (us.map fun u=>V.ref u.1))→(∀u∈us,H' u.1=some (.tup [.int u.2.1,.int (u.2.2.1:Int),.str u.2.2.2]))→ZcV (Z6 L) (us.map (·.2)) (Z6 L') k q→((us.length:Int)<many→w'=none)→(us≠[]→(us.length:Int)≤many)→ZG cR cM H' m rd sd L' s' nb (li+k) (lo+q) (ZbL w')→Win (hdM L') (Zr L') w'→ZN (hdM L') s' (Zr L')→(∀b,Fp m rd sd L' b↔Fp m rd sd L b)→(∀b o,H b=some o→¬ Fp m rd sd L b→H' b=some o)→Q (.ref r) H'
theorem Zfy.fp{L L':List Zu}{w:Option Int}{x:V}{k q:Int}{H:Hp}(h:Zfy L w x L' k q H){m rd sd b:Addr}:Fp m rd sd L' b↔Fp m rd sd L b:=by
 rcases h with⟨_,_,rfl,_⟩|⟨e,t,z,_,_,_,_,_,rfl,_⟩
 ·exact Iff.rfl
 ·exact⟨Zlf,Fp_bump'⟩
theorem ZG.fp_live{cR cM:Addr}{H:Hp}{m rd sd:Addr}{L:List Zu}{s:StL}{nb li lo:Int}{best:V}(M:ZG cR cM H m rd sd L s nb li lo best){b:Addr}(h:Fp m rd sd L b):∃o,H b=some o∧∀xs,o≠.tup xs:=by
 rcases h with rfl|rfl|rfl|⟨e,he,h⟩
 ·obtain⟨dx,hd⟩:=M.ob;exact⟨_,hd,fun xs z=>by cases z⟩
 ·exact⟨_,M.rows,fun xs z=>by cases z⟩
 ·exact⟨_,M.stays,fun xs z=>by cases z⟩
 ·have R:=(M.each e he).at'
  obtain⟨dx,hd⟩:=R.ob
  rcases h with rfl|rfl|rfl
  ·exact⟨_,hd,fun xs z=>by cases z⟩
  ·exact⟨_,R.ks,fun xs z=>by cases z⟩
  ·exact⟨_,R.fs,fun xs z=>by cases z⟩
theorem ZG.fp_fresh{cR cM:Addr}{H:Hp}{m rd sd:Addr}{L:List Zu}{s:StL}{nb li lo:Int}{best:V}(M:ZG cR cM H m rd sd L s nb li lo best){b:Addr}(h:H b=none):¬ Fp m rd sd L b:=fun z=>by
 obtain⟨o,ho,_⟩:=M.fp_live z
 rw[h]at ho;cases ho
theorem ZG.fp_tup{cR cM:Addr}{H:Hp}{m rd sd:Addr}{L:List Zu}{s:StL}{nb li lo:Int}{best:V}(M:ZG cR cM H m rd sd L s nb li lo best){b:Addr}{xs:List V}(h:H b=some (.tup xs)):¬ Fp m rd sd L b:=fun z=>by
 obtain⟨o,ho,hn⟩:=M.fp_live z
 rw[h]at ho;cases ho;exact hn xs rfl
theorem ZmU(T:Zak K mg cRow cMerge)(f_Merge_take:Mf P w K mg base 6 cMerge "take" ["self"] (ZhG cRow cMerge)):Mf P w K mg base 7 cMerge "take_few" ["self", "many"] (ZlE K cRow cMerge):=by
 refine T.t_Merge_take_few.mf ZbE (fun vs H Q E h=>?_) (fun cdv f A outer s H vs Q E hr h=>?_)
 ·obtain⟨m,rd,sd,L,s,nb,li,lo,w,many,rfl,_⟩:=h
  rfl
 obtain⟨m,rd,sd,L,s,nb,li,lo',w,many,rfl,M,W,ok,hleft,q⟩:=h
 refine⟨_,#[Ze,#[Zv,2,ZbE.nd,(Or.inl rfl),#[Zbz,#[Zf]]],#[Ze,(@Zdv _ _ _ _ _ _ PassesOwn.never (@PW.pt _ _ _ #[ZcM,#[Zo,Zdy,#[Zw,(ZdP K),(by rfl),T.b.n_len,Qs,#[Za,‹2›,#[Zf]]],‹1›,(Zt _)],(@Zcc _ _ _ _ #[Zo,Zel,#[ZL,‹0›],#[Zae],(Zt _)])]) #[Zi,#[ZaJ,#[ZeL,QI,QJ,QK,Za4,‹2›,#[Za,#[Z0,f_Merge_take,T.cl_Merge,hr,‹0›],#[Zf]]]]]),#[Zi,#[Zs,‹2›]]]],?_⟩
 have nd:(ZaT (Z6 L)).Nodup:=by rw[← ZZ];exact M.nd
 refine⟨(by show 0≤sizeLine;decide),fun r hr0=>?_⟩
 have nfr:=M.fp_fresh hr0
 refine⟨fun mm σ H2=>∃ (us:List (Addr×Ze1)) (L':List Zu) (s':StL) (w':Option Int) (k q':Int),σ=[some (.ref m),some (.int many),some (.ref r)]∧H2 r=some (.lst (us.map fun u=>V.ref u.1))∧(∀u∈us,u.1≠r∧H2 u.1=some (.tup [.int u.2.1,.int (u.2.2.1:Int),.str u.2.2.2]))∧ZcV (Z6 L) (us.map (·.2)) (Z6 L') k q'∧(us≠[]→(us.length:Int)≤many)∧ZG cRow cMerge H2 m rd sd L' s' nb (li+k) (lo'+q') (ZbL w')∧Win (hdM L') (Zr L') w'∧ZN (hdM L') s' (Zr L')∧(∀b,Fp m rd sd L' b↔Fp m rd sd L b)∧(∀b o,H b=some o→¬ Fp m rd sd L b→H2 b=some o)∧mm=ZbQ (Z6 L'),⟨_,[],L,s,w,0,0,rfl,Zg,(fun u h=>by cases h),.nil,(fun h=>absurd rfl h),(M.same (Zl hr0 _)).cast (by omega) (by omega),W,ok,fun _=>Iff.rfl,fun b o hb _=>Zl hr0 _ _ _ hb,rfl⟩,?_⟩
 rintro mm σ H2 ⟨us,L1,s1,w1,k,q',rfl,hr2,hus,htk,hmany,M2,W2,ok2,hfp,k2,rfl⟩
 have hul:(((us.map fun u=>V.ref u.1).length:Nat):Int)=(us.length:Int):=by rw[Qa]
 have hlf:=htk.left nd
 rw[Qa]at hlf
 obtain⟨dx2,hm2⟩:=M2.ob
 have done:((us.length:Int)<many→w1=none)→Q (.ref r) H2:=fun hd=>q r us L1 s1 w1 k q' H2 hr0 hr2 (fun u hu=>(hus u hu).2) htk hd hmany M2 W2 ok2 hfp k2
 refine⟨_,rfl,r,_,rfl,.inl (SqL.of hr2),_,rfl,_,_,rfl,rfl,_,rfl,Zbd (fun d1=>?_) (fun d1=>?_)⟩
 ·have d1':(us.length:Int)<many:=by have:=of_decide_eq_true d1;omega
  refine⟨_,rfl,m,cMerge,dx2,_,_,rfl,hm2,T.cl_Merge,T.na_Merge_best,ZcA ..,rfl,_,rfl,?_⟩
  cases w1 with
  | none=>exact ZeO rfl ⟨_,rfl,done fun _=>rfl⟩
  | some a =>
  refine ZlJ (fun z=>nomatch z) ?_
  refine⟨_,fun σ' H' h=>h,?_⟩
  refine⟨_,rfl,.inl ⟨rfl,_,SqL.of hr2⟩,_,rfl,m,dx2,_,rfl,hm2,Zdp ..,m,rd,sd,L1,s1,nb,_,_,some a,rfl,M2,W2,ok2,fun x L3 s3 w3 k3 q3 H3 hR M3 W3 ok3 kp3=>?_⟩
  have hr3:H3 r=some (.lst (us.map fun u=>V.ref u.1)):=kp3 _ _ hr2 (fun z=>nfr ((hfp r).mp z))
  rcases ZdS W2 hR with⟨w0,_⟩|⟨y,z,t,stp,eL,rfl,ht⟩
  ·rw[ZaZ,ZZ]at W2
   exact nomatch w0.one W2
  have hbl:=ZdN _ (by rw[htk.num];exact nd) stp.1 (Qh.mp stp.2.1).1
  have htr:t≠r:=fun e=>by rw[e,hr3]at ht;cases ht
  refine⟨r,_,_,rfl,rfl,hr3,(by rw[Qa,sizeLine_eq];omega),ZbQ (Z6 L3),by rw[eL];omega,us++[(t,(y.1,y.2.2,z))],L3,s3,w3,k+k3,q'+q3,rfl,by rw[Zg,Qf];rfl,fun u hu=>?_,?_,fun _=>by rw[Qo,QA];omega,?_,W3,ok3,fun b=>(hR.fp).trans (hfp b),fun b o hb nf=>?_,rfl⟩
  ·rcases Qk.mp hu with hu|hu
   ·obtain⟨g2,g3⟩:=hus u hu
    exact⟨g2,by rw[Zc g2];exact kp3 _ _ g3 (M2.fp_tup g3)⟩
   ·rw[Ql.mp hu]
    exact⟨htr,by rw[Zc htr];exact ht⟩
  ·rw[Qf,eL]
   exact .snoc htk stp
  ·refine ZG.cast (M3.keep fun b o hb hor=>?_) (by omega) (by omega)
   rw[Zc (fun e=>?_)]
   ·exact hb
   ·subst e
    rcases hor with hf|⟨xs,rfl⟩
    ·exact nfr ((hfp b).mp (hR.fp.mp hf))
    ·rw[hr3]at hb;cases hb
  ·rw[Zc (Zb hb hr0)]
   exact kp3 b o (k2 b o hb nf) (fun z=>nf ((hfp b).mp z))
 ·refine ZdW ⟨_,rfl,done fun h=>?_⟩
  have:¬ ((((us.map fun u=>V.ref u.1).length:Nat):Int)<many):=fun z=>d1 (decide_eq_true z)
  omega
def spLWay:Sp:=fun vs H Q _=>∃ (a:Addr) (N:List Int) (n:Int),vs=[.ref a,.int n]∧H a=some (.lst (N.map V.int))∧n∈N∧N.length≤60∧Zab N ∧
 ∀ (r:Addr) (ts:List (Addr×Addr×Addr)) (H':Hp),H r=none→H' r=some (.lst (ts.map fun t=>V.ref t.1))→ts.length=(ZJ 8 N n).length→(∀ (i:Nat) (t:Addr×Addr×Addr) (X:List Int),ts[i]? = some t→(ZJ 8 N n)[i]? = some X→H' t.1=some (.tup [.ref t.2.1,.ref t.2.2])∧H' t.2.1=some (.lst ((Z8 X n).map V.int))∧H' t.2.2=some (.lst ((Zai X n).map V.int)))→Zx H H'→Q (.ref r) H'
def ZmS(Lo:List ZaI)(x:V)(Lo':List ZaI)(k q:Int)(H':Hp):Prop :=
 (x=.non∧Win (hdL Lo) (Lo.map (·.1)) none∧Lo'=Lo∧k=0∧q=0)∨∃ (e:ZaI) (t:Addr) (z:Str),e∈Lo∧Win (hdL Lo) (Lo.map (·.1)) (some e.1)∧x=.ref t∧e.2.2.1[e.2.2.2]? = some z∧H' t=some (.tup [.int e.1,.int (e.2.2.2:Int),.str z])∧Lo'=Znx Lo e.1∧Ag (hdL Lo') (cds z) (Zcd e.1 (ZJ 8 (Lo.map (·.1)) e.1)) k q
def spLTaken:Sp:=fun vs H Q _=>∃ (o ra ga:Addr) (Lo:List ZaI) (nb li lo:Int),vs=[.ref o]∧Own H o ra ga Lo nb li lo∧(Lo.map (·.1)).Pairwise (·<·) ∧
 ∀ (x:V) (Lo':List ZaI) (k q:Int) (H':Hp),ZmS Lo x Lo' k q H'→Own H' o ra ga Lo' nb (li+k) (lo+q)→(∀b u,H b=some u→b≠o→b≠ga→H' b=some u)→Q x H'
structure MS where
 m:Addr
 rd:Addr
 sd:Addr
 L:List Zu
 s:StL
 nb:Int
 li:Int
 lo:Int
 w:Option Int
structure OS where
 o:Addr
 ra:Addr
 ga:Addr
 Lo:List ZaI
 nb:Int
def Zn9(Y:OS)(b:Addr):Prop:=b=Y.o∨b=Y.ra∨b=Y.ga∨∃e∈Y.Lo,b=e.2.1
def MFp(X:MS)(b:Addr):Prop:=Fp X.m X.rd X.sd X.L b
structure MOk (cR cM:Addr) (H:Hp) (X:MS):Prop where
 M:ZG cR cM H X.m X.rd X.sd X.L X.s X.nb X.li X.lo (ZbL X.w)
 W:Win (hdM X.L) (Zr X.L) X.w
 ok:ZN (hdM X.L) X.s (Zr X.L)
structure Pair (cR cM:Addr) (H:Hp) (X:MS) (Y:OS):Prop where
 mg:MOk cR cM H X
 ow:Own H Y.o Y.ra Y.ga Y.Lo Y.nb X.li X.lo
 ag:Agr Y.Lo X.L
 sep:∀b,MFp X b→¬ Zn9 Y b
theorem MOk.same{cR cM:Addr}{H H':Hp}{X:MS}(h:MOk cR cM H X)(s:Zx H H'):MOk cR cM H' X:=⟨h.M.same s,h.W,h.ok⟩
theorem MOk.keep{cR cM:Addr}{H H':Hp}{X:MS}(h:MOk cR cM H X)(k:∀b o,H b=some o→MFp X b∨(∃xs,o=.tup xs)→H' b=some o):MOk cR cM H' X:=⟨h.M.keep k,h.W,h.ok⟩
theorem Zif{cR cM:Addr}{H:Hp}{X:MS}(h:MOk cR cM H X):(ZaT (Z6 X.L)).Nodup:=by rw[← ZZ];exact h.M.nd
def ZeI(rs:List (Addr×List Str)):List Z7:=(Zde 0 rs.length).zip (rs.map fun x=>(x.2,0))
theorem Zib{α β γ:Type}(f:α→β)(g:α→γ):∀l:List α,l.map (fun x=>(f x,g x))=(l.map f).zip (l.map g)
 | []=>rfl
 | x::r=>by rw[Qg,Qg,Qg,List.zip_cons_cons,Zib f g r]
theorem ZdA{L:List Zu}{rs:List (Addr×List Str)}(h:ZmJ L rs):Z6 L=ZeI rs:=by
 unfold Z6 ZeI
 rw[Zib (fun e:Zu=>e.n) (fun e=>(e.ss,e.g)) L,← h.1,← h.2];rfl
theorem Zja(rs:List (Addr×List Str)):ZbQ (ZeI rs)=(rs.map fun x=>x.2.length).sum:=by
 unfold ZbQ ZeI
 have e:((Zde 0 rs.length).zip (rs.map fun x=>(x.2,0))).map (fun x:Z7=>x.2.1.length-x.2.2)=((((Zde 0 rs.length).zip (rs.map fun x=>(x.2,0))).map (·.2))).map (fun y:List Str×Nat=>y.1.length-y.2):=by rw[Qr];rfl
 rw[e,List.map_snd_zip (by rw[Qa,ZeY];exact Qd _),Qr]
 rfl
def ZgU(K:PySem.W.Frag)(cR cM:Addr):Sp:=fun vs H Q _=>∃ (m rd sd:Addr) (L:List Zu) (s:StL) (nb li lo:Int) (best:V) (r:Addr) (ss:List Str),vs=[.ref m,.ref r]∧ZG cR cM H m rd sd L s nb li lo best∧(∀e∈L,e.n<nb)∧L.length<16∧H r=some (.lst (ss.map V.str))∧ss.length≤100∧(∀x∈ss,x.length≤1000∧AZ x)∧sortedS ss=true ∧
 ∀ (e:Zu) (sd':Addr) (s':StL) (w:Option Int) (k q:Int) (H':Hp),e.n=nb→e.ss=ss→e.g=0→H e.p=none→H e.k=none→H e.f=none→H sd'=none→Win (hdM (L++[e])) (Zr (L++[e])) w→ZcS (hdM (L++[e])) s' 8 (Zr (L++[e]))→ZaX (hdM (L++[e])) 8 (Zr (L++[e])) k q→ZG cR cM H' m rd sd' (L++[e]) s' (nb+1) (li+k) (lo+q) (ZbL w)→(∀b o,H b=some o→b≠m→b≠rd→H' b=some o)→Q (.int nb) H'
theorem ZhH(T:Zak K mg cRow cMerge)(f_refuse_break:Df P w K mg base 5 "refuse_break" ["number", "keys"] (Zdw K))(f_Row_init:Cf P w K mg base 4 cRow "Row" ["self", "keys"] (Zd0 cRow))(f_Merge_play_all:Mf P w K mg base 13 cMerge "play_all" ["self"] (Zd8 cRow cMerge)):Mf P w K mg base 14 cMerge "add_row" ["self", "row"] (ZgU K cRow cMerge):=by
 refine T.t_Merge_add_row.mf Zb9 (fun vs H Q E h=>?_) (fun cdv f A outer s H vs Q E hr h=>?_)
 ·obtain⟨m,rd,sd,L,s,nb,li,lo,best,r,ss,rfl,_⟩:=h
  rfl
 obtain⟨m,rd,sd,L,s,nb,li,lo',best,r,ss,rfl,M,hlt,h16,hr0,l100,laz,hsrt,q⟩:=h
 refine⟨_,#[Ze,#[Zv,2,Zb9.nd,(Or.inl rfl),#[ZL,‹0›]],#[Ze,#[ZaJ,#[Zz,f_refuse_break,hr,#[Za,‹2›,#[Za,‹1›,#[Zf]]],(by rfl)]],#[Ze,#[Zat,#[Zo,ZlI,#[Zw,Znf,(by rfl),T.b.n_len,Qs,#[Za,#[ZL,‹0›],#[Zf]]],(@ZkI _ _ _ _ T.g_MOST_ROWS (by rfl) (by decide)),(Zt _)],#[Zi,(@Zio _ _)],#[ZM]],#[Ze,#[Za8,#[Zfm,f_Row_init,hr,#[Za,‹1›,#[Zf]]],#[Zcv,#[ZL,‹0›],‹2›,(Zi1 hr)]],#[Ze,#[ZbZ,‹0›,#[Zh],ZeP],#[Ze,#[ZaJ,#[Z0,f_Merge_play_all,T.cl_Merge,hr,‹0›]],#[Zi,#[Zs,‹2›]]]]]]]],?_⟩
 obtain⟨dx,hm⟩:=M.ob
 refine⟨_,rfl,m,cMerge,dx,_,_,rfl,hm,T.cl_Merge,T.na_Merge_next_number,ZeU ..,?_⟩
 refine⟨_,rfl,_,rfl,nb,r,ss,rfl,SqL.of hr0,by omega,fun x hx=>(laz x hx).1,Zh9 hsrt,fun H1 s1=>?_⟩
 have M1:=M.same s1
 have hm1:=s1 _ _ hm
 have hkl:(((kvM L).length:Nat):Int)=(L.length:Int):=by unfold kvM;rw[Qa]
 refine⟨_,rfl,m,cMerge,dx,_,_,rfl,hm1,T.cl_Merge,T.na_Merge_rows,ZaH ..,rd,_,rfl,M1.rows,_,_,rfl,rfl,_,rfl,Zbd (fun d=>?_) (fun d=>?_)⟩
 ·have:(16:Int)≤(((kvM L).length:Nat):Int):=of_decide_eq_true d
  exact absurd this (by omega)
 refine⟨_,rfl,fun u dy hu hdy ndu=>?_⟩
 have huH:H u=none:=s1.free hu
 have s8:∀b o,H b=some o→(upd (upd H1 dy (.own u)) u (.ins cRow dy [])) b=some o:=fun b o hb=>by
  have:=s1 _ _ hb
  rw[Zc (Zb this hu),Zc (Zb this hdy)];exact this
 have hu8:(upd (upd H1 dy (.own u)) u (.ins cRow dy [])) u=some (.ins cRow dy []):=Zg
 generalize upd (upd H1 dy (.own u)) u (.ins cRow dy [])=H8 at s8 hu8 ⊢
 refine⟨u,dy,r,ss,rfl,hu8,s8 _ _ hr0,l100,fun x hx=>(laz x hx).1,fun k f H9 hk hf nkf R k9=>⟨rfl,?_⟩⟩
 have s9:Zx H H9:=fun b o hb=>k9 b o (s8 b o hb) (Zb hb huH)
 have free:∀b,H8 b=none→H b=none:=fun b hb=>by
  cases e:H b with
  | none=>rfl
  | some o=>rw[s8 b o e]at hb;cases hb
 have hkH:=free k hk
 have hfH:=free f hf
 have M9:=M.same s9
 have hm9:=s9 _ _ hm
 have nrd:rd≠u∧rd≠k∧rd≠f:=⟨Zb M.rows huH,Zb M.rows hkH,Zb M.rows hfH⟩
 have hsz:(kvM L).length<sizeLine:=by unfold kvM;rw[Qa];exact ZW (by omega)
 have hn1:ZaU (kvM L) (.inl nb)=none:=by
  cases hv:ZaU (kvM L) (.inl nb) with
  | none=>rfl
  | some v=>obtain⟨e,he,z⟩:=Qu.mp (ZgY hv);injection z with z _;have:=hlt e he;have:=Sum.inl.inj z;omega
 refine⟨_,rfl,m,cMerge,dx,_,_,rfl,hm9,T.cl_Merge,T.na_Merge_rows,ZaH ..,_,rfl,rd,_,rfl,Zdu.k (k:=.inl nb) M9.rows hsz,?_⟩
 rw[ZgM _ hn1,show kvM L++[((.inl nb:Key),V.ref u)]=kvM (L++[⟨nb,u,k,f,ss,0⟩]) by unfold kvM;rw[Qf];rfl]
 obtain⟨n1,n2,n3⟩:=M9.ne_m
 have M10:ZG cRow cMerge (upd H9 rd (.dK (kvM (L++[⟨nb,u,k,f,ss,0⟩])))) m rd sd (L++[⟨nb,u,k,f,ss,0⟩]) s nb li lo' best:=by
  refine⟨⟨dx,by rw[Zc n1];exact hm9⟩,Zg,?_,?_,fun e he=>?_,?_,?_,by rw[Qo,QA];omega,M.sfew⟩
  ·rw[Zc (fun z=>by have:=M9.stays;rw[z,M9.rows]at this;cases this)];exact M9.stays
  ·intro e he t ht
   have hb:=M9.ats e he t ht
   rw[Zc (fun z=>by rw[z,M9.rows]at hb;cases hb)];exact hb
  ·rcases Qk.mp he with he|he
   ·have re:=M9.each e he
    obtain⟨de,hde⟩:=re.at'.ob
    refine re.mono fun b o hb hor=>?_
    have nb':b≠rd:=fun z=>by
     rw[z,M9.rows]at hb
     injection hb with hb
     subst hb
     rcases hor with z2|z2|z2
     ·rw[← z2,z,M9.rows]at hde;cases hde
     ·have:=re.at'.ks;rw[← z2,z,M9.rows]at this;cases this
     ·have:=re.at'.fs;rw[← z2,z,M9.rows]at this;cases this
    rw[Zc nb'];exact hb
   ·rw[Ql.mp he]
    refine ZcH.keep (H:=H9) ⟨R,Qq _,l100,hsrt,laz⟩ (Zc nrd.1.symm) (Zc nrd.2.1.symm) (Zc nrd.2.2.symm)
  ·unfold Zr
   rw[Qf]
   refine List.pairwise_append.mpr ⟨M.up,List.pairwise_singleton ..,fun x hx y hy=>?_⟩
   obtain⟨e,he,rfl⟩:=Qu.mp hx
   have:y=nb:=by simpa using hy
   rw[this];exact hlt e he
  ·rw[Qf]
   refine List.nodup_append.mpr ⟨M.pd,by simp,fun a ha b hb=>?_⟩
   obtain⟨e,he,rfl⟩:=Qu.mp ha
   have:b=u:=by simpa using hb
   rw[this]
   obtain⟨de,hde⟩:=(M.each e he).at'.ob
   exact Zb hde huH
 have k10:∀b o,H b=some o→b≠rd→(upd H9 rd (.dK (kvM (L++[⟨nb,u,k,f,ss,0⟩])))) b=some o:=fun b o hb n=>by rw[Zc n];exact s9 b o hb
 generalize upd H9 rd (.dK (kvM (L++[⟨nb,u,k,f,ss,0⟩])))=H10 at M10 k10 ⊢
 have hm10:=k10 _ _ hm n1
 refine⟨_,rfl,m,cMerge,dx,_,_,rfl,hm10,T.cl_Merge,T.na_Merge_next_number,ZeU ..,_,_,rfl,rfl,dx,_,hm10,Zbl ..,?_⟩
 rw[ZeJ]
 have M11:=M10.obj (nb':=nb+1) (li':=li) (lo':=lo') (best':=best) (dx:=dx)
 have k11:∀b o,H b=some o→b≠m→b≠rd→(upd H10 m (.ins cMerge dx (mgF rd (nb+1) li lo' sd best))) b=some o:=fun b o hb n n'=>by rw[Zc n];exact k10 b o hb n'
 generalize upd H10 m (.ins cMerge dx (mgF rd (nb+1) li lo' sd best))=H11 at M11 k11 ⊢
 obtain⟨dx11,hm11⟩:=M11.ob
 have free11:∀b,H11 b=none→H b=none:=fun b hb=>by
  cases e:H b with
  | none=>rfl
  | some o =>
   by_cases z:b=m
   ·rw[z,hm11]at hb;cases hb
   ·by_cases z':b=rd
    ·rw[z',M11.rows]at hb;cases hb
    ·rw[k11 b o e z z']at hb;cases hb
 refine⟨_,rfl,m,dx11,_,rfl,hm11,ZcN ..,m,rd,sd,_,s,_,_,_,_,rfl,M11,fun sd' s' w0 k0 q0 H12 hsd' W12 S12 P12 M12 k12=>⟨_,rfl,?_⟩⟩
 exact q ⟨nb,u,k,f,ss,0⟩ sd' s' w0 k0 q0 H12 rfl rfl rfl huH hkH hfH (free11 sd' hsd') W12 S12 P12 M12 (fun b o hb n n'=>k12 b o (k11 b o hb n n') n)
def ZfK:Sp:=fun vs H Q _=>∃ (r:Addr) (rs:List (Addr×List Str)),vs=[.ref r]∧Zbi H r rs∧∀H':Hp,Zx H H'→Q (.int (((rs.map fun x=>x.2.length).sum:Nat):Int)) H'
theorem Zg1:∀rs:List (Addr×List Str),(rs.map fun x=>(x.2.length:Int)).sum=(((rs.map fun x=>x.2.length).sum:Nat):Int)
 | []=>rfl
 | x::r=>by rw[Qg,Qg,Q5,Q5,Zg1 r,Int.natCast_add]
theorem Zgx(T:Zak K mg cRow cMerge):Df P w K mg base 1 "how_many" ["rows"] ZfK:=by
 refine T.t_how_many.df ZgI (fun vs H Q E h=>?_) (fun cdv f A outer s H vs Q E hr h=>?_)
 ·obtain⟨r,rs,rfl,_⟩:=h
  rfl
 obtain⟨r,rs,rfl,hrs,q⟩:=h
 refine⟨_,#[Zi,#[Zs,#[Zw,(ZnY K),(by rfl),T.b.n_sum,boot_sum,#[Za,#[ZbD,Zli,#[iL,K,‹0›],(fun _ _ _ _=>#[cg,1,Zli]),(fun _ _ _ _=>(@ZbG _)),(fun _ _ _ _=>#[Zw,(ZdP K),(ZcY Zli rfl (by decide +kernel)),T.b.n_len,Qs,#[Za,#[cw,1,Zli],#[Zf]]])],#[Zf]]]]],?_⟩
 have hfew:=hrs.few
 refine⟨_,rfl,r,rfl,⟨_,SqL.of hrs.at'⟩,fun D hD=>?_⟩
 refine Zff (K:=K) (a:=r) (xs:=rs.map fun x=>V.ref x.1) (fun i zs σ H2=>(∃v:Option V,σ=[some (.ref r),v])∧zs=((rs.take i).map fun x=>(x.2.length:Int)).map V.int∧i≤rs.length∧H2 D=some (.lst zs)∧Zx H H2) ?_ (fun _ _ _ _ h=>SqL.of (h.2.2.2.2 _ _ hrs.at')) ?_ ?_
 ·exact⟨⟨none,rfl⟩,rfl,Qq _,Zg,Zl hD _⟩
 ·rintro i y zs σ H2 hy ⟨⟨v,rfl⟩,rfl,hi,hD2,s2⟩
  rw[Qp]at hy
  cases hz:rs[i]? with
  | none=>rw[hz]at hy;cases hy
  | some x =>
  rw[hz]at hy
  cases hy
  have hil:i<rs.length:=(Qh.mp hz).1
  refine⟨_,rfl,x.1,_,rfl,.inl (SqL.of (s2 _ _ (hrs.lst x (Qy hz)).1)),hD2,(by rw[Qa,Qa,Qx];exact ZW (by omega)),⟨_,rfl⟩,?_,hil,Zg,fun b u hb=>?_⟩
  ·rw[QS,hz,Qf,Qf,Qa];rfl
  ·rw[Zc (Zb hb hD)];exact s2 b u hb
 rintro zs σ H2 ⟨⟨v,rfl⟩,rfl,_,hD2,s2⟩
 rw[Qa,QN (Qd _)]at hD2
 refine⟨D,_,rfl,SqL.of hD2,by rw[Qa];omega,fun n hn=>?_,?_⟩
 ·obtain⟨x,hx,rfl⟩:=Qu.mp hn
  have:=(hrs.lst x hx).2.1
  omega
 ·rw[Zg1];exact q H2 s2
def ZjR:Sp:=fun vs H Q _=>∃ (r:Addr) (rs:List (Addr×List Str)),vs=[.ref r]∧Zbi H r rs∧(∀x∈rs,sortedS x.2=true)∧∀ (t:Addr) (k0 q0 k1 q1:Int) (H':Hp),ZaX (hdP (ZeI rs)) 8 (ZaT (ZeI rs)) k0 q0→ZbJ (ZeI rs) k1 q1→H' t=some (.tup [.int (k0+k1),.int (q0+q1)])→Zx H H'→Q (.ref t) H'
theorem ZiQ(rd:Addr)(nb li lo:Int)(sd:Addr)(best:V):(mgF rd nb li lo sd best).lookup ("take_few" : Str)=none:=Za5 _ _ _ _ _ _ (by decide +kernel) (by decide +kernel) (by decide +kernel) (by decide +kernel) (by decide +kernel) (by decide +kernel)
theorem Zl1(rs:List (Addr×List Str))(h:∀x∈rs,x.2.length≤100):(rs.map fun x=>x.2.length).sum≤rs.length*100:=by
 induction rs with
 | nil=>exact Qd _
 | cons x r ih =>
  have:=ih fun y hy=>h y (Qw _ hy)
  have:=h x (by simp)
  rw[Qg,Q5,QF]
  omega
theorem Ziw(T:Zak K mg cRow cMerge)(f_Merge_init:Cf P w K mg base 14 cMerge "Merge" ["self", "rows"] (ZcO cRow cMerge))(f_Merge_take_few:Mf P w K mg base 7 cMerge "take_few" ["self", "many"] (ZlE K cRow cMerge))(f_how_many:Df P w K mg base 1 "how_many" ["rows"] ZfK)
  (f_Merge_likenings:Mf P w K mg base 1 cMerge "likenings" ["self"] (Zh5 cRow cMerge)) (f_Merge_looks:Mf P w K mg base 1 cMerge "looks" ["self"] (Zjp cRow cMerge)):Df P w K mg base 16 "counts" ["rows"] ZjR:=by
 refine T.t_counts.df ZfE (fun vs H Q E h=>?_) (fun cdv f A outer s H vs Q E hr h=>?_)
 ·obtain⟨r,rs,rfl,_⟩:=h
  rfl
 obtain⟨r,rs,rfl,hrs,hsrt,q⟩:=h
 refine⟨_,#[Ze,#[Zv,1,ZfE.nd,(Or.inl rfl),#[Zfm,f_Merge_init,hr,#[Za,‹0›,#[Zf]]]],#[Ze,#[ZaJ,#[Zda,f_Merge_take_few,T.cl_Merge,hr,‹1›,#[Za,#[Zz,f_how_many,hr,#[Za,‹0›,#[Zf]],(by rfl)],#[Zf]]]],#[Zi,#[Zs,#[Za9,#[Za,#[Z0,f_Merge_likenings,T.cl_Merge,hr,‹1›],#[Za,#[Z0,f_Merge_looks,T.cl_Merge,hr,‹1›],#[Zf]]]]]]]],?_⟩
 refine⟨_,rfl,fun m dx hm hdx nmd=>?_⟩
 have s1:Zx H (upd (upd H dx (.own m)) m (.ins cMerge dx [])):=fun b o hb=>by rw[Zc (Zb hb hm),Zc (Zb hb hdx)];exact hb
 have hm1:(upd (upd H dx (.own m)) m (.ins cMerge dx [])) m=some (.ins cMerge dx []):=Zg
 generalize upd (upd H dx (.own m)) m (.ins cMerge dx [])=H1 at s1 hm1 ⊢
 refine⟨m,dx,r,rs,rfl,hm1,hrs.same s1,hsrt,fun rd sd L st w0 k0 q0 H2 M2 hnew W2 S2 P2 fp2 k2=>⟨rfl,?_⟩⟩
 have s2:Zx H H2:=fun b o hb=>k2 b o (s1 b o hb) (Zb hb hm)
 have fpH:∀b,Fp m rd sd L b→H b=none:=fun b hb=>by
  rcases fp2 b hb with z|z
  ·rw[z];exact hm
  ·exact s1.free z
 have ok2:=ZbX 8 (hdM L) st (Zr L) M2.up (QC (show (Zr L).length≤60 by unfold Zr;rw[Qa];exact M2.few) (by decide)) (by decide) S2
 have eP:=ZdA hnew
 obtain⟨dx2,hm2⟩:=M2.ob
 have hsum:=Zl1 rs fun x hx=>(hrs.lst x hx).2.1
 have hfew:=hrs.few
 have hl:=Zja rs
 refine⟨_,rfl,m,dx2,_,rfl,hm2,ZiQ ..,_,rfl,r,rs,rfl,hrs.same s2,fun H3 s3=>?_⟩
 have M3:=M2.same s3
 refine⟨m,rd,sd,L,st,_,k0,q0,w0,_,rfl,M3,W2,ok2,by rw[eP,hl];omega,fun rr us L' s' w' k1 q1 H4 hrr hrr4 hus htk hfin hmany M4 W4 ok4 fp4 k4=>?_⟩
 have s4:Zx H H4:=fun b o hb=>k4 b o (s3 b o (s2 b o hb)) fun z=>by rw[fpH b z]at hb;cases hb
 have nd:(ZaT (Z6 L)).Nodup:=by rw[← ZZ];exact M2.nd
 have hlf:=htk.left nd
 rw[Qa,eP,hl]at hlf
 have nd':(ZaT (Z6 L')).Nodup:=by rw[htk.num];exact nd
 have wn:Win (hdP (Z6 L')) (ZaT (Z6 L')) none:=by
  by_cases hlt:(us.length:Int)<(((rs.map fun x=>x.2.length).sum:Nat):Int)
  ·have:=hfin hlt
   subst this
   rw[ZaZ,ZZ]at W4
   exact W4
  ·refine Zis nd' (by omega) fun x hx=>?_
   obtain⟨e,he,rfl⟩:=Qu.mp hx
   exact(M4.each e he).le
 have hends:=htk.ends (.stop wn)
 rw[Q0,Q0,eP]at hends
 obtain⟨dx4,hm4⟩:=M4.ob
 refine⟨_,rfl,m,dx4,_,rfl,hm4,Zaa ..,m,rd,sd,L',s',_,_,_,_,rfl,M4,?_⟩
 refine⟨_,rfl,m,dx4,_,rfl,hm4,Zcy ..,m,rd,sd,L',s',_,_,_,_,rfl,M4,(by show 2≤sizeLine;decide),fun t ht=>?_⟩
 exact q t k0 q0 k1 q1 _ (by rw[← eP,← ZaZ,← ZZ];exact P2) hends Zg (s4.trans (Zl ht _))
theorem ZfD(rd:Addr)(nb li lo:Int)(sd:Addr)(best:V):(mgF rd nb li lo sd best).lookup ("add_row" : Str)=none:=Za5 _ _ _ _ _ _ (by decide +kernel) (by decide +kernel) (by decide +kernel) (by decide +kernel) (by decide +kernel) (by decide +kernel)
theorem ZdQ:∀a b:List Nat,Spec.ltCps a b=true↔a<b
 | [],[]=>by simp[Spec.ltCps]
 | [],y::s=>by simp[Spec.ltCps]
 | x::r,[]=>by simp[Spec.ltCps]
 | x::r,y::s=>by
  have ih:=ZdQ r s
  rw[List.cons_lt_cons_iff]
  simp[Spec.ltCps,ih]
def LeS(a b:Str):Prop:=¬ b.cps.toList<a.cps.toList
theorem LeS.trans{a b c:Str}(h:LeS a b)(k:LeS b c):LeS a c:=List.not_lt.mpr (List.le_trans (List.not_lt.mp h) (List.not_lt.mp k))
theorem Zfz:∀ (r:List Str) (x:Str),risingS x r=true↔(x::r).Pairwise LeS
 | [],x=>by simp[risingS]
 | y::r,x=>by
  have ih:=Zfz r y
  rw[List.pairwise_cons]
  unfold risingS
  rw[QV,Bool.not_eq_true']
  constructor
  ·rintro⟨h1,h2⟩
   have p:=ih.mp h2
   have hxy:LeS x y:=fun z=>by rw[(ZdQ _ _).mpr z]at h1;cases h1
   refine⟨fun b hb=>?_,p⟩
   rcases QE.mp hb with rfl|hb
   ·exact hxy
   ·exact hxy.trans ((List.pairwise_cons.mp p).1 b hb)
  ·rintro⟨h1,h2⟩
   exact⟨Bool.eq_false_iff.mpr fun z=>h1 y (by simp) ((ZdQ _ _).mp z),ih.mpr h2⟩
theorem ZjA(ss:List Str):sortedS ss=true↔ss.Pairwise LeS:=by
 cases ss with
 | nil=>simp[sortedS]
 | cons x r=>exact Zfz r x
theorem ZgC{K:PySem.W.Frag}{a:Addr}{ss:List Str}{k:Nat}{D:Addr}{σ:L2.St}{H1:Hp}{g:TG}{tc:TT}{te:TE}{Q:VK}(fB:Str→Bool)(fS:Str→Str)(R:L2.St→Prop)(hD:H1 D=none)(ha:SqL K H1 a (ss.map V.str))(hn:ss.length≤1000)(h0:R (σ++List.replicate k none))
  (hs:∀x∈ss,∀ (σ:L2.St) (H:Hp) (N:L2.St→V→Hp→Prop) (M:L2.St→Hp→Prop),R σ→(∀σ4,R σ4→fB x=true→N σ4 (.str (fS x)) H)→(∀σ4,R σ4→fB x=false→M σ4 H)→g (.str x) σ H fun σ4 H4=>tc σ4 H4 fun b H5=>if b=true then te σ4 H5 fun y H6=>N σ4 y H6 else M σ4 H5)
  (hd:∀σ4,R σ4→Q (.ref D) (upd H1 D (.lst (((ss.filter fB).map fS).map V.str)))):ZdZ (Itl K a) D k σ H1 g tc te Q:=by
 refine Zhb (K:=K) (a:=a) (xs:=ss.map V.str) (fun i ys σ H=>R σ∧ys=(((ss.take i).filter fB).map fS).map V.str∧H=upd H1 D (.lst ys)∧i≤ss.length) ⟨h0,rfl,rfl,Qq _⟩ ?_ ?_ ?_
 ·rintro i ys σ H ⟨_,_,rfl,_⟩
  exact(Zl hD _).seq ha
 ·rintro i x ys σ H hx ⟨hR,rfl,rfl,hi⟩
  rw[Qp]at hx
  cases hy:ss[i]? with
  | none=>rw[hy]at hx;cases hx
  | some y =>
   rw[hy]at hx
   injection hx with hx
   subst hx
   have hil:i<ss.length:=(Qh.mp hy).1
   have ht:ss.take (i+1)=ss.take i++[y]:=by rw[List.take_succ,hy];rfl
   refine hs y (Qy hy) σ _ _ _ hR (fun σ4 h4 hb=>⟨Zg,?_,h4,?_,by rw[ZkV],hil⟩) (fun σ4 h4 hb=>⟨h4,?_,rfl,hil⟩)
   ·rw[Qa,Qa]
    have:=List.length_filter_le fB (ss.take i)
    rw[Qx]at this
    exact ZW (by omega)
   ·rw[ht,List.filter_append,List.filter_cons_of_pos hb,List.filter_nil,Qf,Qf];rfl
   ·rw[ht,List.filter_append,List.filter_cons_of_neg (by rw[hb];exact Qi),List.filter_nil,List.append_nil]
 ·rintro ys σ H ⟨hR,rfl,rfl,_⟩
  have e:ss.take (ss.map V.str).length=ss:=by rw[Qa,List.take_length]
  rw[e]
  exact hd σ hR
theorem Zcb(z:List Nat)(x y:List Nat):lcp (z++x) (z++y)=z.length+lcp x y:=by
 induction z with
 | nil=>simp
 | cons a r ih =>
  rw[Q2,Q2,QF]
  show (if a=a then lcp (r++x) (r++y)+1 else 0)=_
  rw[if_pos rfl,ih]
  omega
theorem Zjt(z:List Nat)(x y:List Nat):ZF (z++x) (z++y)=ZF x y:=by
 induction z with
 | nil=>rfl
 | cons a r ih =>
  rw[Q2,Q2]
  show (if a=a then ZF (r++x) (r++y) else if a<a then -1 else 1)=_
  rw[if_pos rfl,ih]
theorem ZkD(z:List Nat){x y:List Nat}{a b:Int}(h:Btr x a y b):Btr (z++x) a (z++y) b:=by
 unfold Btr
 rw[Zjt];exact h
def Zga(z:List Nat)(hd:Hd):Hd:=fun n=>(hd n).map (z++·)
theorem Zck{z:List Nat}{hd:Hd}{n:Int}{x:List Nat}(h:hd n=some x):Zga z hd n=some (z++x):=by unfold Zga;rw[h];rfl
theorem Zav(z:List Nat){hd:Hd}{N:List Int}{w:Option Int}(h:Win hd N w):Win (Zga z hd) N w:=by
 cases w with
 | none=>exact fun n hn=>by unfold Zga;rw[h n hn];rfl
 | some a =>
  obtain⟨h1,x,h2,h3⟩:=h
  refine⟨h1,z++x,Zck h2,fun b hb y hy=>?_⟩
  unfold Zga at hy
  cases e:hd b with
  | none=>rw[e]at hy;cases hy
  | some y' =>
   rw[e]at hy
   injection hy with hy
   rw[← hy]
   exact(h3 b hb y' e).imp id (ZkD z)
theorem Zbu(z:List Nat){hd:Hd}:∀ {n:Nat} {N:List Int} {k q:Int},ZaX hd n N k q→ZaX (Zga z hd) n N k (q+z.length*k)
 | _,_,_,_,.few h=>by
  rw[Int.mul_zero,Q0];exact .few h
 | _,_,_,_,.none h p1 p2 h3=>by
  have:=ZaX.none h (Zbu z p1) (Zbu z p2) (h3.imp (Zav z) (Zav z))
  rw[Int.mul_add]
  exact(by omega:∀a b c d:Int,a+c+(b+d)=a+b+(c+d)) _ _ _ _ ▸ this
 | _,_,_,_,.both (k:=k) (l:=l) (k':=k') (l':=l') (x:=x) (y:=y) h p1 p2 w1 w2 hx hy=>by
  have:=ZaX.both h (Zbu z p1) (Zbu z p2) (Zav z w1) (Zav z w2) (Zck hx) (Zck hy)
  rw[Zcb]at this
  have e:l+(z.length:Int)*k+(l'+(z.length:Int)*k')+((z.length+lcp x y:Nat):Int)+1=l+l'+(lcp x y:Nat)+1+(z.length:Int)*(k+k'+1):=by
   rw[Int.mul_add,Int.mul_add,Int.mul_one,Int.natCast_add];omega
  rw[e]at this
  exact this
theorem ZmL(z:List Nat){hd:Hd}{zz:List Nat}{C:List (List Int×List Int)}{k q:Int}(h:Ag hd zz C k q):Ag (Zga z hd) (z++zz) C k q:=by
 induction h with
 | nil=>exact .nil
 | no _ h ih=>exact .no ih (h.imp (Zav z) (Zav z))
 | eq _ w1 w2 hx hy he ih =>
  have:=Ag.eq ih (Zav z w1) (Zav z w2) (Zck hx) (Zck hy) (by rw[Zcb,Zcb,he])
  rw[Zcb,Zcb]at this
  simpa only[Int.natCast_add,Int.add_sub_add_left] using this
 | ne _ w1 w2 hx hy he ih=>exact .ne ih (Zav z w1) (Zav z w2) (Zck hx) (Zck hy) (by rw[Zcb,Zcb];omega)
def Zhz(z:Str)(x:Z7):Z7:=(x.1,x.2.1.map (z++·),x.2.2)
def ZbB(z:Str)(P:List Z7):List Z7:=P.map (Zhz z)
theorem Za2(z:Str)(P:List Z7):ZaT (ZbB z P)=ZaT P:=by
 unfold ZaT ZbB
 rw[Qr];rfl
theorem Zce(z:Str):∀P:List Z7,hdP (ZbB z P)=Zga (cds z) (hdP P):=fun P=>by
 funext n
 unfold hdP ZbB Zga hdL
 rw[Qr]
 induction P with
 | nil=>rfl
 | cons x r ih =>
  rw[Qg,Qg,QZ,QZ]
  by_cases h:x.1=n
  ·simp only[Function.comp,Zhz,h,decide_true,Option.bind_some]
   rw[Qp]
   cases x.2.1[x.2.2]? with
   | none=>rfl
   | some s=>simp only[Option.map_some];exact congrArg some (Zdx z s)
  ·simp only[Function.comp,Zhz,h,decide_false]
   exact ih
theorem ZeG(z:Str)(P:List Z7)(n:Int):Zbc (ZbB z P) n=ZbB z (Zbc P n):=by
 unfold Zbc ZbB
 rw[Qr,Qr]
 refine QO fun x _=>?_
 simp only[Function.comp]
 unfold ZdB Zhz
 split<;>rfl
theorem ZgO(z:Str){P:List Z7}{x:Z7}{s:Str}{k q:Int}(h:Zed P x s k q):Zed (ZbB z P) (Zhz z x) (z++s) k q:=by
 obtain⟨h1,h2,h3,h4⟩:=h
 refine⟨Qc h1,?_,?_,?_⟩
 ·show (x.2.1.map (z++·))[x.2.2]? = _
  rw[Qp,h2];rfl
 ·rw[Zce,Za2];exact Zav _ h3
 ·show Ag (hdP (Zbc (ZbB z P) x.1)) (cds (z++s)) (Zcd x.1 (ZJ 8 (ZaT (ZbB z P)) x.1)) k q
  rw[ZeG,Zce,Za2,Zdx]
  exact ZmL _ h4
theorem Zki(z:Str){P:List Z7}{k q:Int}(h:ZbJ P k q):ZbJ (ZbB z P) k q:=by
 induction h with
 | stop h=>exact .stop (by rw[Zce,Za2];exact Zav _ h)
 | go st _ ih=>exact .go (ZgO z st) (by show ZbJ (Zbc (ZbB z _) _) _ _;rw[ZeG];exact ih)
theorem LeS.pre(z:Str){a b:Str}(h:LeS a b):LeS (z++a) (z++b):=fun y=>by
 have hl:∀c x w:List Nat,c++x<c++w→x<w:=fun c x w=>by
  induction c with
  | nil=>exact id
  | cons d r ih=>rw[Q2,Q2,List.cons_lt_cons_iff];rintro(h|⟨_,h⟩);exact absurd h (Q1 _);exact ih h
 have e1:(z++b).cps.toList=z.cps.toList++b.cps.toList:=Zdx z b
 have e2:(z++a).cps.toList=z.cps.toList++a.cps.toList:=Zdx z a
 rw[e1,e2]at y
 exact h (hl _ _ _ y)
theorem Zgd(z:Str){ss:List Str}(h:sortedS ss=true):sortedS (ss.map (z++·))=true:=by
 rw[ZjA]at h ⊢
 exact List.Pairwise.map _ (fun a b h=>h.pre z) h
theorem ZhN(z:Str):∀ (rs:List (Addr×List Str)) (N:List Int),N.zip (rs.map fun x=>(x.2.map (z++·),0))=(N.zip (rs.map fun x=>(x.2,0))).map (Zhz z)
 | [],N=>by cases N<;>rfl
 | x::r,[]=>rfl
 | x::r,n::N=>by rw[Qg,Qg,List.zip_cons_cons,List.zip_cons_cons,Qg,ZhN z r N];rfl
theorem ZhZ(z:Str){rs rs':List (Addr×List Str)}(h:rs'.map (·.2)=rs.map fun x=>x.2.map (z++·)):ZeI rs'=ZbB z (ZeI rs):=by
 have hl:rs'.length=rs.length:=by have:=congrArg List.length h;rw[Qa,Qa]at this;exact this
 unfold ZeI ZbB
 rw[hl]
 have e:rs'.map (fun x=>(x.2,0))=rs.map fun x=>(x.2.map (z++·),0):=by
  have:=congrArg (List.map fun y:List Str=>(y,0)) h
  rw[Qr,Qr]at this
  exact this
 rw[e]
 exact ZhN z rs _
def Zh4:Sp:=fun vs H Q _=>∃ (r:Addr) (z:Str) (rs:List (Addr×List Str)),vs=[.ref r,.str z]∧Zbi H r rs∧(∀x∈rs,∀s∈x.2,s.length≤28)∧z.length≤12∧AZ z ∧
 ∀ (r':Addr) (rs':List (Addr×List Str)) (H':Hp),H r'=none→Zbi H' r' rs'→(rs'.map (·.2)=rs.map fun x=>x.2.map (z++·))→Zx H H'→Q (.ref r') H'
theorem ZjI(T:Zak K mg cRow cMerge):Df P w K mg base 1 "_law_ahead" ["_law_rows_here", "_law_letters"] Zh4:=by
 refine T.t_l_ahead.df Zhw (fun vs H Q E h=>?_) (fun cdv f A outer s H vs Q E hr h=>?_)
 ·obtain⟨r,z,rs,rfl,_⟩:=h
  rfl
 obtain⟨r,z,rs,rfl,hrs,h28,z12,zaz,q⟩:=h
 refine⟨_,#[Zi,#[Zs,#[ZbD,Zmb,#[iL,K,‹0›],(fun _ _ _ _=>#[cg,2,Zmb]),(fun _ _ _ _=>(@ZbG _)),(fun _ _ _ _=>#[ZbD,Zlk,#[iL,K,#[cw,2,Zmb]],(fun _ _ _ _=>#[cg,3,Zlk]),(fun _ _ _ _=>(@ZbG _)),(fun _ _ _ _=>#[ZP,Zci,#[cv,1,Zlk],#[cw,3,Zlk]])])]]],?_⟩
 refine⟨_,rfl,r,rfl,⟨_,SqL.of hrs.at'⟩,fun D hD=>?_⟩
 have hfew:=hrs.few
 refine Zff (K:=K) (a:=r) (xs:=rs.map fun x=>V.ref x.1) (fun i ys σ H2=>(∃v:Option V,σ=[some (.ref r),some (.str z),v])∧(∃rs':List (Addr×List Str),ys=rs'.map (fun x=>V.ref x.1)∧rs'.map (·.2)=(rs.take i).map (fun x=>x.2.map (z++·))∧∀x∈rs',x.1≠D∧H2 x.1=some (.lst (x.2.map V.str)))∧i≤rs.length∧H2 D=some (.lst ys)∧Zx H H2) ⟨⟨none,rfl⟩,⟨[],rfl,rfl,(fun x h=>by cases h)⟩,Qq _,Zg,Zl hD _⟩ ?_ ?_ ?_
 ·rintro i ys σ H2 ⟨_,_,_,_,s2⟩
  exact SqL.of (s2 _ _ hrs.at')
 ·rintro i x ys σ H2 hx ⟨⟨v,rfl⟩,⟨rs',rfl,he,hat⟩,hi,hD2,s2⟩
  rw[Qp]at hx
  cases hu:rs[i]? with
  | none=>rw[hu]at hx;cases hx
  | some e =>
  rw[hu]at hx
  injection hx with hx
  subst hx
  have hil:i<rs.length:=(Qh.mp hu).1
  have hem:=Qy hu
  obtain⟨he1,he2,he3⟩:=hrs.lst e hem
  refine⟨_,rfl,e.1,rfl,⟨_,SqL.of (s2 _ _ he1)⟩,fun D2 hD2'=>?_⟩
  refine ZgC (K:=K) (a:=e.1) (ss:=e.2) (fun _=>true) (fun x=>z++x) (fun σ=>∃v:Option V,σ=[some (.ref r),some (.str z),some (.ref e.1),v]) hD2' (SqL.of (s2 _ _ he1)) (by omega) ⟨_,rfl⟩ ?_ ?_
  ·rintro x hx σ Hx N M ⟨v,rfl⟩ hN hM
   have:=h28 e hem x hx
   exact⟨_,rfl,_,rfl,_,_,rfl,rfl,Zbk (by omega),hN _ ⟨_,rfl⟩ rfl⟩
  rintro σ5 ⟨v5,rfl⟩
  rw[show e.2.filter (fun _=>true)=e.2 from List.filter_eq_self.mpr fun _ _=>rfl]
  have sD:=Zl hD2' (.lst ((e.2.map fun x=>z++x).map V.str))
  have hl:rs'.length=i:=by have:=congrArg List.length he;rw[Qa,Qa,Qx]at this;omega
  have nDD:D2≠D:=(Zb hD2 hD2').symm
  refine⟨sD _ _ hD2,(by rw[Qa,hl];exact ZW (by omega)),⟨_,rfl⟩,⟨rs'++[(D2,e.2.map fun x=>z++x)],by rw[Qf];rfl,?_,fun x hx=>?_⟩,hil,Zg,fun b u hb=>?_⟩
  ·rw[QS,hu,Qf,he,Option.toList_some,Qf];rfl
  ·rcases Qk.mp hx with hx|hx
   ·obtain⟨g1,g2⟩:=hat x hx
    exact⟨g1,by rw[Zc g1];exact sD _ _ g2⟩
   ·rw[Ql.mp hx]
    exact⟨nDD,by rw[Zc nDD];exact Zg⟩
  ·rw[Zc (Zb hb hD)];exact sD _ _ (s2 b u hb)
 rintro ys σ H2 ⟨⟨v,rfl⟩,⟨rs',rfl,he,hat⟩,hi,hD2,s2⟩
 rw[Qa,List.take_length]at he
 have hl:rs'.length=rs.length:=by have:=congrArg List.length he;rw[Qa,Qa]at this;exact this
 refine q D rs' H2 hD ⟨hD2,by omega,fun x hx=>⟨(hat x hx).2,?_⟩⟩ he s2
 have:x.2∈rs.map fun x=>x.2.map (z++·):=by rw[← he];exact Qc (f:=fun x:Addr×List Str=>x.2) hx
 obtain⟨y,hy,e⟩:=Qu.mp this
 rw[← e]
 obtain⟨_,g2,g3⟩:=hrs.lst y hy
 refine⟨by rw[Qa];exact g2,fun s hs=>?_⟩
 obtain⟨s',hs',rfl⟩:=Qu.mp hs
 have:=h28 y hy s' hs'
 rw[Qac]
 exact⟨by omega,zaz.app (g3 s' hs').2⟩
def Zc8(H:Hp)(v:V)(d:PyData):Prop:=(v=.non∧d=.none)∨∃ (t:Addr) (n g:Int) (s:Str),v=.ref t∧H t=some (.tup [.int n,.int g,.str s])∧d=.tuple [.int n,.int g]
theorem Zc8.one{H:Hp}{v:V}{d d':PyData}(h:Zc8 H v d)(g:Zc8 H v d'):d=d':=by
 rcases h with⟨rfl,rfl⟩|⟨t,n,g1,s,rfl,ht,rfl⟩
 ·rcases g with⟨_,rfl⟩|⟨t',n',g1',s',e,_⟩
  ·rfl
  ·cases e
 ·rcases g with⟨e,_⟩|⟨t',n',g1',s',e,ht',rfl⟩
  ·cases e
  ·injection e with e
   subst e
   rw[ht]at ht'
   cases ht'
   rfl
def Zd9(H:Hp)(v:V)(d:PyData):Prop:=(v=.non∧d=.none)∨∃ (t:Addr) (n g:Int),v=.ref t∧H t=some (.tup [.int n,.int g])∧d=.tuple [.int n,.int g]
theorem Zd9.keep{H H':Hp}{v:V}{d:PyData}(h:Zd9 H v d)(k:∀t xs,H t=some (.tup xs)→H' t=some (.tup xs)):Zd9 H' v d:=by
 rcases h with h|⟨t,n,g,e,ht,e'⟩
 ·exact .inl h
 ·exact .inr ⟨t,n,g,e,k _ _ ht,e'⟩
theorem Zd9.dv{K:PySem.W.Frag}{H:Hp}{v:V}{d:PyData}(h:Zd9 H v d):DV K H v d:=by
 rcases h with⟨rfl,rfl⟩|⟨t,n,g,rfl,ht,rfl⟩
 ·exact .non
 ·exact .tup (SqT.of ht) (.cons (.int _) (.cons (.int _) .nil))
theorem Zgi(n g:Int):SeqAt.shaped (.tuple [.int n,.int g])=true:=by simp[SeqAt.shaped,PyData.canLay0,PyData.canLayAll0,PyData.depth,PyData.depthAll]
theorem Zd9.sh{H:Hp}{v:V}{d:PyData}(h:Zd9 H v d):SeqAt.shaped d=true∧PyData.eqv d d=true:=by
 rcases h with⟨rfl,rfl⟩|⟨t,n,g,rfl,ht,rfl⟩
 ·exact⟨rfl,SeqAt.eqv_refl _ rfl⟩
 ·exact⟨Zgi n g,SeqAt.eqv_refl _ (by simp[PyData.canLay0,PyData.canLayAll0])⟩
def ZeF:Sp:=fun vs H Q _=>∃ (v:V) (d:PyData),vs=[v]∧Zc8 H v d∧∀ (x:V) (H':Hp),Zd9 H' x d→Zx H H'→Q x H'
theorem Zhr(T:Zak K mg cRow cMerge):Df P w K mg base 1 "_law_pair_of" ["_law_thing"] ZeF:=by
 refine T.t_l_pair_of.df Zgg (fun vs H Q E h=>?_) (fun cdv f A outer s H vs Q E hr h=>?_)
 ·obtain⟨v,d,rfl,_⟩:=h
  rfl
 obtain⟨v,d,rfl,hv,q⟩:=h
 refine⟨_,#[Zi,#[Zs,#[ZaY,#[Zo,ZbK,‹0›,#[Zae],(Zt _)],#[Zae],(@Zeo _ _ _ _ _ _ _ _ _ _ (slT K) ‹0› (@ZfV _) (@ZfY _ _ _ #[Zh]))]]],?_⟩
 rcases hv with⟨rfl,rfl⟩|⟨t,n,g,z,rfl,ht,rfl⟩
 ·exact⟨_,rfl,rfl,_,rfl,Zeu rfl (q _ _ (.inl ⟨rfl,rfl⟩) (Zx.refl _))⟩
 ·refine⟨_,rfl,rfl,_,rfl,Zcs (by intro z;cases z) ?_⟩
  refine⟨_,rfl,_,rfl,t,_,rfl,SqT.of ht,fun h=>absurd (show HT.sIx 3 3 (some 2)=3 from h.2) (by decide),fun t' ht'=>?_⟩
  exact q _ _ (.inr ⟨t',n,g,rfl,Zg,rfl⟩) (Zl ht' (.tup [.int n,.int g]))
structure Tw (cR cM:Addr) (H:Hp) (X Y:MS) (z:Str) (pl:Int):Prop where
 m1:MOk cR cM H X
 m2:MOk cR cM H Y
 pu:Z6 Y.L=ZbB z (Z6 X.L)
 li:Y.li=X.li
 lo:Y.lo=X.lo+(z.length:Int)*pl
theorem Zf4(z:Str):(cds z).length=z.length:=by simp[Str.length]
theorem Zls{z:Str}{L L2:List Zu}{H1 H2:Hp}{x y:V}(pu:Z6 L2=ZbB z (Z6 L))(nd:(Zr L).Nodup)(hz0:∀e∈L,∀s∈e.ss,s.length≤1000)(h1:Zik (L.map toL) H1 x)(h2:Zik (L2.map toL) H2 y) :
  (x=.non∧y=.non)∨∃ (t t':Addr) (n g:Int) (s:Str),x=.ref t∧y=.ref t'∧H1 t=some (.tup [.int n,.int g,.str s])∧H2 t'=some (.tup [.int n,.int g,.str (z++s)])∧s.length≤1000:=by
 have w2:∀ {w:Option Int},Win (hdM L) (Zr L) w→Win (hdM L2) (Zr L2) w:=fun {w} h=>by
  rw[ZaZ,ZZ]at h ⊢
  rw[pu,Zce,Za2];exact Zav _ h
 have e1:∀ {w:Option Int},Win (hdL (L.map toL)) ((L.map toL).map (·.1)) w→Win (hdM L) (Zr L) w:=fun {w} h=>by rw[Zb6]at h;exact h
 have e2:∀ {w:Option Int},Win (hdL (L2.map toL)) ((L2.map toL).map (·.1)) w→Win (hdM L2) (Zr L2) w:=fun {w} h=>by rw[Zb6]at h;exact h
 rcases h1 with⟨rfl,w1⟩|⟨t,e,s,rfl,he,hz,ht,w1⟩
 ·rcases h2 with⟨rfl,_⟩|⟨t',e',s',rfl,he',hz',ht',w2'⟩
  ·exact .inl ⟨rfl,rfl⟩
  ·exact nomatch (w2 (e1 w1)).one (e2 w2')
 ·rcases h2 with⟨rfl,w2'⟩|⟨t',e',s',rfl,he',hz',ht',w2'⟩
  ·exact nomatch (w2 (e1 w1)).one (e2 w2')
  ·have en:=(w2 (e1 w1)).one (e2 w2')
   injection en with en
   obtain⟨r,hr,rfl⟩:=Qu.mp he
   obtain⟨r',hr',rfl⟩:=Qu.mp he'
   have hp:(r'.n,(r'.ss,r'.g))∈ZbB z (Z6 L):=by rw[← pu];exact Qc (f:=fun e:Zu=>(e.n,(e.ss,e.g))) hr'
   obtain⟨x,hx,ex⟩:=Qu.mp hp
   have hx1:x=(r.n,(r.ss,r.g)):=Zds (P:=Z6 L) (by rw[ZZ]at nd;exact nd) hx (Qc (f:=fun e:Zu=>(e.n,(e.ss,e.g))) hr) (by
    have:=congrArg (fun p:Z7=>p.1) ex
    exact this.trans en.symm)
   subst hx1
   have ess:r'.ss=r.ss.map (z++·):=(congrArg (fun p:Z7=>p.2.1) ex).symm
   have eg:r'.g=r.g:=(congrArg (fun p:Z7=>p.2.2) ex).symm
   have es:s'=z++s:=by
    have h:=hz'
    show s'=z++s
    have h':r'.ss[r'.g]? = some s':=hz'
    rw[ess,eg,Qp,show r.ss[r.g]? = some s from hz]at h'
    exact(Qe h').symm
   refine .inr ⟨t,t',r.n,(r.g:Int),s,rfl,rfl,ht,?_,hz0 r hr s (Qy hz)⟩
   rw[← es]
   have:H2 t'=some (.tup [.int r'.n,.int (r'.g:Int),.str s']):=ht'
   rw[eg,show r'.n=r.n from en.symm]at this
   exact this
def ZlA(cR cM:Addr):Sp:=fun vs H Q _=>∃ (X Y:MS) (z:Str) (pl:Int),vs=[.ref X.m,.ref Y.m,.str z,.int pl]∧Tw cR cM H X Y z pl∧z.length≤12∧∀H',Zx H H'→Q (.bl true) H'
theorem Zml(T:Zak K mg cRow cMerge)(f_Merge_likenings:Mf P w K mg base 1 cMerge "likenings" ["self"] (Zh5 cRow cMerge))(f_Merge_looks:Mf P w K mg base 1 cMerge "looks" ["self"] (Zjp cRow cMerge))(f_Merge_coming:Mf P w K mg base 3 cMerge "coming" ["self"] (ZdG cRow cMerge))(f_l_pair_of:Df P w K mg base 1 "_law_pair_of" ["_law_thing"] ZeF):Df P w K mg base 4 "_law_alike_now" ["_law_one", "_law_other", "_law_letters", "_law_plays"] (ZlA cRow cMerge):=by
 refine T.t_l_alike_now.df ZcB (fun vs H Q E h=>?_) (fun cdv f A outer s H vs Q E hr h=>?_)
 ·obtain⟨X,Y,z,pl,rfl,_⟩:=h
  rfl
 obtain⟨X,Y,z,pl,rfl,W,z12,q⟩:=h
 refine⟨_,#[Ze,#[Zat,(@PW.pt _ _ _ (@Zii _ _ _ _ _ _ _ #[Zo,ZgT,#[Z0,f_Merge_likenings,T.cl_Merge,hr,‹0›],#[Z0,f_Merge_likenings,T.cl_Merge,hr,‹1›],(Zt _)] (@Zge _ _ _ _ #[Zo,ZgT,#[Z0,f_Merge_looks,T.cl_Merge,hr,‹1›],#[ZP,Za0,#[Z0,f_Merge_looks,T.cl_Merge,hr,‹0›],#[ZP,ZcE,#[Zw,Zaj,(by rfl),T.b.n_len,Qs,#[Za,‹2›,#[Zf]]],‹3›]],(Zt _)]))),#[Zi,#[Zs,#[Zef]]],#[ZM]],#[Ze,#[Zhh,4,5,ZcB.nd,#[Za,#[Z0,f_Merge_coming,T.cl_Merge,hr,‹0›],#[Za,#[Z0,f_Merge_coming,T.cl_Merge,hr,‹1›],#[Zf]]]],#[Ze,#[Zat,#[Zo,(@neD _ K _ hr (by rfl)),#[Zz,f_l_pair_of,hr,#[Za,‹4›,#[Zf]],(by rfl)],#[Zz,f_l_pair_of,hr,#[Za,‹5›,#[Zf]],(by rfl)],(Zt _)],#[Zi,#[Zs,#[Zef]]],#[ZM]],#[Zi,#[Zs,(@Znc _ _ _ _ _ _ _ (@Zf9 _ _ _ _ _ _ _ _ ZbK ‹4› #[Zae] (Zt _)) (@Zmm _ _ _ _ _ (@Zf9 _ _ _ _ _ _ _ _ Zcn #[ZC,(ixT K),‹5›,#[Zh]] #[ZP,Zci,‹2›,#[ZC,(ixT K),‹4›,#[Zh]]] (Zt _))))]]]]],?_⟩
 have M:=W.m1.M
 have M2:=W.m2.M
 obtain⟨dx,hm⟩:=M.ob
 obtain⟨dy,hy⟩:=M2.ob
 refine⟨_,rfl,X.m,dx,_,rfl,hm,Zaa ..,X.m,X.rd,X.sd,X.L,X.s,X.nb,X.li,X.lo,_,rfl,M,_,rfl,Y.m,dy,_,rfl,hy,Zaa ..,Y.m,Y.rd,Y.sd,Y.L,Y.s,Y.nb,Y.li,Y.lo,_,rfl,M2,rfl,_,rfl,ZeO (by rw[W.li]) ?_⟩
 refine⟨_,rfl,Y.m,dy,_,rfl,hy,Zcy ..,Y.m,Y.rd,Y.sd,Y.L,Y.s,Y.nb,Y.li,Y.lo,_,rfl,M2,_,rfl,X.m,dx,_,rfl,hm,Zcy ..,X.m,X.rd,X.sd,X.L,X.s,X.nb,X.li,X.lo,_,rfl,M,_,rfl,z,rfl,Zbk (by omega),_,rfl,_,_,rfl,rfl,.inl ⟨by omega,by omega⟩,_,_,rfl,rfl,rfl,_,rfl,ZeO (by rw[W.lo]) ?_⟩
 refine⟨_,rfl,X.m,dx,_,rfl,hm,Zbn ..,X.m,X.rd,X.sd,X.L,X.s,X.nb,X.li,X.lo,X.w,rfl,M,W.m1.W,fun x H1 hc1 s1=>?_⟩
 have M2':=M2.same s1
 obtain⟨dy1,hy1⟩:=M2'.ob
 refine⟨_,rfl,Y.m,dy1,_,rfl,hy1,Zbn ..,Y.m,Y.rd,Y.sd,Y.L,Y.s,Y.nb,Y.li,Y.lo,Y.w,rfl,M2',W.m2.W,fun y H2 hc2 s2=>?_⟩
 refine⟨_,_,rfl,?_⟩
 obtain⟨d,hd1,hd2,hend⟩:∃d,Zc8 H2 x d∧Zc8 H2 y d∧((x=.non∧y=.non)∨∃ (t t':Addr) (n g:Int) (s:Str),x=.ref t∧y=.ref t'∧H2 t=some (.tup [.int n,.int g,.str s])∧H2 t'=some (.tup [.int n,.int g,.str (z++s)])∧s.length≤1000):=by
  rcases Zls W.pu M.nd (fun e he s hs=>((M.each e he).str s hs).1) hc1 hc2 with⟨rfl,rfl⟩|⟨t,t',n,g,s,rfl,rfl,ht,ht',hs⟩
  ·exact⟨_,.inl ⟨rfl,rfl⟩,.inl ⟨rfl,rfl⟩,.inl ⟨rfl,rfl⟩⟩
  ·exact⟨_,.inr ⟨t,n,g,s,rfl,s2 _ _ ht,rfl⟩,.inr ⟨t',n,g,z++s,rfl,ht',rfl⟩,.inr ⟨t,t',n,g,s,rfl,rfl,s2 _ _ ht,ht',hs⟩⟩
 have hd2':∀ {H3:Hp},Zx H2 H3→Zc8 H3 y d:=fun {H3} s=>by
  rcases hd2 with h|⟨t,n,g,s',e,ht,e'⟩
  ·exact .inl h
  ·exact .inr ⟨t,n,g,s',e,s _ _ ht,e'⟩
 refine⟨_,rfl,x,d,rfl,hd1,fun x' H3 p3 s3=>⟨_,rfl,y,d,rfl,hd2' s3,fun y' H4 p4 s4=>⟨d,d,(p3.keep fun t xs ht=>s4 _ _ ht).dv,p4.dv,p4.sh.1,p4.sh.1,_,rfl,?_⟩⟩⟩
 rw[if_pos rfl,p4.sh.2]
 refine ZdW ?_
 have s24:=s3.trans s4
 rcases hend with⟨rfl,rfl⟩|⟨t,t',n,g,s,rfl,rfl,ht,ht',hs⟩
 ·exact⟨_,rfl,rfl,_,rfl,Zeu rfl (q _ ((s1.trans s2).trans s24))⟩
 ·refine⟨_,rfl,rfl,_,rfl,Zcs (by intro z;cases z) ?_⟩
  refine⟨_,rfl,t',_,_,_,rfl,rfl,SqT.of (s24 _ _ ht'),rfl,_,rfl,_,rfl,t,_,_,_,rfl,rfl,SqT.of (s24 _ _ ht),rfl,_,_,rfl,rfl,QC (show _≤2000 by omega) (by decide),rfl,?_⟩
  rw[decide_eq_true rfl]
  exact q _ ((s1.trans s2).trans s24)
structure TwW (cR cM:Addr) (HB:Hp) (p:Addr) (H:Hp) (X Y:MS) (z:Str) (pl:Int):Prop where
 tw:Tw cR cM H X Y z pl
 nb:X.nb=Y.nb
 lt:∀x∈Z6 X.L,x.1<X.nb
 sep:∀b,MFp X b→¬ MFp Y b
 f1:∀b,MFp X b→HB b=none
 f2:∀b,MFp Y b→HB b=none
 but:But p HB H
section
variable {cR cM:Addr} {HB:Hp} {p:Addr} {H H':Hp} {X X' Y Y':MS} {z:Str} {pl pl':Int}
theorem Tw.same(W:Tw cR cM H X Y z pl)(s:Zx H H'):Tw cR cM H' X Y z pl:=⟨W.m1.same s,W.m2.same s,W.pu,W.li,W.lo⟩
theorem TwW.same(W:TwW cR cM HB p H X Y z pl)(s:Zx H H'):TwW cR cM HB p H' X Y z pl:=⟨W.tw.same s,W.nb,W.lt,W.sep,W.f1,W.f2,W.but.trans (But.same s)⟩
theorem TwW.np(W:TwW cR cM HB p H X Y z pl)(hB:∃u,HB p=some u):¬ MFp X p∧¬ MFp Y p:=by
 obtain⟨u,hu⟩:=hB
 exact⟨fun y=>(by rw[W.f1 p y]at hu;cases hu),fun y=>(by rw[W.f2 p y]at hu;cases hu)⟩
theorem MOk.but{cR cM:Addr}{H H':Hp}{X:MS}{p:Addr}{c:Int}(h:MOk cR cM H X)(L:Zag H p c)(n:¬ MFp X p)(B:But p H H'):MOk cR cM H' X:=h.keep fun b u hb hor=>B b u hb fun e=>by
 subst e
 rcases hor with y|⟨xs,rfl⟩
 ·exact n y
 ·obtain⟨_,_,hp',_⟩:=L
  rw[hp']at hb;cases hb
theorem TwW.draw(W:TwW cR cM HB p H X Y z pl)(hB:∃u,HB p=some u){c:Int}(L:Zag H p c)(B:But p H H'):TwW cR cM HB p H' X Y z pl :=
 ⟨⟨W.tw.m1.but L (W.np hB).1 B,W.tw.m2.but L (W.np hB).2 B,W.tw.pu,W.tw.li,W.tw.lo⟩,W.nb,W.lt,W.sep,W.f1,W.f2,W.but.trans B⟩
theorem TwW.to(W:TwW cR cM HB p H X Y z pl)(hp:∃u,H p=some u)(tw:Tw cR cM H' X' Y' z pl')(nb:X'.nb=Y'.nb)(lt:∀x∈Z6 X'.L,x.1<X'.nb)(sep:∀b,MFp X' b→¬ MFp Y' b)(f1:∀b,MFp X' b→MFp X b∨H b=none)(f2:∀b,MFp Y' b→MFp Y b∨H b=none)(k:∀b u,H b=some u→¬ MFp X b→¬ MFp Y b→H' b=some u):TwW cR cM HB p H' X' Y' z pl':=by
 have old:∀b,H b=none→HB b=none:=fun b hb=>by
  cases e:HB b with
  | none=>rfl
  | some u =>
   by_cases y:b=p
   ·obtain⟨u',hu'⟩:=hp;rw[y,hu']at hb;cases hb
   ·rw[W.but b u e y]at hb;cases hb
 refine⟨tw,nb,lt,sep,fun b hb=>(f1 b hb).elim (W.f1 b) (old b),fun b hb=>(f2 b hb).elim (W.f2 b) (old b),fun b u hb n=>k b u (W.but b u hb n) (fun y=>?_) (fun y=>?_)⟩
 ·rw[W.f1 b y]at hb;cases hb
 ·rw[W.f2 b y]at hb;cases hb
theorem TwW.left(W:TwW cR cM HB p H X Y z pl)(hB:∃u,HB p=some u){c:Int}(L:Zag H p c)(k:∀b u,H b=some u→¬ MFp X b→¬ MFp Y b→H' b=some u):Zag H' p c:=by
 obtain⟨g1,g2,hp,c0⟩:=L
 exact⟨g1,g2,k _ _ hp (W.np hB).1 (W.np hB).2,c0⟩
end
theorem ZkT{c:Bool}{e:(Bool→Hp→Prop)→Prop}{T:Bool→Hp→Prop}{H:Hp}(h1:c=true→∀T':Bool→Hp→Prop,(∀b H',Zx H H'→T' b H')→e T')(q:∀b H',Zx H H'→(b=true→c=true)→T b H'):if c=true then e T else T false H:=by
 cases c with
 | true=>rw[if_pos rfl];exact h1 rfl T fun b H' s=>q b H' s fun _=>rfl
 | false=>rw[if_neg Qi];exact q false H (Zx.refl H) fun h=>h
theorem ZkW{cR cM:Addr}{H H1 H2:Hp}{X Y:MS}{z:Str}{pl:Int}(W:Tw cR cM H X Y z pl)(sep:∀b,MFp X b→¬ MFp Y b){x y:V}{L' M':List Zu}{s' r':StL}{w' v':Option Int}{k q k' q':Int}(hR:Zfy X.L X.w x L' k q H1)
  (M1:ZG cR cM H1 X.m X.rd X.sd L' s' X.nb (X.li+k) (X.lo+q) (ZbL w')) (W1:Win (hdM L') (Zr L') w') (ok1:ZN (hdM L') s' (Zr L')) (k1:∀b o,H b=some o→¬ MFp X b→H1 b=some o) {H1':Hp} (s1:Zx H1 H1')
  (hR2:Zfy Y.L Y.w y M' k' q' H2) (M2:ZG cR cM H2 Y.m Y.rd Y.sd M' r' Y.nb (Y.li+k') (Y.lo+q') (ZbL v')) (W2:Win (hdM M') (Zr M') v') (ok2:ZN (hdM M') r' (Zr M')) (k2:∀b o,H1' b=some o→¬ MFp Y b→H2 b=some o) :
  Tw cR cM H2 ⟨X.m,X.rd,X.sd,L',s',X.nb,X.li+k,X.lo+q,w'⟩ ⟨Y.m,Y.rd,Y.sd,M',r',Y.nb,Y.li+k',Y.lo+q',v'⟩ z pl∧(∃d,Zc8 H1 x d∧Zc8 H2 y d)∧(∀b,MFp ⟨X.m,X.rd,X.sd,L',s',X.nb,X.li+k,X.lo+q,w'⟩ b↔MFp X b)∧(∀b,MFp ⟨Y.m,Y.rd,Y.sd,M',r',Y.nb,Y.li+k',Y.lo+q',v'⟩ b↔MFp Y b)∧(∀x∈Z6 L',∃y∈Z6 X.L,x.1=y.1):=by
 have f1:∀b,MFp ⟨X.m,X.rd,X.sd,L',s',X.nb,X.li+k,X.lo+q,w'⟩ b↔MFp X b:=fun b=>hR.fp
 have f2:∀b,MFp ⟨Y.m,Y.rd,Y.sd,M',r',Y.nb,Y.li+k',Y.lo+q',v'⟩ b↔MFp Y b:=fun b=>hR2.fp
 have nd:=Zif W.m1
 have ndY:=Zif W.m2
 have kt:∀t xs,H1' t=some (.tup xs)→H2 t=some (.tup xs):=fun t xs ht=>k2 t _ ht fun y=>by
  obtain⟨u,hu,hn⟩:=W.m2.M.fp_live y
  have:=s1 _ _ (k1 _ _ hu fun x=>sep _ x y)
  rw[ht]at this;cases this;exact hn xs rfl
 have mk:Z6 M'=ZbB z (Z6 L')→k=k'→q=q'→Tw cR cM H2 ⟨X.m,X.rd,X.sd,L',s',X.nb,X.li+k,X.lo+q,w'⟩ ⟨Y.m,Y.rd,Y.sd,M',r',Y.nb,Y.li+k',Y.lo+q',v'⟩ z pl:=fun pu ek eq=>by
  subst ek
  subst eq
  refine⟨⟨(M1.same s1).keep fun b o hb hor=>?_,W1,ok1⟩,⟨M2,W2,ok2⟩,pu,?_,?_⟩
  ·rcases hor with hf|⟨xs,rfl⟩
   ·exact k2 b o hb (sep b ((f1 b).mp hf))
   ·exact kt b xs hb
  ·show Y.li+k=X.li+k;rw[W.li]
  ·show Y.lo+q=X.lo+q+_;rw[W.lo];omega
 have t1:=ZdS W.m1.W hR
 have t2:=ZdS W.m2.W hR2
 rcases t1 with⟨w0,rfl,rfl,rfl,rfl⟩|⟨u,s,t,st,eL,rfl,ht⟩
 ·rcases t2 with⟨w0',rfl,rfl,rfl,rfl⟩|⟨u',s2,t',st',eL',rfl,ht'⟩
  ·exact⟨mk W.pu rfl rfl,⟨_,.inl ⟨rfl,rfl⟩,.inl ⟨rfl,rfl⟩⟩,f1,f2,fun x hx=>⟨x,hx,rfl⟩⟩
  ·have h:=st'.2.2.1
   rw[W.pu,Zce,Za2]at h
   exact nomatch (Zav (cds z) w0).one h
 ·rcases t2 with⟨w0',rfl,rfl,rfl,rfl⟩|⟨u',s2,t',st',eL',rfl,ht'⟩
  ·have h:=Zav (cds z) st.2.2.1
   rw[W.pu,Zce,Za2]at w0'
   exact nomatch w0'.one h
  ·have sp:=ZgO z st
   rw[← W.pu]at sp
   obtain⟨e1,e2,e3,e4⟩:=sp.one ndY st'
   refine⟨mk ?_ e3 e4,⟨.tuple [.int u.1,.int (u.2.2:Int)],.inr ⟨t,u.1,_,s,rfl,ht,rfl⟩,.inr ⟨t',u.1,_,s2,rfl,?_,rfl⟩⟩,f1,f2,fun x hx=>?_⟩
   ·rw[eL',W.pu,← e1];show Zbc (ZbB z (Z6 X.L)) u.1=_
    rw[ZeG,eL]
   ·rw[ht',← e1];rfl
   ·rw[eL]at hx
    obtain⟨y,hy,rfl⟩:=Qu.mp hx
    refine⟨y,hy,?_⟩
    unfold ZdB
    split<;>rfl
theorem ZmI{cR cM:Addr}{H6:Hp}{X Y:MS}{z:Str}{pl:Int}{ts:List Str}{e1 e2:Zu}{sd1 sd2:Addr}{s1 s2:StL}{w1 w2:Option Int}{k1 q1 k2 q2:Int}(pu:Z6 Y.L=ZbB z (Z6 X.L))(li:Y.li=X.li)(lo:Y.lo=X.lo+(z.length:Int)*pl)(nb:X.nb=Y.nb)
  (n1:e1.n=X.nb) (ss1:e1.ss=ts) (g1:e1.g=0) (n2:e2.n=Y.nb) (ss2:e2.ss=ts.map (z++·)) (g2:e2.g=0)
  (M1:ZG cR cM H6 X.m X.rd sd1 (X.L++[e1]) s1 (X.nb+1) (X.li+k1) (X.lo+q1) (ZbL w1)) (W1:Win (hdM (X.L++[e1])) (Zr (X.L++[e1])) w1) (S1:ZcS (hdM (X.L++[e1])) s1 8 (Zr (X.L++[e1]))) (P1:ZaX (hdM (X.L++[e1])) 8 (Zr (X.L++[e1])) k1 q1)
  (M2:ZG cR cM H6 Y.m Y.rd sd2 (Y.L++[e2]) s2 (Y.nb+1) (Y.li+k2) (Y.lo+q2) (ZbL w2)) (W2:Win (hdM (Y.L++[e2])) (Zr (Y.L++[e2])) w2) (S2:ZcS (hdM (Y.L++[e2])) s2 8 (Zr (Y.L++[e2]))) (P2:ZaX (hdM (Y.L++[e2])) 8 (Zr (Y.L++[e2])) k2 q2) :
  Tw cR cM H6 ⟨X.m,X.rd,sd1,X.L++[e1],s1,X.nb+1,X.li+k1,X.lo+q1,w1⟩ ⟨Y.m,Y.rd,sd2,Y.L++[e2],s2,Y.nb+1,Y.li+k2,Y.lo+q2,w2⟩ z (pl+k1):=by
 have pu':Z6 (Y.L++[e2])=ZbB z (Z6 (X.L++[e1])):=by
  have h0:∀L e,Z6 (L++[e])=Z6 L++[(e.n,(e.ss,e.g))]:=fun L e=>by unfold Z6;rw[Qf];rfl
  rw[h0,h0,pu]
  show _=(Z6 X.L++_).map (Zhz z)
  rw[Qf,n1,ss1,g1,n2,ss2,g2,nb]
  rfl
 have pp:=Zbu (cds z) P1
 rw[ZaZ,ZZ]at P2
 rw[pu',Zce,Za2]at P2
 rw[ZaZ,ZZ]at pp
 obtain⟨ek,eq⟩:=pp.one P2
 rw[Zf4]at eq
 have nodes:∀ {L:List Zu} {s:StL} {m rd sd:Addr} {nb li lo:Int} {b:V},ZG cR cM H6 m rd sd L s nb li lo b→ZcS (hdM L) s 8 (Zr L)→ZN (hdM L) s (Zr L):=fun {L s m rd sd nb li lo b} M S=>ZbX 8 (hdM L) s (Zr L) M.up (QC (show (Zr L).length≤60 by unfold Zr;rw[Qa];exact M.few) (by decide)) (by decide) S
 refine⟨⟨M1,W1,nodes M1 S1⟩,⟨M2,W2,nodes M2 S2⟩,pu',?_,?_⟩
 ·show Y.li+k2=X.li+k1;rw[li,ek]
 ·show Y.lo+q2=X.lo+q1+_
  rw[lo,← eq,Int.mul_add];omega
theorem Zlj{c:Bool}{P:Prop}{e:(Bool→Hp→Prop)→Prop}{T:Bool→Hp→Prop}{H:Hp}(h1:c=true→∀T':Bool→Hp→Prop,(∀b H',Zx H H'→(b=true→P)→T' b H')→e T')(q:∀b H',Zx H H'→(b=true→P)→T b H'):if c=true then e T else T false H:=by
 cases c with
 | true=>rw[if_pos rfl];exact h1 rfl T q
 | false=>rw[if_neg Qi];exact q false H (Zx.refl H) fun h=>by cases h
def Zkd:Sp:=fun vs H Q _=>∃ (p r:Addr) (c:Int) (z:Str) (rs:List (Addr×List Str)),vs=[.ref p,.ref r,.str z]∧Zag H p c∧c<2 ^ 25∧Zbi H r rs∧r≠p∧(∀x∈rs,x.1≠p∧sortedS x.2=true∧∀s∈x.2,s.length≤28)∧rs.length≤12∧z.length≤12∧AZ z ∧
 ∀ (c':Int) (H':Hp),Zag H' p c'→c'≤c+300000→But p H H'→Q (.bl true) H'
theorem ZiD(T:Zak K mg cRow cMerge)(f_l_pick:Df P w K mg base 2 "_law_pick" ["_law_left_here", "_law_many_here"] ZcT)(f_l_stems:Df P w K mg base 3 "_law_stems" ["_law_left_here"] Zeh)(f_l_row:Df P w K mg base 5 "_law_row" ["_law_left_here", "_law_stems_here", "_law_most"] ZfW)(f_Merge_init:Cf P w K mg base 14 cMerge "Merge" ["self", "rows"] (ZcO cRow cMerge))(f_l_ahead:Df P w K mg base 1 "_law_ahead" ["_law_rows_here", "_law_letters"] Zh4)(f_Merge_likenings:Mf P w K mg base 1 cMerge "likenings" ["self"] (Zh5 cRow cMerge))(f_Merge_coming:Mf P w K mg base 3 cMerge "coming" ["self"] (ZdG cRow cMerge))(f_Merge_heads:Mf P w K mg base 3 cMerge "heads" ["self"] (Zgu cRow cMerge))(f_Merge_add_row:Mf P w K mg base 14 cMerge "add_row" ["self", "row"] (ZgU K cRow cMerge))(f_Merge_take:Mf P w K mg base 6 cMerge "take" ["self"] (ZhG cRow cMerge))(f_l_pair_of:Df P w K mg base 1 "_law_pair_of" ["_law_thing"] ZeF)(f_l_alike_now:Df P w K mg base 4 "_law_alike_now" ["_law_one", "_law_other", "_law_letters", "_law_plays"] (ZlA cRow cMerge)):Df P w K mg base 17 "_law_walked" ["_law_left_here", "_law_rows_here", "_law_letters"] Zkd:=by
 refine T.t_l_walked.df Zam (fun vs H Q E h=>?_) (fun cdv f A outer s H vs Q E hr h=>?_)
 ·obtain⟨p,r,c,z,rs,rfl,_⟩:=h
  rfl
 obtain⟨p,r,c,z,rs,rfl,hL,c1,hrs,nrp,hxs,h12,z12,zaz,q⟩:=h
 refine⟨_,(@Zei _ _ _ _ _ #[Zhh,3,4,Zam.nd,#[Za,#[Zfm,f_Merge_init,hr,#[Za,‹1›,#[Zf]]],#[Za,#[Zfm,f_Merge_init,hr,#[Za,#[Zz,f_l_ahead,hr,#[Za,‹1›,#[Za,#[pv,2,(Or.inr (Or.inl rfl))],#[Zf]]],(by rfl)],#[Zf]]],#[Zf]]]] #[Ze,#[Zv,5,Zam.nd,(Or.inl rfl),#[Z0,f_Merge_likenings,T.cl_Merge,hr,‹3›]],#[Ze,#[Zv,6,Zam.nd,(Or.inl rfl),#[Zz,f_l_pick,hr,#[Za,‹0›,#[Za,#[Zh],#[Zf]]],(by rfl)]],(@Zei _ _ _ _ _ #[Zv,7,Zam.nd,(Or.inl rfl),#[Zh]] (@Zei _ _ _ _ _ (@Zdv _ _ _ _ _ _ PassesOwn.never (@PW.pt _ _ _ #[ZcM,#[Zo,Zdy,‹7›,#[Zh],(Zt _)],(@Zcc _ _ _ _ (@PW.pt _ _ _ (@Zii _ _ _ _ _ _ _ #[Zo,Zel,#[Z0,f_Merge_coming,T.cl_Merge,hr,‹3›],#[Zae],(Zt _)] (@Zge _ _ _ _ #[Zo,ZnN,‹7›,‹6›,(Zt _)]))))]) #[Ze,#[Zat,(@Zjj _ _ _ _ (@Zj9 _ _ _ #[Zz,f_l_alike_now,hr,#[Za,‹3›,#[Za,‹4›,#[Za,#[pv,2,(Or.inr (Or.inl rfl))],#[Za,‹5›,#[Zf]]]]],(by rfl)] (by intro _;rfl))),#[Zi,#[Zs,#[Zef]]],#[ZM]],(@Zei _ _ _ _ _ #[Zat,(@PW.pt _ _ _ #[ZcM,#[Zo,Zcn,‹7›,‹6›,(Zt _)],(@Zcc _ _ _ _ #[Zo,Zdy,#[Zw,(ZdP K),(by rfl),T.b.n_len,Qs,#[Za,#[Z0,f_Merge_heads,T.cl_Merge,hr,‹3›],#[Zf]]],#[Zh],(Zt _)])]),#[Ze,#[Zv,8,Zam.nd,(Or.inl rfl),#[Zz,f_l_row,hr,#[Za,‹0›,#[Za,#[Zz,f_l_stems,hr,#[Za,‹0›,#[Zf]],(by rfl)],#[Za,#[Zh],#[Zf]]]],(by rfl)]],#[Ze,#[Zv,9,Zam.nd,(Or.inl rfl),#[Z0,f_Merge_likenings,T.cl_Merge,hr,‹3›]],#[Ze,#[Zat,#[Zo,ZgT,#[Zda,f_Merge_add_row,T.cl_Merge,hr,‹3›,#[Za,‹8›,#[Zf]]],#[Zda,f_Merge_add_row,T.cl_Merge,hr,‹4›,#[Za,#[ZbD,Zld,#[iL,K,‹8›],(fun _ _ _ _=>#[cg,10,Zld]),(fun _ _ _ _=>(@ZbG _)),(fun _ _ _ _=>#[ZP,Zci,#[cv,2,Zld],#[cw,10,Zld]])],#[Zf]]],(Zt _)],#[Zi,#[Zs,#[Zef]]],#[ZM]],#[Zi,#[Zv,5,Zam.nd,(Or.inl rfl),#[ZP,ZeV,#[ZP,Za0,‹5›,#[Z0,f_Merge_likenings,T.cl_Merge,hr,‹3›]],‹9›]]]]]],#[Zi,#[Zat,#[Zo,(@neD _ K _ hr (by rfl)),#[Zz,f_l_pair_of,hr,#[Za,#[Z0,f_Merge_take,T.cl_Merge,hr,‹3›],#[Zf]],(by rfl)],#[Zz,f_l_pair_of,hr,#[Za,#[Z0,f_Merge_take,T.cl_Merge,hr,‹4›],#[Zf]],(by rfl)],(Zt _)],#[Zi,#[Zs,#[Zef]]],#[ZM]]]] #[Zi,#[Zv,7,Zam.nd,(Or.inl rfl),#[ZP,Za0,‹7›,#[Zh]]]])]) #[Zi,#[Zs,#[Zz,f_l_alike_now,hr,#[Za,‹3›,#[Za,‹4›,#[Za,#[pv,2,(Or.inr (Or.inl rfl))],#[Za,‹5›,#[Zf]]]]],(by rfl)]]]))]]),?_⟩
 have c0:=hL.ge
 have hpB:=hL.here
 have hsrt:∀x∈rs,sortedS x.2=true:=fun x hx=>(hxs x hx).2.1
 refine⟨fun σ H5=>∃X Y:MS,σ=[some (.ref p),some (.ref r),some (.str z),some (.ref X.m),some (.ref Y.m),none,none,none,none,none]∧TwW cRow cMerge H p H5 X Y z X.li∧Zag H5 p c,?_,?_⟩
 ·refine⟨_,rfl,fun m dx hm hdx nmd=>?_⟩
  have s7:Zx H (upd (upd H dx (.own m)) m (.ins cMerge dx [])):=fun b o hb=>by rw[Zc (Zb hb hm),Zc (Zb hb hdx)];exact hb
  have hm7:(upd (upd H dx (.own m)) m (.ins cMerge dx [])) m=some (.ins cMerge dx []):=Zg
  generalize upd (upd H dx (.own m)) m (.ins cMerge dx [])=H7 at s7 hm7 ⊢
  refine⟨m,dx,r,rs,rfl,hm7,hrs.same s7,hsrt,fun rd sd L st w0 k2 q2 H8 M8 hnewM W8 S8 P8 fp8 k8=>⟨rfl,?_⟩⟩
  have s08:Zx H H8:=fun b o hb=>k8 b o (s7 b o hb) (Zb hb hm)
  refine⟨_,rfl,_,rfl,r,z,rs,rfl,hrs.same s08,fun x hx=>(hxs x hx).2.2,z12,zaz,fun r' rs' H9 hr' hrs' he s9=>?_⟩
  refine fun m2 dy hm2 hdy nmd2=>?_
  have s10:Zx H9 (upd (upd H9 dy (.own m2)) m2 (.ins cMerge dy [])):=fun b o hb=>by rw[Zc (Zb hb hm2),Zc (Zb hb hdy)];exact hb
  have hm10:(upd (upd H9 dy (.own m2)) m2 (.ins cMerge dy [])) m2=some (.ins cMerge dy []):=Zg
  generalize upd (upd H9 dy (.own m2)) m2 (.ins cMerge dy [])=H10 at s10 hm10 ⊢
  have hsrt':∀x∈rs',sortedS x.2=true:=fun x hx=>by
   have:x.2∈rs.map fun x=>x.2.map (z++·):=by rw[← he];exact Qc (f:=fun x:Addr×List Str=>x.2) hx
   obtain⟨y,hy,e⟩:=Qu.mp this
   rw[← e];exact Zgd z (hsrt y hy)
  refine⟨m2,dy,r',rs',rfl,hm10,hrs'.same s10,hsrt',fun rd2 sd2 L2' st2 w2 k3 q3 H11 M11 hnewM2 W11 S11 P11 fp11 k11=>⟨rfl,_,_,rfl,?_⟩⟩
  have s89:Zx H8 H11:=fun b o hb=>k11 b o (s10 b o (s9 b o hb)) (Zb (s9 b o hb) hm2)
  have eP:=ZdA hnewM
  have eP2:=ZdA hnewM2
  have pu:Z6 L2'=ZbB z (Z6 L):=by rw[eP,eP2,ZhZ z he]
  have hl:rs'.length=rs.length:=by have:=congrArg List.length he;rw[Qa,Qa]at this;exact this
  have pp:=Zbu (cds z) P8
  rw[ZaZ,ZZ]at P11
  rw[pu,Zce,Za2]at P11
  rw[ZaZ,ZZ]at pp
  obtain⟨ek,eq⟩:=pp.one P11
  rw[Zf4]at eq
  have ok8:=ZbX 8 (hdM L) st (Zr L) M8.up (QC (show (Zr L).length≤60 by unfold Zr;rw[Qa];exact M8.few) (by decide)) (by decide) S8
  have ok11:=ZbX 8 (hdM L2') st2 (Zr L2') M11.up (QC (show (Zr L2').length≤60 by unfold Zr;rw[Qa];exact M11.few) (by decide)) (by decide) S11
  refine⟨⟨m,rd,sd,L,st,(rs.length:Int),k2,q2,w0⟩,⟨m2,rd2,sd2,L2',st2,(rs'.length:Int),k3,q3,w2⟩,rfl,⟨⟨⟨M8.same s89,W8,ok8⟩,⟨M11,W11,ok11⟩,pu,ek.symm,?_⟩,by show (rs.length:Int)=rs'.length;rw[hl],fun x hx=>?_,fun b hb hb2=>?_,fun b hb=>?_,fun b hb=>?_,But.same (s08.trans s89)⟩,hL.same (s08.trans s89)⟩
  ·show q3=q2+(z.length:Int)*k2
   rw[← eq]
  ·obtain⟨e,he',rfl⟩:=Qu.mp hx
   have h1':e.n∈Zde 0 rs.length:=by rw[← hnewM.1];exact Qc (f:=fun e:Zu=>e.n) he'
   unfold Zde at h1'
   obtain⟨j,hj,ej⟩:=Qu.mp h1'
   have:=List.mem_range.mp hj
   show e.n<(rs.length:Int)
   omega
  ·obtain⟨u,hu,_⟩:=M8.fp_live hb
   rcases fp11 b hb2 with y|y
   ·rw[y]at hu;rw[s9 _ _ hu]at hm2;cases hm2
   ·rw[s10 _ _ (s9 _ _ hu)]at y;cases y
  ·rcases fp8 b hb with y|y
   ·rw[y];exact hm
   ·exact s7.free y
  ·rcases fp11 b hb with y|y
   ·rw[y];exact(s08.trans s9).free hm2
   ·exact(s08.trans s9).free (s10.free y)
 rintro σ H5 ⟨X0,Y0,rfl,W0,L0⟩
 obtain⟨dx,hm⟩:=W0.tw.m1.M.ob
 refine⟨_,rfl,X0.m,dx,_,rfl,hm,Zaa ..,X0.m,X0.rd,X0.sd,X0.L,X0.s,X0.nb,X0.li,X0.lo,_,rfl,W0.tw.m1.M,?_⟩
 refine⟨_,rfl,p,c,_,rfl,L0,by omega,by decide,by decide,fun lt H6 lt0 lt10 L6 B6=>?_⟩
 have W6:=W0.draw hpB L0 B6
 refine⟨fun σ H5=>∃ (X Y:MS) (pl:Int) (tn:Nat) (v8 v9:Option V),tn=0∧σ=[some (.ref p),some (.ref r),some (.str z),some (.ref X.m),some (.ref Y.m),some (.int pl),some (.int lt),some (.int (tn:Int)),v8,v9]∧TwW cRow cMerge H p H5 X Y z pl∧Zag H5 p (c+1),⟨X0,Y0,_,0,_,_,rfl,rfl,W6,L6⟩,?_⟩
 rintro σ H7 ⟨X0,Y0,pl0,tn0,v8,v9,rfl,rfl,W7,L7⟩
 refine⟨fun σ H5=>∃ (X Y:MS) (pl:Int) (tn:Nat) (c':Int) (v8 v9:Option V),σ=[some (.ref p),some (.ref r),some (.str z),some (.ref X.m),some (.ref Y.m),some (.int pl),some (.int lt),some (.int (tn:Int)),v8,v9]∧TwW cRow cMerge H p H5 X Y z pl∧Zag H5 p c'∧c'≤c+300000,?_,?_⟩
 rotate_left
 ·rintro σ H8 ⟨X,Y,pl,tn,c',v8,v9,rfl,W8,L8,hc'⟩
  exact⟨_,rfl,_,rfl,_,rfl,_,rfl,X,Y,z,pl,rfl,W8.tw,z12,fun H9 s9=>q c' H9 (L8.same s9) hc' (W8.but.trans (But.same s9))⟩
 refine⟨fun m σ H5=>∃ (X Y:MS) (pl:Int) (tn:Nat) (c':Int) (v8 v9:Option V),m=400-tn∧tn≤400∧σ=[some (.ref p),some (.ref r),some (.str z),some (.ref X.m),some (.ref Y.m),some (.int pl),some (.int lt),some (.int (tn:Int)),v8,v9]∧TwW cRow cMerge H p H5 X Y z pl∧Zag H5 p c'∧c'≤c+1+700*(tn:Int),⟨_,X0,Y0,pl0,0,c+1,_,_,rfl,by omega,rfl,W7,L7,by omega⟩,?_⟩
 rintro m σ H8 ⟨X,Y,pl,tn,c',v8,v9,rfl,htn,rfl,W8,L8,hc'⟩
 have c'0:=L8.ge
 refine⟨_,rfl,_,_,rfl,rfl,_,rfl,?_⟩
 refine ZkT (fun _ T' hT'=>?_) (fun b H9 s9 hb=>Zbd (fun eb=>?_) (fun eb=>?_))
 ·obtain⟨dx,hm⟩:=W8.tw.m1.M.ob
  refine⟨_,rfl,X.m,dx,_,rfl,hm,Zbn ..,X.m,X.rd,X.sd,X.L,X.s,X.nb,X.li,X.lo,X.w,rfl,W8.tw.m1.M,W8.tw.m1.W,fun x H1 hc1 s1=>⟨rfl,_,rfl,Zbd (fun _=>hT' _ _ s1) (fun _=>⟨_,rfl,_,rfl,_,_,rfl,rfl,_,rfl,hT' _ _ s1⟩)⟩⟩
 ·have htn4:tn<400:=by
   have:((tn:Int))<400:=of_decide_eq_true (hb eb)
   omega
  have W9:=W8.same s9
  have L9:=L8.same s9
  refine⟨fun σ H5=>∃ (X Y:MS) (pl:Int) (c':Int) (v8 v9:Option V),σ=[some (.ref p),some (.ref r),some (.str z),some (.ref X.m),some (.ref Y.m),some (.int pl),some (.int lt),some (.int ((tn:Int)+1)),v8,v9]∧TwW cRow cMerge H p H5 X Y z pl∧Zag H5 p c'∧c'≤c+1+700*((tn:Int)+1),?_,?_⟩
  ·rintro σ' H' ⟨X',Y',pl',c2,v8',v9',rfl,W',L',hc2⟩
   exact⟨400-(tn+1),by omega,X',Y',pl',tn+1,c2,v8',v9',rfl,by omega,rfl,W',L',by omega⟩
  refine⟨_,rfl,_,rfl,_,rfl,_,rfl,X,Y,z,pl,rfl,W9.tw,z12,fun H10 s10=>⟨_,rfl,ZdW ?_⟩⟩
  have W10:=W9.same s10
  have L10:=L9.same s10
  refine⟨fun σ H5=>∃ (X Y:MS) (pl:Int) (c2:Int) (v8 v9:Option V),σ=[some (.ref p),some (.ref r),some (.str z),some (.ref X.m),some (.ref Y.m),some (.int pl),some (.int lt),some (.int (tn:Int)),v8,v9]∧TwW cRow cMerge H p H5 X Y z pl∧Zag H5 p c2∧c2≤c+1+700*((tn:Int)+1),?_,?_⟩
  rotate_left
  ·rintro σ' H' ⟨X',Y',pl',c2,v8',v9',rfl,W',L',hc2⟩
   exact⟨_,rfl,_,_,rfl,rfl,X',Y',pl',c2,v8',v9',rfl,W',L',hc2⟩
  refine⟨_,rfl,_,rfl,rfl,_,rfl,?_⟩
  refine Zlj (P:=X.L.length<16) (fun hc1 T' hT'=>?_) (fun b H11 s11 hb2=>Zbd (fun eb2=>?_) (fun eb2=>?_))
  ·obtain⟨dx,hm⟩:=W10.tw.m1.M.ob
   refine⟨_,rfl,X.m,dx,_,rfl,hm,Zg3 ..,X.m,X.rd,X.sd,X.L,X.s,X.nb,X.li,X.lo,_,rfl,W10.tw.m1.M,fun l H1 hl hh s1=>?_⟩
   obtain⟨us,hus,hul,_⟩:=hh
   have hlen:us.length=X.L.length:=by have:=congrArg List.length hus;unfold ZjQ at this;rw[Qa,Qa,Qa]at this;exact this
   refine⟨l,_,rfl,.inl (SqL.of hul),_,_,rfl,rfl,_,rfl,hT' _ _ s1 fun h=>?_⟩
   have:(((us.map fun t=>V.ref t.1).length:Nat):Int)<16:=of_decide_eq_true h
   rw[Qa,hlen]at this
   omega
  ·have h16:X.L.length<16:=hb2 eb2
   have W11:=W10.same s11
   have L11:=L10.same s11
   refine⟨_,rfl,_,rfl,p,c',rfl,L11,by omega,fun l ss c5 H12 hl0 hl h1 h4 hss L12 b1 b2 B12=>?_⟩
   have W12:=W11.draw hpB L11 B12
   refine⟨p,l,c5,4,ss,rfl,L12,by omega,by decide,by decide,hl,h1,h4,hss,fun rh ts c6 H13 hrh0 hrh hts hsr hts2 L13 d1 d2 B13=>?_⟩
   have W13:=W12.draw hpB L12 B13
   obtain⟨dx13,hm13⟩:=W13.tw.m1.M.ob
   refine⟨_,rfl,X.m,dx13,_,rfl,hm13,Zaa ..,X.m,X.rd,X.sd,X.L,X.s,X.nb,X.li,X.lo,_,rfl,W13.tw.m1.M,?_⟩
   have ltL:∀e∈X.L,e.n<X.nb:=fun e he=>W13.lt _ (Qc (f:=fun e:Zu=>(e.n,(e.ss,e.g))) he)
   have M13:=W13.tw.m1.M
   refine⟨_,rfl,X.m,dx13,_,rfl,hm13,ZfD ..,_,rfl,X.m,X.rd,X.sd,X.L,X.s,X.nb,X.li,X.lo,_,rh,ts,rfl,M13,ltL,h16,hrh,by omega,fun x hx=>⟨by have:=(hts2 x hx).1;omega,(hts2 x hx).2⟩,hsr,fun e1 sd1 s1' w1 k1 q1 H14 en1 es1 eg1 hp1 hk1 hf1 hsd1 W14 S14 P14 M14 k14=>?_⟩
   have nX:∀b u,H13 b=some u→MFp Y b∨(∃xs,u=.tup xs)→b≠X.m∧b≠X.rd:=fun b u hb hor=>by
    refine⟨fun y=>?_,fun y=>?_⟩
    ·rcases hor with h|⟨xs,rfl⟩
     ·exact W13.sep b (.inl y) h
     ·rw[y,hm13]at hb;cases hb
    ·rcases hor with h|⟨xs,rfl⟩
     ·exact W13.sep b (.inr (.inl y)) h
     ·rw[y,M13.rows]at hb;cases hb
   have m14:MOk cRow cMerge H14 Y:=W13.tw.m2.keep fun b u hb hor=>k14 b u hb (nX b u hb hor).1 (nX b u hb hor).2
   have nrhX:rh≠X.m∧rh≠X.rd:=by
    obtain⟨dx12,hm12⟩:=W12.tw.m1.M.ob
    exact⟨(Zb hm12 hrh0).symm,(Zb W12.tw.m1.M.rows hrh0).symm⟩
   have hrh14:=k14 _ _ hrh nrhX.1 nrhX.2
   obtain⟨dy14,hy14⟩:=m14.M.ob
   refine⟨_,rfl,Y.m,dy14,_,rfl,hy14,ZfD ..,_,rfl,rh,rfl,⟨_,SqL.of hrh14⟩,fun D hD=>?_⟩
   refine ZgC (K:=K) (a:=rh) (ss:=ts) (fun _=>true) (fun x=>z++x) (fun σ=>∃v:Option V,σ=[some (.ref p),some (.ref r),some (.str z),some (.ref X.m),some (.ref Y.m),some (.int pl),some (.int lt),some (.int (tn:Int)),some (.ref rh),some (.int X.li),v]) hD (SqL.of hrh14) (by omega) ⟨_,rfl⟩ ?_ ?_
   ·rintro x hx σ Hx N M ⟨v,rfl⟩ hN hM
    have:=(hts2 x hx).1
    exact⟨_,rfl,_,rfl,_,_,rfl,rfl,Zbk (by omega),hN _ ⟨_,rfl⟩ rfl⟩
   rintro σ5 ⟨v5,rfl⟩
   rw[show ts.filter (fun _=>true)=ts from List.filter_eq_self.mpr fun _ _=>rfl]
   have sD:=Zl hD (.lst ((ts.map fun x=>z++x).map V.str))
   have hD15:(upd H14 D (.lst ((ts.map fun x=>z++x).map V.str))) D=some (.lst ((ts.map fun x=>z++x).map V.str)):=Zg
   generalize upd H14 D (.lst ((ts.map fun x=>z++x).map V.str))=H15 at sD hD15 ⊢
   have m15:=m14.same sD
   have eLY:Zr Y.L=Zr X.L:=by rw[ZZ,ZZ,W13.tw.pu,Za2]
   have ltY:∀e∈Y.L,e.n<Y.nb:=fun e he=>by
    have:e.n∈Zr X.L:=by rw[← eLY];exact Qc (f:=fun e:Zu=>e.n) he
    obtain⟨e',he',y⟩:=Qu.mp this
    rw[← y,← W13.nb];exact ltL e' he'
   have h16Y:Y.L.length<16:=by have:=congrArg List.length eLY;unfold Zr at this;rw[Qa,Qa]at this;omega
   refine⟨Y.m,Y.rd,Y.sd,Y.L,Y.s,Y.nb,Y.li,Y.lo,_,D,ts.map fun x=>z++x,rfl,m15.M,ltY,h16Y,hD15,(by rw[Qa];omega),fun x hx=>?_,Zgd z hsr,fun e2 sd2 s2' w2 k2 q2 H16 en2 es2 eg2 hp2 hk2 hf2 hsd2 W16 S16 P16 M16 k16=>?_⟩
   ·obtain⟨y,hy,rfl⟩:=Qu.mp hx
    have:=hts2 y hy
    rw[Qac]
    exact⟨by omega,zaz.app this.2⟩
   refine⟨rfl,_,rfl,ZeO (by rw[W13.nb]) ?_⟩
   have lv14:∀b u,H13 b=some u→∃u',H14 b=some u':=fun b u hb=>by
    by_cases y:b=X.m
    ·obtain⟨dx',hm'⟩:=M14.ob;exact⟨_,by rw[y];exact hm'⟩
    ·by_cases y':b=X.rd
     ·exact⟨_,by rw[y'];exact M14.rows⟩
     ·exact⟨_,k14 b u hb y y'⟩
   have old:∀b,H15 b=none→H13 b=none:=fun b hb=>by
    cases e:H13 b with
    | none=>rfl
    | some u=>obtain⟨u',hu'⟩:=lv14 b u e;rw[sD _ _ hu']at hb;cases hb
   have f1:∀b,Fp X.m X.rd sd1 (X.L++[e1]) b→MFp X b∨H13 b=none:=fun b hb=>by
    rcases hb with y|y|y|⟨e,he,y⟩
    ·exact .inl (.inl y)
    ·exact .inl (.inr (.inl y))
    ·exact .inr (by rw[y];exact hsd1)
    ·rcases Qk.mp he with he|he
     ·exact .inl (.inr (.inr (.inr ⟨e,he,y⟩)))
     ·rw[Ql.mp he]at y
      rcases y with y|y|y
      ·exact .inr (by rw[y];exact hp1)
      ·exact .inr (by rw[y];exact hk1)
      ·exact .inr (by rw[y];exact hf1)
   have f2:∀b,Fp Y.m Y.rd sd2 (Y.L++[e2]) b→MFp Y b∨H15 b=none:=fun b hb=>by
    rcases hb with y|y|y|⟨e,he,y⟩
    ·exact .inl (.inl y)
    ·exact .inl (.inr (.inl y))
    ·exact .inr (by rw[y];exact hsd2)
    ·rcases Qk.mp he with he|he
     ·exact .inl (.inr (.inr (.inr ⟨e,he,y⟩)))
     ·rw[Ql.mp he]at y
      rcases y with y|y|y
      ·exact .inr (by rw[y];exact hp2)
      ·exact .inr (by rw[y];exact hk2)
      ·exact .inr (by rw[y];exact hf2)
   have M15:=M14.same sD
   have sep0:∀b,Fp X.m X.rd sd1 (X.L++[e1]) b→¬ MFp Y b:=fun b hb hy=>by
    rcases f1 b hb with y|y
    ·exact W13.sep b y hy
    ·obtain⟨u,hu,_⟩:=W13.tw.m2.M.fp_live hy;rw[y]at hu;cases hu
   have M1':ZG cRow cMerge H16 X.m X.rd sd1 (X.L++[e1]) s1' (X.nb+1) (X.li+k1) (X.lo+q1) (ZbL w1):=M15.keep fun b u hb hor=>by
    obtain⟨dy15,hy15⟩:=m15.M.ob
    refine k16 b u hb (fun y=>?_) (fun y=>?_)
    ·rcases hor with h|⟨xs,rfl⟩
     ·exact sep0 b h (.inl y)
     ·rw[y,hy15]at hb;cases hb
    ·rcases hor with h|⟨xs,rfl⟩
     ·exact sep0 b h (.inr (.inl y))
     ·rw[y,m15.M.rows]at hb;cases hb
   have tw:=ZmI W13.tw.pu W13.tw.li W13.tw.lo W13.nb en1 es1 eg1 en2 es2 eg2 M1' W14 S14 P14 M16 W16 S16 P16
   have kk:∀b u,H13 b=some u→¬ MFp X b→¬ MFp Y b→H16 b=some u:=fun b u hb n n'=>k16 b u (sD _ _ (k14 b u hb (fun y=>n (.inl y)) (fun y=>n (.inr (.inl y))))) (fun y=>n' (.inl y)) (fun y=>n' (.inr (.inl y)))
   have WW:=W13.to L13.here tw (by show X.nb+1=Y.nb+1;rw[W13.nb]) (fun x hx=>by
    have hx':x∈Z6 X.L++[(e1.n,(e1.ss,e1.g))]:=by unfold Z6 at hx ⊢;rw[Qf]at hx;exact hx
    show x.1<X.nb+1
    rcases Qk.mp hx' with h|h
    ·have:=W13.lt x h;omega
    ·rw[Ql.mp h];show e1.n<_;rw[en1];omega) (fun b hb hb2=>by
    rcases f2 b hb2 with y|y
    ·exact sep0 b hb y
    ·obtain⟨u,hu,_⟩:=M15.fp_live hb;rw[y]at hu;cases hu) f1 (fun b hb=>(f2 b hb).imp id (old b)) kk
   have L16:=W13.left hpB L13 kk
   obtain⟨dx16,hm16⟩:=M1'.ob
   refine⟨_,rfl,_,rfl,X.m,dx16,_,rfl,hm16,Zaa ..,X.m,X.rd,sd1,X.L++[e1],s1',X.nb+1,X.li+k1,X.lo+q1,_,rfl,M1',_,_,rfl,rfl,_,rfl,_,_,rfl,rfl,?_⟩
   exact⟨⟨X.m,X.rd,sd1,X.L++[e1],s1',X.nb+1,X.li+k1,X.lo+q1,w1⟩,⟨Y.m,Y.rd,sd2,Y.L++[e2],s2',Y.nb+1,Y.li+k2,Y.lo+q2,w2⟩,_,c6,_,_,rfl,(by rw[show pl+(X.li+k1)-X.li=pl+k1 by omega];exact WW),L16,by omega⟩
  ·have W11:=W10.same s11
   have L11:=L10.same s11
   obtain⟨dx11,hm11⟩:=W11.tw.m1.M.ob
   refine⟨_,rfl,X.m,dx11,_,rfl,hm11,Zdp ..,X.m,X.rd,X.sd,X.L,X.s,X.nb,X.li,X.lo,X.w,rfl,W11.tw.m1.M,W11.tw.m1.W,W11.tw.m1.ok,fun x L' s' w' k3 q3 H12 hR M12 W12 ok12 k12=>?_⟩
   obtain⟨d,hd⟩:∃d,Zc8 H12 x d:=by
    rcases hR with⟨_,rfl,_⟩|⟨e,t,y,_,_,rfl,_,ht,_⟩
    ·exact⟨_,.inl ⟨rfl,rfl⟩⟩
    ·exact⟨_,.inr ⟨t,_,_,y,rfl,ht,rfl⟩⟩
   refine⟨x,d,rfl,hd,fun x' H13 p13 s13=>?_⟩
   have m13:MOk cRow cMerge H13 Y:=(W11.tw.m2.keep fun b u hb hor=>k12 b u hb fun y=>by
    rcases hor with h|⟨xs,rfl⟩
    ·exact W11.sep b y h
    ·exact W11.tw.m1.M.fp_tup hb y).same s13
   obtain⟨dy13,hy13⟩:=m13.M.ob
   refine⟨_,rfl,Y.m,dy13,_,rfl,hy13,Zdp ..,Y.m,Y.rd,Y.sd,Y.L,Y.s,Y.nb,Y.li,Y.lo,Y.w,rfl,m13.M,m13.W,m13.ok,fun y M' r' v' k4 q4 H14 hR2 M14 W14 ok14 k14=>?_⟩
   obtain⟨tw,⟨d',hd1,hd2⟩,g1,g2,hlt⟩:=ZkW W11.tw W11.sep hR M12 W12 ok12 k12 s13 hR2 M14 W14 ok14 k14
   have ed:=hd1.one hd
   subst ed
   refine⟨y,d',rfl,hd2,fun y' H15 p15 s15=>⟨d',d',(p13.keep fun t xs ht=>s15 _ _ (k14 _ _ ht (m13.M.fp_tup ht))).dv,p15.dv,p15.sh.1,p15.sh.1,_,rfl,?_⟩⟩
   rw[if_pos rfl,p15.sh.2]
   refine ZdW ?_
   have kk:∀b u,H11 b=some u→¬ MFp X b→¬ MFp Y b→H14 b=some u:=fun b u hb n n'=>k14 b u (s13 _ _ (k12 b u hb n)) n'
   have WW:=W11.to L11.here tw W11.nb (fun x hx=>by obtain⟨y,hy,e⟩:=hlt x hx;show x.1<X.nb;rw[e];exact W11.lt y hy) (fun b hb hb2=>W11.sep b ((g1 b).mp hb) ((g2 b).mp hb2)) (fun b hb=>.inl ((g1 b).mp hb)) (fun b hb=>.inl ((g2 b).mp hb)) kk
   exact⟨⟨X.m,X.rd,X.sd,L',s',X.nb,X.li+k3,X.lo+q3,w'⟩,⟨Y.m,Y.rd,Y.sd,M',r',Y.nb,Y.li+k4,Y.lo+q4,v'⟩,pl,c',_,_,rfl,WW.same s15,(W11.left hpB L11 kk).same s15,by omega⟩
 ·exact⟨X,Y,pl,tn,c',v8,v9,rfl,W8.same s9,L8.same s9,by omega⟩
def Zh1(K:PySem.W.Frag):Sp:=fun vs H Q _=>∃ (a:Addr) (ns:List Int),vs=[.ref a]∧SqL K H a (ns.map V.int)∧ns.length≤63∧∀H',Q (.bl true) H'
def Zkz:List Str:=["z", "ab", "aaaa", "zebrazebraaa"]
theorem Zkv:∀s∈Zkz,s.length≤12∧AZ s:=by unfold AZ cds;decide +kernel
theorem Zl5{f:Addr}{fd:FuncData}(F:Fun K "law" "law" Zcf f fd)(T:Zak K mg cRow cMerge):Zc5 P w K mg base CX0 18 f fd ["_law_script"] (Zh1 K):=by
 have f_l_mix:Df P w K mg base 1 "_law_mix" ["_law_cell", "_law_k"] Zi9:=ZmA T
 have f_l_left:Df P w K mg base 1 "_law_left" ["_law_script", "_law_k"] (Zi6 K):=ZkE T
 have f_l_pick:Df P w K mg base 2 "_law_pick" ["_law_left_here", "_law_many_here"] ZcT:=Zk1 T f_l_mix
 have f_l_stems:Df P w K mg base 3 "_law_stems" ["_law_left_here"] Zeh:=Zi4 T f_l_pick
 have f_l_key:Df P w K mg base 3 "_law_key" ["_law_left_here", "_law_stems_here"] ZjL:=Zmp T f_l_pick
 have f_l_keys:Df P w K mg base 4 "_law_keys" ["_law_left_here", "_law_stems_here", "_law_most"] ZhB:=Zlx T f_l_pick f_l_key
 have f_l_many:Df P w K mg base 3 "_law_many" ["_law_left_here"] Zha:=Zk4 T f_l_pick
 have f_l_row:Df P w K mg base 5 "_law_row" ["_law_left_here", "_law_stems_here", "_law_most"] ZfW:=ZkU T f_l_keys
 have f_l_rows:Df P w K mg base 6 "_law_rows" ["_law_left_here"] ZhJ:=ZjB T f_l_pick f_l_stems f_l_many f_l_row
 have f_alike_from:Df P w K mg base 1 "alike_from" ["one", "other", "far"] ZbF:=Ze7 T
 have f_alike:Df P w K mg base 2 "alike" ["one", "other"] Zem:=Zkk T f_alike_from
 have f_order_at:Df P w K mg base 1 "order_at" ["one", "other", "at"] Zej:=Zjz T
 have f_liken:Df P w K mg base 3 "liken" ["one", "other"] ZfM:=ZjE T f_alike f_order_at
 have f_liken_from:Df P w K mg base 2 "liken_from" ["one", "other", "far"] ZcU:=Zfc T f_alike_from f_order_at
 have f_first_break:Df P w K mg base 4 "first_break" ["keys"] (Zjw K):=ZjM T f_liken
 have f_refuse_break:Df P w K mg base 5 "refuse_break" ["number", "keys"] (Zdw K):=Zit T f_first_break
 have f_alikes:Df P w K mg base 3 "alikes" ["row"] (ZeZ K):=Ziy T f_alike
 have f_halves:Df P w K mg base 1 "halves" ["numbers"] (Zdz K true):=ZiI T
 have f_Row_to_go:=Zla T (P:=P) (w:=w) (base:=base)
 have f_Row_head:=Zkw T f_Row_to_go
 have f_Row_init:=ZhE T f_alikes
 have f_Merge_meet:=Zlo T f_Row_head f_liken_from
 have f_Merge_play:=ZhW T f_Row_head f_halves f_Merge_meet 8
 have f_Merge_play_all:=Zgm T f_Merge_play
 have f_Merge_init:=Zfd T f_refuse_break f_Row_init f_Merge_play_all
 have f_Merge_coming:=ZiY T f_Row_head
 have f_Merge_heads:=ZiO T f_Row_head
 have f_Merge_likenings:=ZfP T (P:=P) (w:=w) (base:=base)
 have f_Merge_looks:=ZjY T (P:=P) (w:=w) (base:=base)
 have f_way_up:Df P w K mg base 2 "way_up" ["numbers", "n"] Zjh:=Zma T f_halves
 have f_matches_up:=Zhy T f_way_up
 have f_Merge_play_again:=ZjD T f_Merge_meet
 have f_Merge_send_out:=ZkQ T f_Row_head f_matches_up f_Merge_play_again
 have f_Merge_take:=Zk0 T f_Merge_coming f_Merge_send_out
 have f_Merge_take_few:=ZmU T f_Merge_take
 have f_how_many:=Zgx T (P:=P) (w:=w) (base:=base)
 have f_counts:=Ziw T f_Merge_init f_Merge_take_few f_how_many f_Merge_likenings f_Merge_looks
 have f_Merge_add_row:=ZhH T f_refuse_break f_Row_init f_Merge_play_all
 have f_l_ahead:=ZjI T (P:=P) (w:=w) (base:=base)
 have f_l_pair_of:=Zhr T (P:=P) (w:=w) (base:=base)
 have f_l_alike_now:=Zml T f_Merge_likenings f_Merge_looks f_Merge_coming f_l_pair_of
 have f_l_walked:=ZiD T f_l_pick f_l_stems f_l_row f_Merge_init f_l_ahead f_Merge_likenings f_Merge_coming f_Merge_heads f_Merge_add_row f_Merge_take f_l_pair_of f_l_alike_now
 refine F.ok Zdk (fun vs H Q E h=>?_) (fun cdv A outer s H vs Q E hr h=>?_)
 ·obtain⟨a,ns,rfl,_⟩:=h
  rfl
 obtain⟨a,sc,rfl,hS,h63,q⟩:=h
 refine⟨_,#[Ze,#[Zdi,PassesOwn.never,#[ZbN,T.b.n_range,#[Za,#[Zw,(Zfp rfl),(by rfl),T.b.n_max,boot_max,#[Za,#[Zh],#[Za,#[Zw,(Zfe rfl),(by rfl),T.b.n_min,boot_min,#[Za,#[Zw,(ZdP K),(by rfl),T.b.n_len,Qs,#[Za,‹0›,#[Zf]]],#[Za,#[Zh],#[Zf]]]],#[Zf]]]],#[Zf]]],#[ZR,1,Zdk.nd],#[Ze,#[Zv,2,Zdk.nd,(Or.inl rfl),#[Zz,f_l_left,hr,#[Za,‹0›,#[Za,‹1›,#[Zf]]],(by rfl)]],#[Ze,#[Zv,3,Zdk.nd,(Or.inl rfl),#[Zz,f_l_rows,hr,#[Za,‹2›,#[Zf]],(by rfl)]],#[Ze,#[Zv,4,Zdk.nd,(Or.inl rfl),#[ZC,(ixL K),#[Zbz,#[Za,#[ZaB],#[Za,#[ZaB],#[Za,#[ZaB],#[Za,#[ZaB],#[Zf]]]]]],#[Zz,f_l_pick,hr,#[Za,‹2›,#[Za,#[Zh],#[Zf]]],(by rfl)]]],#[Ze,#[Zat,(@Zjj _ _ _ _ (@Zj9 _ _ _ #[Zz,f_l_walked,hr,#[Za,‹2›,#[Za,‹3›,#[Za,‹4›,#[Zf]]]],(by rfl)] (by intro _;rfl))),#[Zi,#[Zs,#[Zef]]],#[ZM]],#[Ze,#[Zhh,5,6,Zdk.nd,#[Za,#[Zz,f_counts,hr,#[Za,‹3›,#[Zf]],(by rfl)],#[Za,#[Zz,f_counts,hr,#[Za,#[Zz,f_l_ahead,hr,#[Za,‹3›,#[Za,‹4›,#[Zf]]],(by rfl)],#[Zf]],(by rfl)],#[Zf]]]],#[Ze,#[Zv,7,Zdk.nd,(Or.inl rfl),#[Z0,f_Merge_likenings,T.cl_Merge,hr,#[Zfm,f_Merge_init,hr,#[Za,‹3›,#[Zf]]]]],#[Zi,#[Zat,(@PW.pt _ _ _ (@Zii _ _ _ _ _ _ _ #[Zo,ZgT,#[ZC,(ixT K),‹5›,#[Zh]],#[ZC,(ixT K),‹6›,#[Zh]],(Zt _)] (@Zge _ _ _ _ #[Zo,ZgT,#[ZC,(ixT K),‹6›,#[Zh]],#[ZP,Za0,#[ZC,(ixT K),‹5›,#[Zh]],#[ZP,ZcE,#[Zw,Zaj,(by rfl),T.b.n_len,Qs,#[Za,‹4›,#[Zf]]],‹7›]],(Zt _)]))),#[Zi,#[Zs,#[Zef]]],#[ZM]]]]]]]]]],#[Zi,#[Zs,#[Zef]]]],?_⟩
 have hlen:(sc.map V.int).length=sc.length:=by rw[Qa]
 refine⟨_,rfl,a,_,rfl,.inl hS,_,_,rfl,_,_,rfl,_,rfl,by split<;>split<;>omega,by split<;>split<;>omega,?_⟩
 refine ZdO (fun i σ H2=>∃v1 v2 v3 v4 v5 v6 v7:Option V,σ=[some (.ref a),v1,v2,v3,v4,v5,v6,v7]∧Zx H H2) ⟨_,_,_,_,_,_,_,rfl,Zx.refl _⟩ ?_ ?_
 ·rintro ii σ H2 hi ⟨v1,v2,v3,v4,v5,v6,v7,rfl,s2⟩
  have hi8:(ii:Int)<65:=by split at hi<;>split at hi<;>omega
  clear hi
  refine⟨_,rfl,_,rfl,a,sc,_,rfl,s2.seq hS,h63,by omega,by omega,fun p H3 hp L3 s3=>?_⟩
  have nHp:H p=none:=s2.free hp
  refine⟨_,rfl,p,0,rfl,L3,by decide,fun r rs c4 H4 hr0 hrs hxs h12 L4 a1 a2 B4=>?_⟩
  have nrp:r≠p:=by obtain⟨o,ho⟩:=L3.here;exact(Zb ho hr0).symm
  have hsrt:∀x∈rs,sortedS x.2=true:=fun x hx=>(hxs x hx).2.2.2.1
  have h28:∀x∈rs,∀s∈x.2,s.length≤28:=fun x hx=>(hxs x hx).2.2.2.2.2
  refine⟨(by show 4≤sizeLine;decide),fun e he=>?_⟩
  have se:=Zl he (.lst (Zkz.map V.str))
  have L5:=L4.same se
  have nep:e≠p:=by obtain⟨o,ho⟩:=L4.here;exact(Zb ho he).symm
  refine⟨_,rfl,p,c4,_,rfl,L5,by omega,by decide,by decide,fun pk H6 pk0 pk4 L6 B6=>?_⟩
  have he6:H6 e=some (.lst (Zkz.map V.str)):=B6 _ _ Zg nep
  obtain⟨z,hz,hat⟩:=Zgb (ss:=Zkz) pk0 pk4
  obtain⟨z12,zaz⟩:=Zkv z hz
  refine⟨e,_,_,_,rfl,rfl,SqL.of he6,hat,?_⟩
  have B46:But p H4 H6:=(But.same se).trans B6
  have rows6:∀ {H':Hp},But p H4 H'→Zbi H' r rs:=fun {H'} B=>⟨B _ _ hrs.at' nrp,hrs.few,fun x hx=>let ⟨g1,g2⟩:=hrs.lst x hx;⟨B _ _ g1 (hxs x hx).2.2.1,g2⟩⟩
  refine⟨_,rfl,_,rfl,_,rfl,p,r,c4+1,z,rs,rfl,L6,by omega,rows6 B46,nrp,fun x hx=>⟨(hxs x hx).2.2.1,hsrt x hx,h28 x hx⟩,h12,z12,zaz,fun c7 H7 L7 hc7 B7=>⟨_,rfl,ZdW ?_⟩⟩
  have B47:=B46.trans B7
  have R7:=rows6 B47
  refine⟨_,rfl,r,rs,rfl,R7,hsrt,fun t1 k0 q0 k1 q1 H8 pl8 en8 ht8 s8=>?_⟩
  refine⟨_,rfl,_,rfl,r,z,rs,rfl,R7.same s8,h28,z12,zaz,fun r' rs' H9 hr' hrs' hes s9=>?_⟩
  have hsrt':∀x∈rs',sortedS x.2=true:=fun x hx=>by
   have:x.2∈rs.map fun x=>x.2.map (z++·):=by rw[← hes];exact Qc (f:=fun x:Addr×List Str=>x.2) hx
   obtain⟨y,hy,e⟩:=Qu.mp this
   rw[← e];exact Zgd z (hsrt y hy)
  refine⟨r',rs',rfl,hrs',hsrt',fun t2 k0' q0' k1' q1' H10 pl10 en10 ht10 s10=>⟨_,_,rfl,?_⟩⟩
  have ht1:=s10 _ _ (s9 _ _ ht8)
  rw[ZhZ z hes]at pl10 en10
  rw[Zce,Za2]at pl10
  obtain⟨ek0,eq0⟩:=(Zbu (cds z) pl8).one pl10
  rw[Zf4]at eq0
  subst ek0
  refine⟨_,rfl,fun m dx hm hdx nmd=>?_⟩
  have s11:Zx H10 (upd (upd H10 dx (.own m)) m (.ins cMerge dx [])):=fun b o hb=>by rw[Zc (Zb hb hm),Zc (Zb hb hdx)];exact hb
  have hm11:(upd (upd H10 dx (.own m)) m (.ins cMerge dx [])) m=some (.ins cMerge dx []):=Zg
  generalize upd (upd H10 dx (.own m)) m (.ins cMerge dx [])=H11 at s11 hm11 ⊢
  have s7_11:=((s8.trans s9).trans s10).trans s11
  refine⟨m,dx,r,rs,rfl,hm11,R7.same s7_11,hsrt,fun rd sd L st w0 k2 q2 H12 M12 hnewM W12 S12 P12 fp12 k12=>⟨rfl,?_⟩⟩
  obtain⟨dx12,hm12⟩:=M12.ob
  refine⟨m,dx12,_,rfl,hm12,Zaa ..,m,rd,sd,L,st,_,k2,q2,_,rfl,M12,?_⟩
  have eP:=ZdA hnewM
  have ndN:(ZaT (ZeI rs)).Nodup:=by rw[← eP,← ZZ];exact M12.nd
  obtain⟨ek1,eq1⟩:=(Zki z en8).one (by rw[Za2];exact ndN) en10
  subst ek1
  subst eq1
  rw[ZaZ,ZZ,eP]at P12
  obtain⟨ek2,eq2⟩:=pl8.one P12
  subst ek2
  have s10_12:Zx H10 H12:=fun b o hb=>k12 b o (s11 b o hb) (Zb hb hm)
  have ht1':=s10_12 _ _ ht1
  have ht2':=s10_12 _ _ ht10
  refine⟨_,rfl,t1,_,_,_,rfl,rfl,SqT.of ht1',rfl,_,rfl,t2,_,_,_,rfl,rfl,SqT.of ht2',rfl,rfl,_,rfl,ZeO rfl ?_⟩
  refine⟨_,rfl,t2,_,_,_,rfl,rfl,SqT.of ht2',rfl,_,rfl,t1,_,_,_,rfl,rfl,SqT.of ht1',rfl,_,rfl,z,rfl,Zbk (by omega),_,rfl,_,_,rfl,rfl,.inl ⟨by omega,by omega⟩,_,_,rfl,rfl,rfl,_,rfl,ZeO ?_ ?_⟩
  ·rw[← eq0]
   exact congrArg V.int (by omega)
  ·refine⟨_,_,_,_,_,_,_,rfl,fun b u hb=>?_⟩
   have h4:=B4 b u (s3 b u (s2 b u hb)) (Zb hb nHp)
   exact s10_12 _ _ (((s8.trans s9).trans s10) _ _ (B47 b u h4 (Zb hb nHp)))
 ·rintro σ H2 ⟨v1,v2,v3,v4,v5,v6,v7,rfl,s2⟩
  exact q H2
end
theorem Z4{K:PySem.W.Frag}{h:Heap}{mg:Str→Option Value}{x:Str}{st:Stmt}{ps:List Str}{f:Addr}{od an:Option Addr}{sl:Array (Option Value)}{oc kV dc pm cd ct:Value}(X:K.In h)(G:h.Ns mainGlobals mg)
  (a:PySem.W.nsIn K mainGlobals x=some (some (.ref f))) (l:K.lookup f=some ⟨oc,od,.func (PySem.W.fnOf x x (Zn st) (Zm st) (Zd st) .none kV dc pm an cd ct),sl⟩) (c:PySem.W.codeIn K cd x=true) (k:PySem.W.keepIn K (.ref f)=true)
  (hb:∀ (kV doc pm:Value) (an:Option Addr) (cdv ct:Value) (us:List Value),us.length=ps.length→bindArgs (PySem.W.fnOf x x (Zn st) (Zm st) (Zd st) .none kV doc pm an cdv ct) ⟨us,[]⟩=pure (ps.zip us)):Top K mg x st ps :=
 ⟨_,_,ZE (st:=st) l c k,Qah X G a,(ZE (st:=st) l c k).binds hb⟩
theorem ZcK:∀us:List Value,us.length=1→∃a0,us=[a0]
 | [a0],_=>⟨a0,rfl⟩
theorem Zc6:∀us:List Value,us.length=2→∃a0 a1,us=[a0,a1]
 | [a0,a1],_=>⟨a0,a1,rfl⟩
theorem Zhx:∀us:List Value,us.length=3→∃a0 a1 a2,us=[a0,a1,a2]
 | [a0,a1,a2],_=>⟨a0,a1,a2,rfl⟩
theorem Zm4:∀us:List Value,us.length=4→∃a0 a1 a2 a3,us=[a0,a1,a2,a3]
 | [a0,a1,a2,a3],_=>⟨a0,a1,a2,a3,rfl⟩
theorem all_mk{l:PySem.W.OpenLaw}{w:World}{K:PySem.W.Frag}{h:Heap}{mg:Str→Option Value}{fa:Addr}(X:K.In h)(G:h.Ns mainGlobals mg)(hfa:mg "law" = some (.ref fa))
  {cRow:Addr}
  {cMerge:Addr}
  {f0:Addr} {od0 an0:Option Addr} {sl0:Array (Option Value)} {oc0 kV0 dc0 pm0 cd0 ct0:Value}
  {f1:Addr} {od1 an1:Option Addr} {sl1:Array (Option Value)} {oc1 kV1 dc1 pm1 cd1 ct1:Value}
  {f2:Addr} {od2 an2:Option Addr} {sl2:Array (Option Value)} {oc2 kV2 dc2 pm2 cd2 ct2:Value}
  {f3:Addr} {od3 an3:Option Addr} {sl3:Array (Option Value)} {oc3 kV3 dc3 pm3 cd3 ct3:Value}
  {f4:Addr} {od4 an4:Option Addr} {sl4:Array (Option Value)} {oc4 kV4 dc4 pm4 cd4 ct4:Value}
  {f5:Addr} {od5 an5:Option Addr} {sl5:Array (Option Value)} {oc5 kV5 dc5 pm5 cd5 ct5:Value}
  {f6:Addr} {od6 an6:Option Addr} {sl6:Array (Option Value)} {oc6 kV6 dc6 pm6 cd6 ct6:Value}
  {f7:Addr} {od7 an7:Option Addr} {sl7:Array (Option Value)} {oc7 kV7 dc7 pm7 cd7 ct7:Value}
  {f8:Addr} {od8 an8:Option Addr} {sl8:Array (Option Value)} {oc8 kV8 dc8 pm8 cd8 ct8:Value}
  {f9:Addr} {od9 an9:Option Addr} {sl9:Array (Option Value)} {oc9 kV9 dc9 pm9 cd9 ct9:Value}
  {f10:Addr} {od10 an10:Option Addr} {sl10:Array (Option Value)} {oc10 kV10 dc10 pm10 cd10 ct10:Value}
  {f11:Addr} {od11 an11:Option Addr} {sl11:Array (Option Value)} {oc11 kV11 dc11 pm11 cd11 ct11:Value}
  {f12:Addr} {od12 an12:Option Addr} {sl12:Array (Option Value)} {oc12 kV12 dc12 pm12 cd12 ct12:Value}
  {f13:Addr} {od13 an13:Option Addr} {sl13:Array (Option Value)} {oc13 kV13 dc13 pm13 cd13 ct13:Value}
  {f14:Addr} {od14 an14:Option Addr} {sl14:Array (Option Value)} {oc14 kV14 dc14 pm14 cd14 ct14:Value}
  {f15:Addr} {od15 an15:Option Addr} {sl15:Array (Option Value)} {oc15 kV15 dc15 pm15 cd15 ct15:Value}
  {f16:Addr} {od16 an16:Option Addr} {sl16:Array (Option Value)} {oc16 kV16 dc16 pm16 cd16 ct16:Value}
  {f17:Addr} {od17 an17:Option Addr} {sl17:Array (Option Value)} {oc17 kV17 dc17 pm17 cd17 ct17:Value}
  {f18:Addr} {od18 an18:Option Addr} {sl18:Array (Option Value)} {oc18 kV18 dc18 pm18 cd18 ct18:Value}
  {f19:Addr} {od19 an19:Option Addr} {sl19:Array (Option Value)} {oc19 kV19 dc19 pm19 cd19 ct19:Value}
  {f20:Addr} {od20 an20:Option Addr} {sl20:Array (Option Value)} {oc20 kV20 dc20 pm20 cd20 ct20:Value}
  {f21:Addr} {od21 an21:Option Addr} {sl21:Array (Option Value)} {oc21 kV21 dc21 pm21 cd21 ct21:Value}
  {f22:Addr} {od22 an22:Option Addr} {sl22:Array (Option Value)} {oc22 kV22 dc22 pm22 cd22 ct22:Value}
  {f23:Addr} {od23 an23:Option Addr} {sl23:Array (Option Value)} {oc23 kV23 dc23 pm23 cd23 ct23:Value}
  {f24:Addr} {od24 an24:Option Addr} {sl24:Array (Option Value)} {oc24 kV24 dc24 pm24 cd24 ct24:Value}
  {f25:Addr} {od25 an25:Option Addr} {sl25:Array (Option Value)} {oc25 kV25 dc25 pm25 cd25 ct25:Value}
  {f26:Addr} {od26 an26:Option Addr} {sl26:Array (Option Value)} {oc26 kV26 dc26 pm26 cd26 ct26:Value}
  {f27:Addr} {od27 an27:Option Addr} {sl27:Array (Option Value)} {oc27 kV27 dc27 pm27 cd27 ct27:Value}
  {f28:Addr} {od28 an28:Option Addr} {sl28:Array (Option Value)} {oc28 kV28 dc28 pm28 cd28 ct28:Value}
  {f29:Addr} {od29 an29:Option Addr} {sl29:Array (Option Value)} {oc29 kV29 dc29 pm29 cd29 ct29:Value}
  {f30:Addr} {od30 an30:Option Addr} {sl30:Array (Option Value)} {oc30 kV30 dc30 pm30 cd30 ct30:Value}
  {f31:Addr} {od31 an31:Option Addr} {sl31:Array (Option Value)} {oc31 kV31 dc31 pm31 cd31 ct31:Value}
  {f32:Addr} {od32 an32:Option Addr} {sl32:Array (Option Value)} {oc32 kV32 dc32 pm32 cd32 ct32:Value}
  {f33:Addr} {od33 an33:Option Addr} {sl33:Array (Option Value)} {oc33 kV33 dc33 pm33 cd33 ct33:Value}
  {f34:Addr} {od34 an34:Option Addr} {sl34:Array (Option Value)} {oc34 kV34 dc34 pm34 cd34 ct34:Value}
  {f35:Addr} {od35 an35:Option Addr} {sl35:Array (Option Value)} {oc35 kV35 dc35 pm35 cd35 ct35:Value}
  {f36:Addr} {od36 an36:Option Addr} {sl36:Array (Option Value)} {oc36 kV36 dc36 pm36 cd36 ct36:Value}
  {f37:Addr} {od37 an37:Option Addr} {sl37:Array (Option Value)} {oc37 kV37 dc37 pm37 cd37 ct37:Value}
  {f38:Addr} {od38 an38:Option Addr} {sl38:Array (Option Value)} {oc38 kV38 dc38 pm38 cd38 ct38:Value}
  {f39:Addr} {od39 an39:Option Addr} {sl39:Array (Option Value)} {oc39 kV39 dc39 pm39 cd39 ct39:Value}
  {f40:Addr} {od40 an40:Option Addr} {sl40:Array (Option Value)} {oc40 kV40 dc40 pm40 cd40 ct40:Value}
  {f41:Addr} {od41 an41:Option Addr} {sl41:Array (Option Value)} {oc41 kV41 dc41 pm41 cd41 ct41:Value}
  {f42:Addr} {od42 an42:Option Addr} {sl42:Array (Option Value)} {oc42 kV42 dc42 pm42 cd42 ct42:Value}
  {tkMOST_ROWS:Tok}
  (aCRow:#[Xns,K,"Row",cRow]) (pgRow:PySem.W.plainGet K cRow Str.empty=true) (hdRow:PySem.W.hasDictIn K cRow=true) (poRow:PySem.W.plainOver K cRow=true) (saRow:PySem.W.findIn K (.ref cRow) "__setattr__" = some (some (.builtin "object.__setattr__"))) (mkRow:PySem.W.makesIn K cRow=true) (kcRow:PySem.W.keepIn K (.ref cRow)=true)
  (nARow_all_keys:PySem.W.findIn K (.ref cRow) "all_keys" = some none)
  (nARow_fars:PySem.W.findIn K (.ref cRow) "fars" = some none)
  (nARow_gone:PySem.W.findIn K (.ref cRow) "gone" = some none)
  (aCMerge:#[Xns,K,"Merge",cMerge]) (pgMerge:PySem.W.plainGet K cMerge Str.empty=true) (hdMerge:PySem.W.hasDictIn K cMerge=true) (poMerge:PySem.W.plainOver K cMerge=true) (saMerge:PySem.W.findIn K (.ref cMerge) "__setattr__" = some (some (.builtin "object.__setattr__"))) (mkMerge:PySem.W.makesIn K cMerge=true) (kcMerge:PySem.W.keepIn K (.ref cMerge)=true)
  (nAMerge_best:PySem.W.findIn K (.ref cMerge) "best" = some none)
  (nAMerge_likened:PySem.W.findIn K (.ref cMerge) "likened" = some none)
  (nAMerge_looked:PySem.W.findIn K (.ref cMerge) "looked" = some none)
  (nAMerge_next_number:PySem.W.findIn K (.ref cMerge) "next_number" = some none)
  (nAMerge_rows:PySem.W.findIn K (.ref cMerge) "rows" = some none)
  (nAMerge_stays:PySem.W.findIn K (.ref cMerge) "stays" = some none)
  (a0:#[Xns,K,"halves",f0]) (l0:#[Xlk,K,f0,oc0,od0,"halves","halves",Zb2,kV0,dc0,pm0,an0,cd0,ct0,sl0]) (c0:PySem.W.codeIn K cd0 "halves" = true) (k0:PySem.W.keepIn K (.ref f0)=true)
  (a1:#[Xns,K,"way_up",f1]) (l1:#[Xlk,K,f1,oc1,od1,"way_up","way_up",Zb7,kV1,dc1,pm1,an1,cd1,ct1,sl1]) (c1:PySem.W.codeIn K cd1 "way_up" = true) (k1:PySem.W.keepIn K (.ref f1)=true)
  (a2:#[Xns,K,"alike",f2]) (l2:#[Xlk,K,f2,oc2,od2,"alike","alike",Zcu,kV2,dc2,pm2,an2,cd2,ct2,sl2]) (c2:PySem.W.codeIn K cd2 "alike" = true) (k2:PySem.W.keepIn K (.ref f2)=true)
  (a3:#[Xns,K,"liken",f3]) (l3:#[Xlk,K,f3,oc3,od3,"liken","liken",ZcD,kV3,dc3,pm3,an3,cd3,ct3,sl3]) (c3:PySem.W.codeIn K cd3 "liken" = true) (k3:PySem.W.keepIn K (.ref f3)=true)
  (a4:#[Xns,K,"liken_from",f4]) (l4:#[Xlk,K,f4,oc4,od4,"liken_from","liken_from",ZaM,kV4,dc4,pm4,an4,cd4,ct4,sl4]) (c4:PySem.W.codeIn K cd4 "liken_from" = true) (k4:PySem.W.keepIn K (.ref f4)=true)
  (a5:#[Xns,K,"alike_from",f5]) (l5:#[Xlk,K,f5,oc5,od5,"alike_from","alike_from",ZaN,kV5,dc5,pm5,an5,cd5,ct5,sl5]) (c5:PySem.W.codeIn K cd5 "alike_from" = true) (k5:PySem.W.keepIn K (.ref f5)=true)
  (a6:#[Xns,K,"order_at",f6]) (l6:#[Xlk,K,f6,oc6,od6,"order_at","order_at",Zbf,kV6,dc6,pm6,an6,cd6,ct6,sl6]) (c6:PySem.W.codeIn K cd6 "order_at" = true) (k6:PySem.W.keepIn K (.ref f6)=true)
  (a7:#[Xns,K,"first_break",f7]) (l7:#[Xlk,K,f7,oc7,od7,"first_break","first_break",ZaG,kV7,dc7,pm7,an7,cd7,ct7,sl7]) (c7:PySem.W.codeIn K cd7 "first_break" = true) (k7:PySem.W.keepIn K (.ref f7)=true)
  (a8:#[Xns,K,"alikes",f8]) (l8:#[Xlk,K,f8,oc8,od8,"alikes","alikes",ZbT,kV8,dc8,pm8,an8,cd8,ct8,sl8]) (c8:PySem.W.codeIn K cd8 "alikes" = true) (k8:PySem.W.keepIn K (.ref f8)=true)
  (a9:#[Xns,K,"refuse_break",f9]) (l9:#[Xlk,K,f9,oc9,od9,"refuse_break","refuse_break",Zaz,kV9,dc9,pm9,an9,cd9,ct9,sl9]) (c9:PySem.W.codeIn K cd9 "refuse_break" = true) (k9:PySem.W.keepIn K (.ref f9)=true)
  (a10:#[Xns,K,"matches_up",f10]) (l10:#[Xlk,K,f10,oc10,od10,"matches_up","matches_up",ZaO,kV10,dc10,pm10,an10,cd10,ct10,sl10]) (c10:PySem.W.codeIn K cd10 "matches_up" = true) (k10:PySem.W.keepIn K (.ref f10)=true)
  (a11:#[Xns,K,"counts",f11]) (l11:#[Xlk,K,f11,oc11,od11,"counts","counts",ZbM,kV11,dc11,pm11,an11,cd11,ct11,sl11]) (c11:PySem.W.codeIn K cd11 "counts" = true) (k11:PySem.W.keepIn K (.ref f11)=true)
  (a12:#[Xns,K,"how_many",f12]) (l12:#[Xlk,K,f12,oc12,od12,"how_many","how_many",ZaP,kV12,dc12,pm12,an12,cd12,ct12,sl12]) (c12:PySem.W.codeIn K cd12 "how_many" = true) (k12:PySem.W.keepIn K (.ref f12)=true)
  (a13:#[Xns,K,"_law_mix",f13]) (l13:#[Xlk,K,f13,oc13,od13,"_law_mix","_law_mix",ZcJ,kV13,dc13,pm13,an13,cd13,ct13,sl13]) (c13:PySem.W.codeIn K cd13 "_law_mix" = true) (k13:PySem.W.keepIn K (.ref f13)=true)
  (a14:#[Xns,K,"_law_left",f14]) (l14:#[Xlk,K,f14,oc14,od14,"_law_left","_law_left",Zb0,kV14,dc14,pm14,an14,cd14,ct14,sl14]) (c14:PySem.W.codeIn K cd14 "_law_left" = true) (k14:PySem.W.keepIn K (.ref f14)=true)
  (a15:#[Xns,K,"_law_pick",f15]) (l15:#[Xlk,K,f15,oc15,od15,"_law_pick","_law_pick",ZbW,kV15,dc15,pm15,an15,cd15,ct15,sl15]) (c15:PySem.W.codeIn K cd15 "_law_pick" = true) (k15:PySem.W.keepIn K (.ref f15)=true)
  (a16:#[Xns,K,"_law_stems",f16]) (l16:#[Xlk,K,f16,oc16,od16,"_law_stems","_law_stems",Za6,kV16,dc16,pm16,an16,cd16,ct16,sl16]) (c16:PySem.W.codeIn K cd16 "_law_stems" = true) (k16:PySem.W.keepIn K (.ref f16)=true)
  (a17:#[Xns,K,"_law_key",f17]) (l17:#[Xlk,K,f17,oc17,od17,"_law_key","_law_key",Zb4,kV17,dc17,pm17,an17,cd17,ct17,sl17]) (c17:PySem.W.codeIn K cd17 "_law_key" = true) (k17:PySem.W.keepIn K (.ref f17)=true)
  (a18:#[Xns,K,"_law_keys",f18]) (l18:#[Xlk,K,f18,oc18,od18,"_law_keys","_law_keys",ZbP,kV18,dc18,pm18,an18,cd18,ct18,sl18]) (c18:PySem.W.codeIn K cd18 "_law_keys" = true) (k18:PySem.W.keepIn K (.ref f18)=true)
  (a19:#[Xns,K,"_law_row",f19]) (l19:#[Xlk,K,f19,oc19,od19,"_law_row","_law_row",Zcz,kV19,dc19,pm19,an19,cd19,ct19,sl19]) (c19:PySem.W.codeIn K cd19 "_law_row" = true) (k19:PySem.W.keepIn K (.ref f19)=true)
  (a20:#[Xns,K,"_law_many",f20]) (l20:#[Xlk,K,f20,oc20,od20,"_law_many","_law_many",ZbS,kV20,dc20,pm20,an20,cd20,ct20,sl20]) (c20:PySem.W.codeIn K cd20 "_law_many" = true) (k20:PySem.W.keepIn K (.ref f20)=true)
  (a21:#[Xns,K,"_law_rows",f21]) (l21:#[Xlk,K,f21,oc21,od21,"_law_rows","_law_rows",Zbo,kV21,dc21,pm21,an21,cd21,ct21,sl21]) (c21:PySem.W.codeIn K cd21 "_law_rows" = true) (k21:PySem.W.keepIn K (.ref f21)=true)
  (a22:#[Xns,K,"_law_ahead",f22]) (l22:#[Xlk,K,f22,oc22,od22,"_law_ahead","_law_ahead",Za7,kV22,dc22,pm22,an22,cd22,ct22,sl22]) (c22:PySem.W.codeIn K cd22 "_law_ahead" = true) (k22:PySem.W.keepIn K (.ref f22)=true)
  (a23:#[Xns,K,"_law_pair_of",f23]) (l23:#[Xlk,K,f23,oc23,od23,"_law_pair_of","_law_pair_of",ZaW,kV23,dc23,pm23,an23,cd23,ct23,sl23]) (c23:PySem.W.codeIn K cd23 "_law_pair_of" = true) (k23:PySem.W.keepIn K (.ref f23)=true)
  (a24:#[Xns,K,"_law_alike_now",f24]) (l24:#[Xlk,K,f24,oc24,od24,"_law_alike_now","_law_alike_now",ZaF,kV24,dc24,pm24,an24,cd24,ct24,sl24]) (c24:PySem.W.codeIn K cd24 "_law_alike_now" = true) (k24:PySem.W.keepIn K (.ref f24)=true)
  (a25:#[Xns,K,"_law_walked",f25]) (l25:#[Xlk,K,f25,oc25,od25,"_law_walked","_law_walked",ZaS,kV25,dc25,pm25,an25,cd25,ct25,sl25]) (c25:PySem.W.codeIn K cd25 "_law_walked" = true) (k25:PySem.W.keepIn K (.ref f25)=true)
  (a26:#[Xns,K,"law",f26]) (l26:#[Xlk,K,f26,oc26,od26,"law","law",Zcf,kV26,dc26,pm26,an26,cd26,ct26,sl26]) (c26:PySem.W.codeIn K cd26 "law" = true) (k26:PySem.W.keepIn K (.ref f26)=true)
  (a27:#[Xfi,K,cRow,"__init__",f27]) (i27:PySem.W.isFn K (.ref f27)=true) (l27:#[Xlk,K,f27,oc27,od27,"__init__","Row.__init__",ZaE,kV27,dc27,pm27,an27,cd27,ct27,sl27]) (c27:PySem.W.codeIn K cd27 "Row.__init__" = true) (k27:PySem.W.keepIn K (.ref f27)=true)
  (a28:#[Xfi,K,cRow,"to_go",f28]) (i28:PySem.W.isFn K (.ref f28)=true) (l28:#[Xlk,K,f28,oc28,od28,"to_go","Row.to_go",Zax,kV28,dc28,pm28,an28,cd28,ct28,sl28]) (c28:PySem.W.codeIn K cd28 "Row.to_go" = true) (k28:PySem.W.keepIn K (.ref f28)=true)
  (a29:#[Xfi,K,cRow,"head",f29]) (i29:PySem.W.isFn K (.ref f29)=true) (l29:#[Xlk,K,f29,oc29,od29,"head","Row.head",ZaD,kV29,dc29,pm29,an29,cd29,ct29,sl29]) (c29:PySem.W.codeIn K cd29 "Row.head" = true) (k29:PySem.W.keepIn K (.ref f29)=true)
  (a30:#[Xfi,K,cMerge,"__init__",f30]) (i30:PySem.W.isFn K (.ref f30)=true) (l30:#[Xlk,K,f30,oc30,od30,"__init__","Merge.__init__",Zap,kV30,dc30,pm30,an30,cd30,ct30,sl30]) (c30:PySem.W.codeIn K cd30 "Merge.__init__" = true) (k30:PySem.W.keepIn K (.ref f30)=true)
  (a31:#[Xfi,K,cMerge,"coming",f31]) (i31:PySem.W.isFn K (.ref f31)=true) (l31:#[Xlk,K,f31,oc31,od31,"coming","Merge.coming",Z9,kV31,dc31,pm31,an31,cd31,ct31,sl31]) (c31:PySem.W.codeIn K cd31 "Merge.coming" = true) (k31:PySem.W.keepIn K (.ref f31)=true)
  (a32:#[Xfi,K,cMerge,"take",f32]) (i32:PySem.W.isFn K (.ref f32)=true) (l32:#[Xlk,K,f32,oc32,od32,"take","Merge.take",Zar,kV32,dc32,pm32,an32,cd32,ct32,sl32]) (c32:PySem.W.codeIn K cd32 "Merge.take" = true) (k32:PySem.W.keepIn K (.ref f32)=true)
  (a33:#[Xfi,K,cMerge,"take_few",f33]) (i33:PySem.W.isFn K (.ref f33)=true) (l33:#[Xlk,K,f33,oc33,od33,"take_few","Merge.take_few",ZT,kV33,dc33,pm33,an33,cd33,ct33,sl33]) (c33:PySem.W.codeIn K cd33 "Merge.take_few" = true) (k33:PySem.W.keepIn K (.ref f33)=true)
  (a34:#[Xfi,K,cMerge,"heads",f34]) (i34:PySem.W.isFn K (.ref f34)=true) (l34:#[Xlk,K,f34,oc34,od34,"heads","Merge.heads",Z5,kV34,dc34,pm34,an34,cd34,ct34,sl34]) (c34:PySem.W.codeIn K cd34 "Merge.heads" = true) (k34:PySem.W.keepIn K (.ref f34)=true)
  (a35:#[Xfi,K,cMerge,"likenings",f35]) (i35:PySem.W.isFn K (.ref f35)=true) (l35:#[Xlk,K,f35,oc35,od35,"likenings","Merge.likenings",ZO,kV35,dc35,pm35,an35,cd35,ct35,sl35]) (c35:PySem.W.codeIn K cd35 "Merge.likenings" = true) (k35:PySem.W.keepIn K (.ref f35)=true)
  (a36:#[Xfi,K,cMerge,"looks",f36]) (i36:PySem.W.isFn K (.ref f36)=true) (l36:#[Xlk,K,f36,oc36,od36,"looks","Merge.looks",Zah,kV36,dc36,pm36,an36,cd36,ct36,sl36]) (c36:PySem.W.codeIn K cd36 "Merge.looks" = true) (k36:PySem.W.keepIn K (.ref f36)=true)
  (a37:#[Xfi,K,cMerge,"add_row",f37]) (i37:PySem.W.isFn K (.ref f37)=true) (l37:#[Xlk,K,f37,oc37,od37,"add_row","Merge.add_row",Z1,kV37,dc37,pm37,an37,cd37,ct37,sl37]) (c37:PySem.W.codeIn K cd37 "Merge.add_row" = true) (k37:PySem.W.keepIn K (.ref f37)=true)
  (a38:#[Xfi,K,cMerge,"play_all",f38]) (i38:PySem.W.isFn K (.ref f38)=true) (l38:#[Xlk,K,f38,oc38,od38,"play_all","Merge.play_all",ZS,kV38,dc38,pm38,an38,cd38,ct38,sl38]) (c38:PySem.W.codeIn K cd38 "Merge.play_all" = true) (k38:PySem.W.keepIn K (.ref f38)=true)
  (a39:#[Xfi,K,cMerge,"play",f39]) (i39:PySem.W.isFn K (.ref f39)=true) (l39:#[Xlk,K,f39,oc39,od39,"play","Merge.play",Zaq,kV39,dc39,pm39,an39,cd39,ct39,sl39]) (c39:PySem.W.codeIn K cd39 "Merge.play" = true) (k39:PySem.W.keepIn K (.ref f39)=true)
  (a40:#[Xfi,K,cMerge,"send_out",f40]) (i40:PySem.W.isFn K (.ref f40)=true) (l40:#[Xlk,K,f40,oc40,od40,"send_out","Merge.send_out",ZU,kV40,dc40,pm40,an40,cd40,ct40,sl40]) (c40:PySem.W.codeIn K cd40 "Merge.send_out" = true) (k40:PySem.W.keepIn K (.ref f40)=true)
  (a41:#[Xfi,K,cMerge,"play_again",f41]) (i41:PySem.W.isFn K (.ref f41)=true) (l41:#[Xlk,K,f41,oc41,od41,"play_again","Merge.play_again",ZI,kV41,dc41,pm41,an41,cd41,ct41,sl41]) (c41:PySem.W.codeIn K cd41 "Merge.play_again" = true) (k41:PySem.W.keepIn K (.ref f41)=true)
  (a42:#[Xfi,K,cMerge,"meet",f42]) (i42:PySem.W.isFn K (.ref f42)=true) (l42:#[Xlk,K,f42,oc42,od42,"meet","Merge.meet",Zas,kV42,dc42,pm42,an42,cd42,ct42,sl42]) (c42:PySem.W.codeIn K cd42 "Merge.meet" = true) (k42:PySem.W.keepIn K (.ref f42)=true)
  (giMOST_ROWS:PySem.W.nsIn K mainGlobals "MOST_ROWS" = some (some (.int 16 tkMOST_ROWS)))
  (z0:PySem.W.nsIn K mainGlobals "abs" = some none) (z1:PySem.W.nsIn K mainGlobals "enumerate" = some none) (z2:PySem.W.nsIn K mainGlobals "int" = some none) (z3:PySem.W.nsIn K mainGlobals "len" = some none) (z4:PySem.W.nsIn K mainGlobals "list" = some none) (z5:PySem.W.nsIn K mainGlobals "max" = some none) (z6:PySem.W.nsIn K mainGlobals "min" = some none) (z7:PySem.W.nsIn K mainGlobals "range" = some none) (z8:PySem.W.nsIn K mainGlobals "sorted" = some none) (z9:PySem.W.nsIn K mainGlobals "sum" = some none) :
  ∃fd:FuncData,(∀ (s:Shared) (v:Value),BindsTo s fd ⟨[v],[]⟩ [("_law_script",v)])∧∀base:Heap,K.In base→base.Ns mainGlobals mg→Zc5 l.prog w K mg base CX0 18 fa fd ["_law_script"] (Zh1 K):=by
 have e:=hfa.symm.trans (Qah X G a26)
 cases e
 have T:Zak K mg cRow cMerge:=⟨⟨QH X G z0,QH X G z1,QH X G z2,QH X G z3,QH X G z4,QH X G z5,QH X G z6,QH X G z7,QH X G z8,QH X G z9⟩,Z4 X G a0 l0 c0 k0 (fun _ _ _ _ _ _ us hl=>by obtain⟨_,rfl⟩:=ZcK us hl;exact rfl),Z4 X G a1 l1 c1 k1 (fun _ _ _ _ _ _ us hl=>by obtain⟨_,_,rfl⟩:=Zc6 us hl;exact rfl),Z4 X G a2 l2 c2 k2 (fun _ _ _ _ _ _ us hl=>by obtain⟨_,_,rfl⟩:=Zc6 us hl;exact rfl),Z4 X G a3 l3 c3 k3 (fun _ _ _ _ _ _ us hl=>by obtain⟨_,_,rfl⟩:=Zc6 us hl;exact rfl),Z4 X G a4 l4 c4 k4 (fun _ _ _ _ _ _ us hl=>by obtain⟨_,_,_,rfl⟩:=Zhx us hl;exact rfl),Z4 X G a5 l5 c5 k5 (fun _ _ _ _ _ _ us hl=>by obtain⟨_,_,_,rfl⟩:=Zhx us hl;exact rfl),Z4 X G a6 l6 c6 k6 (fun _ _ _ _ _ _ us hl=>by obtain⟨_,_,_,rfl⟩:=Zhx us hl;exact rfl),Z4 X G a7 l7 c7 k7 (fun _ _ _ _ _ _ us hl=>by obtain⟨_,rfl⟩:=ZcK us hl;exact rfl),Z4 X G a8 l8 c8 k8 (fun _ _ _ _ _ _ us hl=>by obtain⟨_,rfl⟩:=ZcK us hl;exact rfl),Z4 X G a9 l9 c9 k9 (fun _ _ _ _ _ _ us hl=>by obtain⟨_,_,rfl⟩:=Zc6 us hl;exact rfl),Z4 X G a10 l10 c10 k10 (fun _ _ _ _ _ _ us hl=>by obtain⟨_,_,rfl⟩:=Zc6 us hl;exact rfl),Z4 X G a11 l11 c11 k11 (fun _ _ _ _ _ _ us hl=>by obtain⟨_,rfl⟩:=ZcK us hl;exact rfl),Z4 X G a12 l12 c12 k12 (fun _ _ _ _ _ _ us hl=>by obtain⟨_,rfl⟩:=ZcK us hl;exact rfl),Z4 X G a13 l13 c13 k13 (fun _ _ _ _ _ _ us hl=>by obtain⟨_,_,rfl⟩:=Zc6 us hl;exact rfl),Z4 X G a14 l14 c14 k14 (fun _ _ _ _ _ _ us hl=>by obtain⟨_,_,rfl⟩:=Zc6 us hl;exact rfl),Z4 X G a15 l15 c15 k15 (fun _ _ _ _ _ _ us hl=>by obtain⟨_,_,rfl⟩:=Zc6 us hl;exact rfl),Z4 X G a16 l16 c16 k16 (fun _ _ _ _ _ _ us hl=>by obtain⟨_,rfl⟩:=ZcK us hl;exact rfl),Z4 X G a17 l17 c17 k17 (fun _ _ _ _ _ _ us hl=>by obtain⟨_,_,rfl⟩:=Zc6 us hl;exact rfl),Z4 X G a18 l18 c18 k18 (fun _ _ _ _ _ _ us hl=>by obtain⟨_,_,_,rfl⟩:=Zhx us hl;exact rfl),Z4 X G a19 l19 c19 k19 (fun _ _ _ _ _ _ us hl=>by obtain⟨_,_,_,rfl⟩:=Zhx us hl;exact rfl),Z4 X G a20 l20 c20 k20 (fun _ _ _ _ _ _ us hl=>by obtain⟨_,rfl⟩:=ZcK us hl;exact rfl),Z4 X G a21 l21 c21 k21 (fun _ _ _ _ _ _ us hl=>by obtain⟨_,rfl⟩:=ZcK us hl;exact rfl),Z4 X G a22 l22 c22 k22 (fun _ _ _ _ _ _ us hl=>by obtain⟨_,_,rfl⟩:=Zc6 us hl;exact rfl),Z4 X G a23 l23 c23 k23 (fun _ _ _ _ _ _ us hl=>by obtain⟨_,rfl⟩:=ZcK us hl;exact rfl),Z4 X G a24 l24 c24 k24 (fun _ _ _ _ _ _ us hl=>by obtain⟨_,_,_,_,rfl⟩:=Zm4 us hl;exact rfl),Z4 X G a25 l25 c25 k25 (fun _ _ _ _ _ _ us hl=>by obtain⟨_,_,_,rfl⟩:=Zhx us hl;exact rfl),⟨_,_,ZE (st:=ZaE) l27 c27 k27,⟨mkRow,a27,i27,kcRow⟩,(ZE (st:=ZaE) l27 c27 k27).binds (ps:=["self", "keys"]) (fun _ _ _ _ _ _ us hl=>by obtain⟨_,_,rfl⟩:=Zc6 us hl;exact rfl),Qah X G aCRow⟩,⟨_,_,ZE (st:=Zax) l28 c28 k28,⟨a28,i28,k28⟩,(ZE (st:=Zax) l28 c28 k28).binds (ps:=["self"]) (fun _ _ _ _ _ _ us hl=>by obtain⟨_,rfl⟩:=ZcK us hl;exact rfl)⟩,⟨_,_,ZE (st:=ZaD) l29 c29 k29,⟨a29,i29,k29⟩,(ZE (st:=ZaD) l29 c29 k29).binds (ps:=["self"]) (fun _ _ _ _ _ _ us hl=>by obtain⟨_,rfl⟩:=ZcK us hl;exact rfl)⟩,⟨_,_,ZE (st:=Zap) l30 c30 k30,⟨mkMerge,a30,i30,kcMerge⟩,(ZE (st:=Zap) l30 c30 k30).binds (ps:=["self", "rows"]) (fun _ _ _ _ _ _ us hl=>by obtain⟨_,_,rfl⟩:=Zc6 us hl;exact rfl),Qah X G aCMerge⟩,⟨_,_,ZE (st:=Z9) l31 c31 k31,⟨a31,i31,k31⟩,(ZE (st:=Z9) l31 c31 k31).binds (ps:=["self"]) (fun _ _ _ _ _ _ us hl=>by obtain⟨_,rfl⟩:=ZcK us hl;exact rfl)⟩,⟨_,_,ZE (st:=Zar) l32 c32 k32,⟨a32,i32,k32⟩,(ZE (st:=Zar) l32 c32 k32).binds (ps:=["self"]) (fun _ _ _ _ _ _ us hl=>by obtain⟨_,rfl⟩:=ZcK us hl;exact rfl)⟩,⟨_,_,ZE (st:=ZT) l33 c33 k33,⟨a33,i33,k33⟩,(ZE (st:=ZT) l33 c33 k33).binds (ps:=["self", "many"]) (fun _ _ _ _ _ _ us hl=>by obtain⟨_,_,rfl⟩:=Zc6 us hl;exact rfl)⟩,⟨_,_,ZE (st:=Z5) l34 c34 k34,⟨a34,i34,k34⟩,(ZE (st:=Z5) l34 c34 k34).binds (ps:=["self"]) (fun _ _ _ _ _ _ us hl=>by obtain⟨_,rfl⟩:=ZcK us hl;exact rfl)⟩,⟨_,_,ZE (st:=ZO) l35 c35 k35,⟨a35,i35,k35⟩,(ZE (st:=ZO) l35 c35 k35).binds (ps:=["self"]) (fun _ _ _ _ _ _ us hl=>by obtain⟨_,rfl⟩:=ZcK us hl;exact rfl)⟩,⟨_,_,ZE (st:=Zah) l36 c36 k36,⟨a36,i36,k36⟩,(ZE (st:=Zah) l36 c36 k36).binds (ps:=["self"]) (fun _ _ _ _ _ _ us hl=>by obtain⟨_,rfl⟩:=ZcK us hl;exact rfl)⟩,⟨_,_,ZE (st:=Z1) l37 c37 k37,⟨a37,i37,k37⟩,(ZE (st:=Z1) l37 c37 k37).binds (ps:=["self", "row"]) (fun _ _ _ _ _ _ us hl=>by obtain⟨_,_,rfl⟩:=Zc6 us hl;exact rfl)⟩,⟨_,_,ZE (st:=ZS) l38 c38 k38,⟨a38,i38,k38⟩,(ZE (st:=ZS) l38 c38 k38).binds (ps:=["self"]) (fun _ _ _ _ _ _ us hl=>by obtain⟨_,rfl⟩:=ZcK us hl;exact rfl)⟩,⟨_,_,ZE (st:=Zaq) l39 c39 k39,⟨a39,i39,k39⟩,(ZE (st:=Zaq) l39 c39 k39).binds (ps:=["self", "numbers"]) (fun _ _ _ _ _ _ us hl=>by obtain⟨_,_,rfl⟩:=Zc6 us hl;exact rfl)⟩,⟨_,_,ZE (st:=ZU) l40 c40 k40,⟨a40,i40,k40⟩,(ZE (st:=ZU) l40 c40 k40).binds (ps:=["self", "number"]) (fun _ _ _ _ _ _ us hl=>by obtain⟨_,_,rfl⟩:=Zc6 us hl;exact rfl)⟩,⟨_,_,ZE (st:=ZI) l41 c41 k41,⟨a41,i41,k41⟩,(ZE (st:=ZI) l41 c41 k41).binds (ps:=["self", "meeting", "comer"]) (fun _ _ _ _ _ _ us hl=>by obtain⟨_,_,_,rfl⟩:=Zhx us hl;exact rfl)⟩,⟨_,_,ZE (st:=Zas) l42 c42 k42,⟨a42,i42,k42⟩,(ZE (st:=Zas) l42 c42 k42).binds (ps:=["self", "one", "other", "far"]) (fun _ _ _ _ _ _ us hl=>by obtain⟨_,_,_,_,rfl⟩:=Zm4 us hl;exact rfl)⟩,⟨pgRow,hdRow,poRow,saRow⟩,nARow_all_keys,nARow_fars,nARow_gone,⟨pgMerge,hdMerge,poMerge,saMerge⟩,nAMerge_best,nAMerge_likened,nAMerge_looked,nAMerge_next_number,nAMerge_rows,nAMerge_stays,⟨_,Qah X G giMOST_ROWS⟩⟩
 exact⟨PySem.W.fnOf "law" "law" (Zn Zcf) (Zm Zcf) (Zd Zcf) .none kV26 dc26 pm26 an26 cd26 ct26,fun s v=>.of_eq rfl,fun base _ _=>Zl5 (ZE (st:=Zcf) l26 c26 k26) T⟩
theorem walk{l:PySem.W.OpenLaw}{q:Program}{loose:List Str}{XP:(Str→Option Value)→Heap→Prop}{YP:World→Heap→Prop}{d:DefRec}{K:Params→PySem.W.Frag}(hn:l.most=some 63)(hdf:d.params.defaults=[])
  (hY:∀ (w:World) (h:Heap),YP w h→(K w.params).In h)
  (F:∀ (w:World) (mg:Str→Option Value) (fa:Addr) (h:Heap),(K w.params).In h→h.Ns mainGlobals mg→mg d.name=some (.ref fa) →
   ∃fd:FuncData,(∀ (s:Shared) (u:Value),BindsTo s fd ⟨[u],[]⟩ [("_law_script",u)])∧∀base:Heap,(K w.params).In base→base.Ns mainGlobals mg→Zc5 l.prog w (K w.params) mg base CX0 18 fa fd ["_law_script"] (Zh1 (K w.params))) :
  PySem.W.WalkO q loose XP YP l.row.toRowW d [] (fun f vs=>PySem.call f vs) :=
 L2.walk_of (n:=63) (k:=18) (x := "_law_script") (CX:=fun _=>CX0) (sp:=fun w=>Zh1 (K w.params)) hn (by decide) hdf ⟨rfl,by decide,by decide,rfl⟩ hY F (fun _ _ a ns hl _ hS=>⟨a,ns,rfl,hS,hl,fun _=>rfl⟩) fun _ _ _ _ _ z=>z
end My
open PySem PySem.W PyProof.Rows
namespace PySem.W.Fast
def tw1419156755663418463:=0
def tw6224042723640184870:=0
def tw13514537422613015761:=0
def tw9564932526417658472:=0
def tw6586681427865805672:=0
def tw4958966769055561800:=0
def tw734788611806845178:=0
def tw8434309420357426661:=0
def tw16734660090552922949:=0
def tw396674962274434281:=0
def tw516629182483309115:=0
def tw11268578148593220283:=0
def tw280733307760504925:=0
def tw17997765562320899997:=0
def tw11644746528562492612:=0
def tw1115753626901211809:=0
def tw5723546842928972472:=0
def tw3662154059066364152:=0
def tw18162523627802070072:=0
def tw15377784513964692892:=0
def tw4699731392559958428:=0
def tw14055380349348373340:=0
def tw10841615788738370648:=0
def tw18227659389901899847:=0
def tw4065127145871508528:=0
def tw11809248848449618305:=0
def tw5433731739647196283:=0
def tw15448965414520568976:=0
def tw9716834697250891357:=0
def tw12548804366339109288:=0
def tw5442330460721399976:=0
def tw12697183842625198703:=0
def tw3898304338588244027:=0
def tw14714065259544125080:=0
def tw932563068362389521:=0
def tw7625070137132052957:=0
def tw7667559404777056721:=0
def tw9219764222319798618:=0
def tw1435088897095630204:=0
def tw2856688224932596897:=0
def tw11303479596872920337:=0
def tw6692221263924197814:=0
def tw1064421383165741923:=0
def tw7232188270357158019:=0
def tw9173435063455940063:=0
def tw4031873290742967926:=0
def tw558333365781969521:=0
def tw13171382230438026355:=0
def tw9849380444160428250:=0
def tw12427761166277993213:=0
def tw8787472440378757613:=0
def tw5394616962655448385:=0
def tw8530328856758892152:=0
def tw8371691815465093958:=0
def tw690667951884398573:=0
def tw18217529382169702620:=0
def tw1670572871963330617:=0
def tw448081120181993820:=0
def tw6081987809722824292:=0
def tw17409858183925206887:=0
def tw379958625759342673:=0
def tw11041715274058561352:=0
def tw16428871652415198889:=0
def tw4993480251735024257:=0
def tw15033471641780040512:=0
def tw17903804769995203068:=0
def tw2603279028643031694:=0
def tw12971924987686751370:=0
def tw11809164679493598337:=0
def tw11677660919885853176:=0
def tw13395454967954460914:=0
def tw8128365774152883782:=0
def tw4524712297999186354:=0
def tw8187816200720714242:=0
def tw1408039965714271037:=0
def tw4356983350779369721:=0
def tw7917489413803691505:=0
def tw8136411003842396899:=0
def tw12402062791356400455:=0
def tw6915291913671274145:=0
def tw7070020759676313064:=0
def tw62740543064403505:=0
def tw4670049157999947209:=0
def tw4721974382357322775:=0
def tw4124149148300479217:=0
def tw5570274507181300366:=0
def tw16030072623803285562:=0
def tw10940049049025347140:=0
def tw5002992112843106048:=0
def tw16530315289315356065:=0
def tw2406593559653629144:=0
def tw5681005435047593920:=0
def tw5066487220292892470:=0
def tw12541359173681573240:=0
def tw12209841501068029689:=0
def tw10405263673026249140:=0
def tw14212259902649444750:=0
def tw9477124320708508897:=0
def tw7008905684625215334:=0
def tw3965663934630119084:=0
def tw7823499230229431620:=0
def tw4411468531409268071:=0
def tw16580980582036834292:=0
def tw17653975021499451368:=0
def tw16133804952010963910:=0
def tw18261806849830417281:=0
def tw7800424378886862193:=0
def tw17386416817959839445:=0
def tw12773380690079707762:=0
def tw15894576064038079682:=0
def tw18372760420476812022:=0
def tw10598891371210145164:=0
def tw10927797250091234832:=0
def tw1191744222310371800:=0
def tw7537920822684586128:=0
def tw275870869177986903:=0
def tw1690878695047843516:=0
def tw13188671185855557388:=0
def tw9981879414315007416:=0
def tw3793278817503807881:=0
def tw6456382274250754917:=0
def tw6593201788158875197:=0
def tw6854768450429727505:=0
def tw12744691745192699922:=0
def tw13407134966352369110:=0
def tw14666244849159336702:=0
def tw13869673100648460383:=0
def tw205119261767561414:=0
def tw646980228099267216:=0
def tw5548028378934274552:=0
def tw4584055724050248330:=0
def tw6370500757924645512:=0
def tw4178675908676538685:=0
def tw2890352262055552815:=0
def tw11930587578532314784:=0
def tw12793118732260051037:=0
def tw1139985446399085855:=0
def tw14938833918500355945:=0
def tw8489731419582820683:=0
def tw6085866560899562080:=0
def tw8413454792007519358:=0
def tw5742232852976667325:=0
def tw6972259964314662115:=0
def tw10139700944210433601:=0
def tw14980540668040198711:=0
def tw17562993231035167612:=0
def tw413143468214561671:=0
def tw1640293854837876622:=0
def tw14947102828627111694:=0
def tw6395127019904044147:=0
def tw13031214833890161111:=0
def tw2907836410736289517:=0
def tw11847367168622629863:=0
def tw2018882342784169666:=0
def tw13552011969797140666:=0
def tw5124168205677277200:=0
def tw7224608694191385127:=0
def tw9266269272211241824:=0
def tw15941048707013869890:=0
def tw4552069958624015978:=0
def tw3378374142780068840:=0
def tw2813447026409928599:=0
def tw3602104033962017457:=0
def tw8535134103326278688:=0
def tw4016727902109901214:=0
def tw4606602982984245809:=0
def tw5320253340794006865:=0
def tw16325443335324827560:=0
def tw3664626023354848220:=0
def tw17559299500394946437:=0
def tw15580803311448189407:=0
def tw16810151341810438569:=0
def tw8946031417030025762:=0
def tw13259011685733255704:=0
def tw16175307931688974961:=0
def tw13892083239328620313:=0
def tw6063602090480425391:=0
def tw7138110098923445802:=0
def tw2250304325016945113:=0
def tw2220602702872554147:=0
def tw10744248083875409424:=0
def tw4343476452140718206:=0
def tw4853998243857921412:=0
def tw14842667180015107317:=0
def tw4142142595081900782:=0
def tw13387802043747640394:=0
def tw10716778646387806492:=0
def tw13442676257026129211:=0
def tw9434855981347082777:=0
def tw1309307451747786677:=0
def tw4780527071429857080:=0
def tw3227611896830621416:=0
def tw14358949954733680241:=0
def tw7380143097421854563:=0
def tw6709981806585318318:=0
def tw4172741810259407489:=0
def tw10728472744762310967:=0
def tw9796082618594944387:=0
def tw9016228631313792036:=0
def tw1444697590436669296:=0
def tw10572280810339619726:=0
def tw7034469074955768925:=0
def tw4267355163038338031:=0
def tw3019498175420427332:=0
def tw5700002378985312228:=0
def tw14136065943092548826:=0
def tw8771244597689972159:=0
def tw9078537699404530620:=0
def tw12781399125719977351:=0
def tw12801183419113053002:=0
def tw3194753789954993724:=0
def tw3619360820672404889:=0
def tw17487922330546667094:=0
def tw12375644132065237487:=0
def tw9392006708620664137:=0
def tw961637708715064370:=0
def tw633174307249816412:=0
def tw16280478091791198846:=0
def tw2867231753939121205:=0
def tw4215896373741327341:=0
def tw5432257894282501899:=0
def tw10935142324213686738:=0
def tw4504654854661113617:=0
def tw4238767278393225459:=0
def tw11621044013441511592:=0
def tw2050381682254103328:=0
def tw1835679414770340414:=0
def tw9676012043736512524:=0
def tw1429347596402091784:=0
def tw15073715335442928287:=0
def tw1833488904994833437:=0
def tw6855349770900326210:=0
def tw1233432995029354229:=0
def tw8246483810777297280:=0
def tw14025083919993717575:=0
def tw10824927067012062348:=0
def tw14436015530066769965:=0
def tw15568120503428811035:=0
def tw1260340805086329545:=0
def tw5806238190447234208:=0
def tw644024007716262921:=0
def tw13461938308971618073:=0
def tw7275100300695416456:=0
def tw4403953497760080395:=0
def tw12429852195540111894:=0
def tw1435317449384996771:=0
def tw2079133492509119189:=0
def tw14031070233870456645:=0
def tw8374401375403253449:=0
def tw5148119197592716195:=0
def tw5916686136690262828:=0
def tw18207219587493866834:=0
def tw11224253688596329807:=0
def tw557556338416523492:=0
def tw11029269943297030862:=0
def tw4833425092911242217:=0
def tw4833362994704907609:=0
def tw13724723493027081175:=0
def tw12231058806207848002:=0
def tw8348658012179255962:=0
def tw7940338337758913095:=0
def tw5997619379715411572:=0
def tw16685141885202405842:=0
def tw1340114698590321439:=0
def tw13692082841616949725:=0
def tw5428450238969141943:=0
def tw8726071795672812181:=0
def tw13208565854006017615:=0
def tw13232311249776992023:=0
def tw1758364018653539368:=0
def tw9205623842112744350:=0
def tw4256370636454041329:=0
def tw14614865919908775576:=0
def tw6592643773877897347:=0
def tw4357033218537610584:=0
def tw12879403712838749040:=0
def tw3381070746671766902:=0
def tw17584306582690719431:=0
def tw4632531505646471584:=0
def tw9334474722442284143:=0
def tw3882930855542324827:=0
def tw11975207644814043574:=0
def tw803395124467957002:=0
def tw15846066967067810157:=0
def tw6689815027174182999:=0
def tw16729769663626642199:=0
def tw17868986102692506528:=0
def tw7261149038173671131:=0
def tw6000345760926669059:=0
def tw17176141476754311709:=0
def tw7411222431031533203:=0
def tw1033015284094797977:=0
def tw6477273795461315781:=0
def tw17434033758235180760:=0
def tw290926225793305418:=0
def tw1922509940796082768:=0
def tw7108053652722213213:=0
def tw17407039996375446428:=0
def tw11375449018425833468:=0
def tw18021284826056863068:=0
def tw3915229544338757786:=0
def tw9985455587957245180:=0
def tw5124164033545141911:=0
def tw13433835561533735065:=0
def tw6783041600590029810:=0
def tw110206471054660672:=0
def tw8416409760249133204:=0
def tw63062995846553426:=0
def tw2240953963552274022:=0
def tw15790398185820172401:=0
def tw4378147739979464382:=0
def tw3665422051860510173:=0
def tw13799466748504042095:=0
def tw14974032174319813000:=0
def tw18247740364812047815:=0
def tw48461676343472009:=0
def tw6562402480674621408:=0
def tw413785334678498475:=0
def tw10077391242708295383:=0
def tw4738959842264599981:=0
def tw3042588200715280854:=0
def tw11918555329776964240:=0
def tw7963082361726265837:=0
def tw3216424654105293872:=0
def tw12581158243268161448:=0
def tw17816558254857284060:=0
def tw7770662337379050647:=0
def tw2626760249151676089:=0
def tw19649941669681455:=0
def tw16747963219003410665:=0
def tw9874255264085574644:=0
def tw15311278012052932762:=0
def tw15282327987301749548:=0
def tw12829033043127928975:=0
def tw2111430937282314700:=0
def tw3287400804233615718:=0
def tw6763544839652997234:=0
def tw15718612155660635826:=0
def tw12235060081417407330:=0
def tw7203443621501532778:=0
def tw12573685122311829056:=0
def tw17786531742259707463:=0
def tw12462529520698930448:=0
def tw6080253611554885014:=0
def tw8867983398858947186:=0
def tw13762841923384457092:=0
def tw10662603219713549468:=0
def tw7817351489105950617:=0
def tw17385127251957630723:=0
def tw15140226967079050224:=0
def tw9117522027653881090:=0
def tw6489958868065860649:=0
def tw13811702305187213053:=0
def tw11934051701162532387:=0
def tw7290606150642831315:=0
def tw13601916236538218023:=0
def tw3119249222217347129:=0
def tw11871249227769169501:=0
def tw14726874688749518323:=0
def tw15748534531442051670:=0
def tw4537856433877059086:=0
def tw8836369433001938210:=0
def tw1989139978832788364:=0
def tw7124155830642843741:=0
def tw253016864146335951:=0
def tw6455739703879995770:=0
def tw9876461861119511394:=0
def tw16931278710309324241:=0
def tw13480112979479037292:=0
def tw16023146455238237014:=0
def tw16018122705648883025:=0
def tw4003214008772362196:=0
def tw17058532634144163741:=0
def tw5234631318532064802:=0
def tw810274246621231703:=0
def tw11164221302350089267:=0
def tw4154912756757976267:=0
def tw657320205455388729:=0
def tw9842256825897295633:=0
def tw3941868514914471665:=0
def tw17903958434444013402:=0
def tw11235801360986231766:=0
def tw8770223249757662720:=0
def tw1199593988997496939:=0
def tw10282576779246729613:=0
def tw16633593031548135292:=0
def tw2135848385657159443:=0
def tw3844951313870815252:=0
def tw2773928850568247506:=0
def tw6241737006132060327:=0
def tw7491581522836741592:=0
def tw9220145338881156933:=0
def tw617169346385345495:=0
def tw447735258261002386:=0
def tw10808508227737519930:=0
def tw14885999311185994002:=0
def tw7941562951251792164:=0
def tw13599454528836552955:=0
def tw3205297226177232812:=0
def tw15241066742636055436:=0
def tw7444079404263176745:=0
def tw1103400566638017192:=0
def tw16615537397496043330:=0
def tw893272637000819052:=0
def tw6783933776594472471:=0
def tw8158961912520670177:=0
def tw5052905608173913116:=0
def tw16493403485327395538:=0
def tw12758528309847091732:=0
def tw2320914810478738830:=0
def tw15248597068791024790:=0
def tw5487591103212317439:=0
def tw13228822836843893583:=0
def tw4710040957595755447:=0
def tw1669706017197792724:=0
def tw2891090701147625425:=0
def tw18318559346913141419:=0
def tw9622360489214012978:=0
def tw17762412720141688000:=0
def tw13921956816324412277:=0
def tw10117040346134435652:=0
def tw16928450785885895827:=0
def tw17803973939692421040:=0
def tw5790454129324902372:=0
def tw6526859357472138520:=0
def tw10656010405841854446:=0
def tw1645057756438895813:=0
def tw11976846969115666702:=0
def tw4918722690548335836:=0
def tw5187490467820587722:=0
def tw9930404723445414149:=0
def tw10705374615747658023:=0
def tw17426849104900028204:=0
def tw11448684065770307278:=0
def tw15718136686384916757:=0
def tw9149603788463959032:=0
def tw9774854495535844814:=0
def tw10556095879147454768:=0
def tw3975800684405015627:=0
def tw9257488105159507946:=0
def tw6155670280027294228:=0
def tw890137865363933061:=0
def tw8105968048297948574:=0
def tw1921617466107673488:=0
def tw10394488644104718486:=0
def tw2239998957256213878:=0
def tw4833298626935004265:=0
def tw4191018044523953376:=0
def tw8365127853925552243:=0
def tw3359454843575861755:=0
def tw10751138493160885551:=0
def tw4369575841371148978:=0
def tw16554191057854250505:=0
def tw14616726100180757620:=0
def tw17636094388224096462:=0
def tw13887984910563505210:=0
def tw1759651601875064203:=0
def tw3971448689999307067:=0
def tw13460222396765193911:=0
def tw14383709355528029251:=0
def tw10093000460921902335:=0
def tw11084402641153737515:=0
def tw4154778396129466162:=0
end PySem.W.Fast
set_option maxRecDepth 100000 in
set_option maxHeartbeats 0 in
theorem PySem.Challenge.cw_mergetree_k66_whole_letters_put_ahead_of_holds : PySem.Challenge.rw_mergetree_k66_whole_letters_put_ahead_of.Holds := by
 w_on;o_law;k_head;(case hw=>w_witness2)
 k_fill
 refine My.walk (l:=PySem.Challenge.rw_mergetree_k66_whole_letters_put_ahead_of) rfl rfl (fun w h Y=>PySem.W.kIn_of Y) ?F
 case F =>
  intro w mg fa h KX G hmg
  refine' My.all_mk KX G hmg ?aCRow ?pgRow ?hdRow ?poRow ?saRow ?mkRow ?kcRow ?nARow_all_keys ?nARow_fars ?nARow_gone ?aCMerge ?pgMerge ?hdMerge ?poMerge ?saMerge ?mkMerge ?kcMerge ?nAMerge_best ?nAMerge_likened ?nAMerge_looked ?nAMerge_next_number ?nAMerge_rows ?nAMerge_stays ?a0 ?l0 ?c0 ?k0 ?a1 ?l1 ?c1 ?k1 ?a2 ?l2 ?c2 ?k2 ?a3 ?l3 ?c3 ?k3 ?a4 ?l4 ?c4 ?k4 ?a5 ?l5 ?c5 ?k5 ?a6 ?l6 ?c6 ?k6 ?a7 ?l7 ?c7 ?k7 ?a8 ?l8 ?c8 ?k8 ?a9 ?l9 ?c9 ?k9 ?a10 ?l10 ?c10 ?k10 ?a11 ?l11 ?c11 ?k11 ?a12 ?l12 ?c12 ?k12 ?a13 ?l13 ?c13 ?k13 ?a14 ?l14 ?c14 ?k14 ?a15 ?l15 ?c15 ?k15 ?a16 ?l16 ?c16 ?k16 ?a17 ?l17 ?c17 ?k17 ?a18 ?l18 ?c18 ?k18 ?a19 ?l19 ?c19 ?k19 ?a20 ?l20 ?c20 ?k20 ?a21 ?l21 ?c21 ?k21 ?a22 ?l22 ?c22 ?k22 ?a23 ?l23 ?c23 ?k23 ?a24 ?l24 ?c24 ?k24 ?a25 ?l25 ?c25 ?k25 ?a26 ?l26 ?c26 ?k26 ?a27 ?i27 ?l27 ?c27 ?k27 ?a28 ?i28 ?l28 ?c28 ?k28 ?a29 ?i29 ?l29 ?c29 ?k29 ?a30 ?i30 ?l30 ?c30 ?k30 ?a31 ?i31 ?l31 ?c31 ?k31 ?a32 ?i32 ?l32 ?c32 ?k32 ?a33 ?i33 ?l33 ?c33 ?k33 ?a34 ?i34 ?l34 ?c34 ?k34 ?a35 ?i35 ?l35 ?c35 ?k35 ?a36 ?i36 ?l36 ?c36 ?k36 ?a37 ?i37 ?l37 ?c37 ?k37 ?a38 ?i38 ?l38 ?c38 ?k38 ?a39 ?i39 ?l39 ?c39 ?k39 ?a40 ?i40 ?l40 ?c40 ?k40 ?a41 ?i41 ?l41 ?c41 ?k41 ?a42 ?i42 ?l42 ?c42 ?k42 ?giMOST_ROWS ?z0 ?z1 ?z2 ?z3 ?z4 ?z5 ?z6 ?z7 ?z8 ?z9
  (case aCRow=>k_is)
  (case pgRow=>k_is)
  (case hdRow=>k_is)
  (case poRow=>k_is)
  (case saRow=>k_is)
  (case mkRow=>k_is)
  (case kcRow=>k_is)
  (case nARow_all_keys=>k_is)
  (case nARow_fars=>k_is)
  (case nARow_gone=>k_is)
  (case aCMerge=>k_is)
  (case pgMerge=>k_is)
  (case hdMerge=>k_is)
  (case poMerge=>k_is)
  (case saMerge=>k_is)
  (case mkMerge=>k_is)
  (case kcMerge=>k_is)
  (case nAMerge_best=>k_is)
  (case nAMerge_likened=>k_is)
  (case nAMerge_looked=>k_is)
  (case nAMerge_next_number=>k_is)
  (case nAMerge_rows=>k_is)
  (case nAMerge_stays=>k_is)
  (case a0|l0|c0|k0=>k_is)
  (case a1|l1|c1|k1=>k_is)
  (case a2|l2|c2|k2=>k_is)
  (case a3|l3|c3|k3=>k_is)
  (case a4|l4|c4|k4=>k_is)
  (case a5|l5|c5|k5=>k_is)
  (case a6|l6|c6|k6=>k_is)
  (case a7|l7|c7|k7=>k_is)
  (case a8|l8|c8|k8=>k_is)
  (case a9|l9|c9|k9=>k_is)
  (case a10|l10|c10|k10=>k_is)
  (case a11|l11|c11|k11=>k_is)
  (case a12|l12|c12|k12=>k_is)
  (case a13|l13|c13|k13=>k_is)
  (case a14|l14|c14|k14=>k_is)
  (case a15|l15|c15|k15=>k_is)
  (case a16|l16|c16|k16=>k_is)
  (case a17|l17|c17|k17=>k_is)
  (case a18|l18|c18|k18=>k_is)
  (case a19|l19|c19|k19=>k_is)
  (case a20|l20|c20|k20=>k_is)
  (case a21|l21|c21|k21=>k_is)
  (case a22|l22|c22|k22=>k_is)
  (case a23|l23|c23|k23=>k_is)
  (case a24|l24|c24|k24=>k_is)
  (case a25|l25|c25|k25=>k_is)
  (case a26|l26|c26|k26=>k_is)
  (case a27|i27|l27|c27|k27=>k_is)
  (case a28|i28|l28|c28|k28=>k_is)
  (case a29|i29|l29|c29|k29=>k_is)
  (case a30|i30|l30|c30|k30=>k_is)
  (case a31|i31|l31|c31|k31=>k_is)
  (case a32|i32|l32|c32|k32=>k_is)
  (case a33|i33|l33|c33|k33=>k_is)
  (case a34|i34|l34|c34|k34=>k_is)
  (case a35|i35|l35|c35|k35=>k_is)
  (case a36|i36|l36|c36|k36=>k_is)
  (case a37|i37|l37|c37|k37=>k_is)
  (case a38|i38|l38|c38|k38=>k_is)
  (case a39|i39|l39|c39|k39=>k_is)
  (case a40|i40|l40|c40|k40=>k_is)
  (case a41|i41|l41|c41|k41=>k_is)
  (case a42|i42|l42|c42|k42=>k_is)
  (case giMOST_ROWS=>k_is)
  (case z0=>k_is)
  (case z1=>k_is)
  (case z2=>k_is)
  (case z3=>k_is)
  (case z4=>k_is)
  (case z5=>k_is)
  (case z6=>k_is)
  (case z7=>k_is)
  (case z8=>k_is)
  (case z9=>k_is)
