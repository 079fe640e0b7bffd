import PyProof.Rows.All
import Wide.All
import OpenK.AllK
import Wide.FinOn
import Lean
import PyProof.EqAt
import PyProof.EqKinds
import PyProof.TupleCall
import PyProof.AttrMissHeap
import KE.KEqDict
import KE.KItemsList
import PyProof.WalksMore
import PyProof.TupleOfStr
import PyProof.ExcClass3
import PyProof.StationsW
import OpenK.KCall
import PyProof.RulesAs
import PyProof.Ns1
import PyProof.InstStoreFacts
import PyProof.ExcBaseAll.ValueError
import PyProof.ExcArgs
import KE.KIsAll
import PyProof.Rows.CountFlat
import PySem.Challenge.RW_mergetree_k17_rows_out_of_order
set_option maxHeartbeats 4000000
set_option maxRecDepth 100000
set_option Elab.async false
set_option linter.all false
local macro_rules|`(tactic|ac_rfl)=>`(tactic|decide +kernel)
abbrev Qa:=@List.getElem?_eq_getElem
abbrev Qb:=@List.length_map
abbrev Qc:=@PySem.Heap.get?_push_of_some
abbrev Qd:=@PySem.Heap.lt_size
abbrev Qe:=@Nat.le_refl
abbrev Qf:=@Nat.lt_of_lt_of_le
abbrev Qg:=@List.mem_append
abbrev Qh:=@List.map_append
abbrev Qi:=@Bool.false_ne_true
abbrev Qj:=@List.mem_singleton
abbrev Qk:=@List.getElem?_eq_some_iff
abbrev Ql:=@Option.some.inj
abbrev Qm:=@List.length_append
abbrev Qn:=@List.mem_append_right
abbrev Qo:=@List.mem_cons_of_mem
abbrev Qp:=@Nat.ne_of_lt
abbrev Qq:=@Nat.le_trans
abbrev Qr:=@PySem.boot_len
abbrev Qs:=@List.mem_of_getElem?
abbrev Qt:=@List.getElem?_map
abbrev Qu:=@Nat.zero_le
abbrev Qv:=@List.contains_cons
abbrev Qw:=@List.size_toArray
abbrev Qx:=@List.map_cons
abbrev Qy:=@PySem.Heap.get?_push_size
abbrev Qz:=@List.mem_append_left
abbrev QA:=@PySem.W.mg_none_of
abbrev QB:=@List.length_cons
abbrev QC:=@List.length_take
abbrev QD:=@PySem.Heap.get?_update_self
abbrev QE:=@List.mem_cons
abbrev QF:=@List.mem_map_of_mem
abbrev QG:=@PySem.Heap.get?_update_other
abbrev QH:=@PySem.W.mg_of
abbrev QI:=@PySem.W.looks_findIn
abbrev QJ:=@PySem.mem_of_lookup
abbrev QK:=@List.getElem?_set_self
abbrev QL:=@PyProof.Rows.callWith_type1
abbrev QM:=@List.mem_map
abbrev QN:=@List.mem_cons_self
abbrev QO:=@PySem.W.callWith_K
abbrev QP:=@List.getElem?_append_right
abbrev QR:=@Array.getElem?_eq_some_iff
abbrev QS:=@List.getElem?_append_left
abbrev QT:=@List.getLastD_eq_getLast?
abbrev QU:=@List.append_nil
abbrev QV:=@Nat.le_of_lt
abbrev QW:=@List.map_map
abbrev QX:=@List.length_drop
abbrev QY:=@PySem.F.plainAttrs_list
abbrev QZ:=@Nat.le_succ
abbrev Q0:=@List.take_of_length_le
abbrev Q1:=@List.find?_cons_of_neg
abbrev Q2:=@Nat.lt_irrefl
abbrev Q3:=@List.getElem?_set_ne
abbrev Q4:=@Nat.lt_succ_self
abbrev Q5:=@List.lookup_cons
abbrev Q6:=@List.getElem_mem
abbrev Q7:=@PySem.Heap.get?_update_ne
abbrev Q8:=@PySem.F.slot_list_append
abbrev Q9:=@PySem.F.type_list_append
abbrev Qaa:=@List.getLast?_eq_getLast
abbrev Qab:=@List.nodup_cons
abbrev Qac:=@Int.emod_lt_of_pos
abbrev Qad:=@Nat.ne_of_gt
abbrev Qae:=@PySem.Heap.size_push
abbrev Qaf:=@Bool.or_true
abbrev Qai:=@PySem.W.any_some
namespace L2
open PySem PySem.Spec PyProof.Rows
abbrev Key:=Sum Int Str
def ZcY:Key→Value→Bool
 | .inl k,v=>Value.isInt k v
 | .inr x,v=>Value.isStrOf x v
def ZjR(w:World):Key→Int
 | .inl k=>hashInt k
 | .inr x=>hashStr w x
theorem ZN:∀ {k:Key} {v:Value},ZcY k v=true→(∃i t,k=Sum.inl i∧v=Value.int i t)∨(∃x t,k=Sum.inr x∧v=Value.str x t)
 | .inl i,v,h=>by
  obtain⟨t,e⟩:=Value.isInt_shape (k:=i) (v:=v) h
  exact .inl ⟨i,t,rfl,e⟩
 | .inr x,v,h=>by
  obtain⟨t,e⟩:=Value.isStrOf_shape (x:=x) (v:=v) h
  exact .inr ⟨x,t,rfl,e⟩
theorem Zgo(i:Int)(t:Tok):ZcY (.inl i) (.int i t)=true:=by simp[ZcY,Value.isInt]
theorem Zgz(x:Str)(t:Tok):ZcY (.inr x) (.str x t)=true:=by simp[ZcY,Value.isStrOf]
theorem Zjs(a b:Int):decide ((Sum.inl a:Key)=Sum.inl b)=(a == b):=by
 by_cases e:a=b
 ·subst e;simp
 ·have h:¬ (Sum.inl a:Key)=Sum.inl b:=fun q=>e (Sum.inl.inj q)
  rw[decide_eq_false h]
  exact(beq_eq_false_iff_ne.mpr e).symm
theorem Zjf(a b:Str):decide ((Sum.inr a:Key)=Sum.inr b)=decide (a=b):=by
 by_cases e:a=b
 ·subst e;simp
 ·have h:¬ (Sum.inr a:Key)=Sum.inr b:=fun q=>e (Sum.inr.inj q)
  rw[decide_eq_false h,decide_eq_false e]
theorem Zjv(a:Int)(b:Str):decide ((Sum.inl a:Key)=Sum.inr b)=false:=decide_eq_false (fun q=>nomatch q)
theorem Zjn(a:Str)(b:Int):decide ((Sum.inr a:Key)=Sum.inl b)=false:=decide_eq_false (fun q=>nomatch q)
def ZX(prog:Program)(w:World):PySem.KeyKind prog w Key where
 is:=ZcY
 hash:=ZjR w
 inj:=fun v a b ha hb=>by
  rcases ZN ha with⟨i,t,rfl,rfl⟩|⟨x,t,rfl,rfl⟩
  ·rcases ZN hb with⟨j,u,rfl,e⟩|⟨y,u,rfl,e⟩
   ·injection e with e1 _;rw[e1]
   ·exact nomatch e
  ·rcases ZN hb with⟨j,u,rfl,e⟩|⟨y,u,rfl,e⟩
   ·exact nomatch e
   ·injection e with e1 _;rw[e1]
 byValue:=fun k v h=>by
  rcases ZN h with⟨i,t,rfl,rfl⟩|⟨x,t,rfl,rfl⟩<;>rfl
 pyHash:=fun hv h=>by
  rcases ZN hv with⟨i,t,rfl,rfl⟩|⟨x,t,rfl,rfl⟩
  ·exact wpAny_pyHash_int h
  ·exact wpAny_pyHash_str h
 eqBool:=fun hu hv h=>by
  rcases ZN hu with⟨i,t,rfl,rfl⟩|⟨x,t,rfl,rfl⟩
  ·rcases ZN hv with⟨j,u,rfl,rfl⟩|⟨y,u,rfl,rfl⟩
   ·rw[Zjs]at h;exact wpAny_eqBool_int h
   ·rw[Zjv]at h;exact SeqAt.EqAt.int_str i t y u _ _ _ _ h
  ·rcases ZN hv with⟨j,u,rfl,rfl⟩|⟨y,u,rfl,rfl⟩
   ·rw[Zjn]at h;exact SeqAt.EqAt.str_int x t j u _ _ _ _ h
   ·rw[Zjf]at h;exact wpAny_eqBool_str h
 «strs»:=fun k x t v h=>by
  rcases ZN h with⟨i,u,rfl,e⟩|⟨y,u,rfl,e⟩
  ·exact nomatch e
  ·injection e with e1 _
   subst e1
   cases v<;>rfl
theorem Zfr(prog:Program)(w:World)(k:Key)(v:Value):(ZX prog w).is k v=ZcY k v:=rfl
theorem ZeO(prog:Program)(w:World)(i:Int)(t:Tok):(ZX prog w).is (.inl i) (.int i t)=true:=Zgo i t
theorem Zez(prog:Program)(w:World)(x:Str)(t:Tok):(ZX prog w).is (.inr x) (.str x t)=true:=Zgz x t
inductive V where
 | non|bl (b:Bool)|int (i:Int)|str (x:Str)|byt (b:Array UInt8)|flt (b:UInt64)|ref (a:Addr)|ty (n:String)
 deriving DecidableEq
def ZA:V→Value→Prop
 | .non,u=>u=Value.none
 | .bl b,u=>u=Value.bool b
 | .int i,u=>∃t,u=Value.int i t
 | .str x,u=>∃t,u=Value.str x t
 | .byt b,u=>∃t,u=Value.bytes b t
 | .flt b,u=>∃t,u=Value.float b t
 | .ref a,u=>u=Value.ref a
 | .ty n,u=>u=Value.type n
abbrev Zv:List V→List Value→Prop:=Paired ZA
theorem Zv.length{xs:List V}{us:List Value}(r:Zv xs us):xs.length=us.length:=Paired.length r
theorem Zv.get:∀ {xs:List V} {us:List Value} {i:Nat} {x:V},Zv xs us→xs[i]? = some x→∃u,us[i]? = some u∧ZA x u
 | _,_,_,_,.nil,e=>by simp at e
 | _,_,0,_,.cons r _,e=>by simp at e;subst e;exact⟨_,rfl,r⟩
 | _,_,i+1,x,.cons _ t,e=>by
  obtain⟨u,h1,h2⟩:=Zv.get (i:=i) (x:=x) t (by simpa using e)
  exact⟨u,by simpa using h1,h2⟩
theorem Zv.set{x:V}{u:Value}(r:ZA x u):∀ {xs:List V} {us:List Value} (i:Nat),Zv xs us→Zv (xs.set i x) (us.set i u)
 | _,_,_,.nil=>.nil
 | _,_,0,.cons _ t=>.cons r t
 | _,_,i+1,.cons q t=>.cons q (Zv.set r i t)
theorem Zv.append:∀ {xs ys:List V} {us ws:List Value},Zv xs us→Zv ys ws→Zv (xs++ys) (us++ws)
 | _,_,_,_,.nil,s=>s
 | _,_,_,_,.cons r t,s=>.cons r (Zv.append t s)
theorem Zv.take:∀ {xs:List V} {us:List Value} (n:Nat),Zv xs us→Zv (xs.take n) (us.take n)
 | _,_,0,_=>.nil
 | _,_,_+1,.nil=>.nil
 | _,_,n+1,.cons r t=>.cons r (Zv.take n t)
theorem Zv.drop:∀ {xs:List V} {us:List Value} (n:Nat),Zv xs us→Zv (xs.drop n) (us.drop n)
 | _,_,0,r=>r
 | _,_,_+1,.nil=>.nil
 | _,_,n+1,.cons _ t=>Zv.drop n t
def Za0:Option V→Option Value→Prop
 | some v,some u=>ZA v u
 | none,none=>True
 | _,_=>False
def KV{κ:Type}:List (κ×V)→List (κ×Value)→Prop:=Paired fun (p:κ×V) (q:κ×Value)=>p.1=q.1∧ZA p.2 q.2
def kV:Key→V
 | .inl i=>.int i
 | .inr x=>.str x
inductive HO where
  | lst (xs:List V)
  | tup (xs:List V)
  | dK (kvs:List (Key×V))|dT (kvs:List (List Key×V))
  | set (S:Int→Bool) (n:Nat)
  | ins (C dx:Addr) (fs:List (Str×V))
  | own (x:Addr)
  | xd (fs:List (Str×V))
  | met (f x:Addr)
  | rng (lo hi:Int)
  | frz (o:Obj) (u:HO)
  | tbl (ps:Array Value)
  | ext (φ:Heap→Prop)
abbrev Hp:=Addr→Option HO
def upd(H:Hp)(a:Addr)(o:HO):Hp:=fun b=>if b=a then some o else H b
theorem Ze{H:Hp}{a:Addr}{o:HO}:upd H a o a=some o:=by unfold upd;rw[if_pos rfl]
theorem Zc{H:Hp}{a b:Addr}{o:HO}(h:b≠a):upd H a o b=H b:=by unfold upd;rw[if_neg h]
theorem Zid{H:Hp}{a:Addr}{o u:HO}:upd (upd H a o) a u=upd H a u:=by
 funext b;unfold upd;split<;>rfl
theorem Zhl{H:Hp}{a b:Addr}{o u:HO}(h:H a=some o)(h':H b=some u)(d:o≠u):a≠b:=by
 intro e;subst e;rw[h]at h';exact d (Ql h')
theorem Zb{H:Hp}{a b:Addr}{o:HO}(h:H a=some o)(h':H b=none):a≠b:=by
 intro e;subst e;rw[h]at h';cases h'
section
variable (P:Program) (w:World)
def Z6(H:Hp)(h:Heap)(a:Addr):HO→Prop
 | .lst xs=>xs.length≤sizeLine∧∃ (its:List Value) (n:Nat),Zv xs its∧h.get? a=some { cls:=.type "list",data:=.seq its.toArray n }
 | .tup xs=>xs.length≤sizeLine∧∃its:List Value,Zv xs its∧IsTup h a its.toArray
 | .dK kvs=>kvs.length≤sizeLine∧(a == sysModules)=false∧∃vs,KV kvs vs∧h.DictOf (ZX P w) a vs
 | .dT kvs=>kvs.length≤sizeLine∧(a == sysModules)=false∧∃xs:List (List Key×Addr×Value),
   Paired (fun (p:List Key×V) (q:List Key×Addr×Value)=>p.1=q.1∧H q.2.1=some (.tup (p.1.map kV))∧ZA p.2 q.2.2) kvs xs ∧
   ∃o es ep,h.get? a=some o∧o.ExactDict∧o.data=.dict es ep∧es.toList=xs.map (entryOfKey (tupleKind (ZX P w)))∧(xs.map (·.1)).Nodup
 | .set S n=>h.SetOf (intKind P w) a S n
 | .ins C dx fs=>H dx=some (.own a)∧fs.length≤1000∧dx≠a∧h.get? a=some (PySem.W.instObj C dx) ∧
   ∃mA,h.Ns1 dx mA∧(∀f,Za0 (fs.lookup f) (mA f))∧PySem.Within mA (fs.map (·.1))
 | .own _=>∃o,h.get? a=some o
 | .xd fs=>∃mA,h.Ns1 a mA∧∀f,Za0 (fs.lookup f) (mA f)
 | .rng lo hi=>∃t u v,h.get? a=some { cls:=.type "range",data:=.fields #[.int lo t,.int hi u,.int 1 v] }
 | .frz o u=>h.get? a=some o∧Z6 H h a u
 | .tbl ps=>h.get? a=some { cls:=.none,data:=.fields ps }
 | .met f x=>h.get? a=some (PySem.W.methodObj (.ref f) (.ref x))
 | .ext φ=>φ h∧(∃o,h.get? a=some o)∧∀h1 h2:Heap,φ h1→(∀o,h1.get? a=some o→h2.get? a=some o)→φ h2
def HOk(H:Hp)(h:Heap):Prop:=∀a o,H a=some o→Z6 P w H h a o
end
section
variable {P:Program} {w:World} {H H':Hp} {h h':Heap} {a:Addr} {o:HO}
theorem Z6.lt(x:Z6 P w H h a o):a<h.objs.size:=by
 cases o with
 | lst xs=>obtain⟨_,_,_,_,e⟩:=x;exact Qd e
 | tup xs=>obtain⟨_,_,_,p⟩:=x;exact p.lt
 | dK kvs=>obtain⟨_,_,_,_,o,_,_,e,_⟩:=x;exact Qd e
 | dT kvs=>obtain⟨_,_,_,_,o,_,_,e,_⟩:=x;exact Qd e
 | set S n=>obtain⟨o,_,_,_,e,_⟩:=x;exact Qd e
 | ins C dx fs=>obtain⟨_,_,_,e,_⟩:=x;exact Qd e
 | own y=>obtain⟨_,e⟩:=x;exact Qd e
 | xd fs=>obtain⟨_,⟨_,_,_,e,_⟩,_⟩:=x;exact Qd e
 | rng lo hi=>obtain⟨_,_,_,e⟩:=x;exact Qd e
 | frz ob u=>obtain⟨e,_⟩:=x;exact Qd e
 | tbl ps=>exact Qd (show h.get? a=some _ from x)
 | met f y=>exact Qd (show h.get? a=some _ from x)
 | ext φ=>obtain⟨_,⟨_,e⟩,_⟩:=x;exact Qd e
theorem Paired.mapP{α β:Type}{F G:α→β→Prop}:∀ {l₁:List α} {l₂:List β},Paired F l₁ l₂→(∀a b,F a b→G a b)→Paired G l₁ l₂
 | _,_,.nil,_=>.nil
 | _,_,.cons r t,f=>.cons (f _ _ r) (Paired.mapP t f)
theorem Z6.stay(x:Z6 P w H h a o)(k:∀b u,(b=a∨H b=some (.own a))→h.get? b=some u→h'.get? b=some u)
  (ho:∀b,H b=some (.own a)→H' b=some (.own a)) (ht:∀b xs,H b=some (.tup xs)→H' b=some (.tup xs)):Z6 P w H' h' a o:=by
 induction o with
 | lst xs=>obtain⟨z,its,n,r,e⟩:=x;exact⟨z,its,n,r,k _ _ (.inl rfl) e⟩
 | tup xs=>obtain⟨z,its,r,ob,e,c⟩:=x;exact⟨z,its,r,ob,k _ _ (.inl rfl) e,c⟩
 | dK kvs=>obtain⟨z,y,vs,r,ob,es,ep,e,c⟩:=x;exact⟨z,y,vs,r,ob,es,ep,k _ _ (.inl rfl) e,c⟩
 | dT kvs =>
  obtain⟨z,y,xs,r,ob,es,ep,e,c⟩:=x
  exact⟨z,y,xs,Paired.mapP r fun p q z=>⟨z.1,ht _ _ z.2.1,z.2.2⟩,ob,es,ep,k _ _ (.inl rfl) e,c⟩
 | set S n=>obtain⟨ob,es,ep,t,e,c⟩:=x;exact⟨ob,es,ep,t,k _ _ (.inl rfl) e,c⟩
 | ins C dx fs =>
  obtain⟨d,z,ne,e,mA,⟨od,es,ep,e2,c⟩,r⟩:=x
  exact⟨ho _ d,z,ne,k _ _ (.inl rfl) e,mA,⟨od,es,ep,k _ _ (.inr d) e2,c⟩,r⟩
 | own y=>obtain⟨ob,e⟩:=x;exact⟨ob,k _ _ (.inl rfl) e⟩
 | xd fs=>obtain⟨mA,⟨od,es,ep,e,c⟩,r⟩:=x;exact⟨mA,⟨od,es,ep,k _ _ (.inl rfl) e,c⟩,r⟩
 | rng lo hi=>obtain⟨t,u,v,e⟩:=x;exact⟨t,u,v,k _ _ (.inl rfl) e⟩
 | frz ob u ih=>obtain⟨e,q⟩:=x;exact⟨k _ _ (.inl rfl) e,ih q⟩
 | tbl ps =>
  have e:h.get? a=some { cls:=.none,data:=.fields ps }:=x
  show h'.get? a=some { cls:=.none,data:=.fields ps }
  exact k a _ (.inl rfl) e
 | met f y =>
  have e:h.get? a=some (PySem.W.methodObj (.ref f) (.ref y)):=x
  show h'.get? a=some (PySem.W.methodObj (.ref f) (.ref y))
  exact k a _ (.inl rfl) e
 | ext φ=>obtain⟨p,⟨o,e⟩,st⟩:=x;exact⟨st _ _ p fun o q=>k _ _ (.inl rfl) q,⟨o,k _ _ (.inl rfl) e⟩,st⟩
theorem HOk.lt(x:HOk P w H h)(e:H a=some o):a<h.objs.size:=(x a o e).lt
theorem HOk.fresh(x:HOk P w H h)(e:h.objs.size≤a):H a=none:=by
 cases q:H a with
 | none=>rfl
 | some u=>exact absurd (Qf (x.lt q) e) (Q2 _)
theorem HOk.kept(x:HOk P w H h)(k:∀b u,h.get? b=some u→h'.get? b=some u):HOk P w H h':=fun a o e =>
 (x a o e).stay (fun b u _ q=>k b u q) (fun _ q=>q) fun _ _ q=>q
theorem HOk.laid(x:HOk P w H h)(k:∀b u,h.get? b=some u→h'.get? b=some u)(hp:h.objs.size≤a)(new:Z6 P w (upd H a o) h' a o):HOk P w (upd H a o) h':=fun b u e=>by
 have hn:=x.fresh hp
 by_cases hb:b=a
 ·subst hb;rw[Ze]at e;cases e;exact new
 ·rw[Zc hb]at e
  exact(x b u e).stay (fun c v _ q=>k c v q) (fun c q=>by rw[Zc (Zb q hn)];exact q) fun c xs q=>by rw[Zc (Zb q hn)];exact q
end
def Rd(H:Hp)(a:Addr)(u:HO):Prop:=H a=some u∨∃o,H a=some (.frz o u)
theorem Rd.ok{P:Program}{w:World}{H:Hp}{h:Heap}{a:Addr}{u:HO}(r:Rd H a u)(x:HOk P w H h):Z6 P w H h a u:=by
 rcases r with r|⟨o,r⟩
 ·exact x a u r
 ·obtain⟨_,q⟩:=x a _ r
  exact q
def Mut:Option HO→Prop
 | some (.lst _)=>True
 | some (.dK _)=>True
 | some (.dT _)=>True
 | some (.set _ _)=>True
 | some (.ins _ _ _)=>True
 | some (.ext _)=>True
 | _=>False
section
variable {P:Program} {w:World} {H:Hp} {h h':Heap} {x e:Addr} {o':HO}
theorem HOk.write(ok:HOk P w H h)(mu:Mut (H x))(he:e=x∨H e=some (.own x))(k:∀b u,b≠e→h.get? b=some u→h'.get? b=some u)(heo:∃u,h'.get? e=some u)
  (new:Z6 P w (upd H x o') h' x o'):HOk P w (upd H x o') h':=fun b u q=>by
 have nown:∀c y,H c=some (.own y)→c≠x:=fun c y r z=>by subst z;rw[r]at mu;exact mu
 have ntup:∀c xs,H c=some (.tup xs)→c≠x:=fun c xs r z=>by subst z;rw[r]at mu;exact mu
 by_cases hb:b=x
 ·subst hb;rw[Ze]at q;cases q;exact new
 ·rw[Zc hb]at q
  by_cases hbe:b=e
  ·have q':H b=some (.own x):=by
    rcases he with z|z
    ·exact absurd (hbe.trans z) hb
    ·rw[hbe];exact z
   rw[q]at q';cases q'
   obtain⟨v,hv⟩:=heo
   exact⟨v,by rw[hbe];exact hv⟩
  ·refine(ok b u q).stay (fun c v hc r=>k c v ?_ r) (fun c r=>by rw[Zc (nown c b r)];exact r) fun c xs r=>by rw[Zc (ntup c xs r)];exact r
   rcases hc with rfl|hc
   ·exact hbe
   ·rintro rfl
    rcases he with z|z
    ·exact nown c b hc z
    ·rw[hc]at z;cases z;exact hb rfl
end
structure Un (fs ex:List Addr) (H H':Hp) (h h':Heap):Prop where
 keep:∀b o,h.get? b=some o→H b=none→b ∉ fs→b ∉ ex→h'.get? b=some o
 slot:∀b o,h.get? b=some o→H b=none→b∈fs→b ∉ ex→∃sl,h'.get? b=some { o with slots:=sl }
 free:∀b o,h.get? b=some o→H b=none→b ∉ ex→H' b=none
 there:∀b o,h.get? b=some o→b ∉ ex→∃o',h'.get? b=some o'
 tups:∀b xs,H b=some (.tup xs)→H' b=some (.tup xs)
 frzs:∀b o u,H b=some (.frz o u)→H' b=some (.frz o u)
 tbls:∀b ps,H b=some (.tbl ps)→∃more,H' b=some (.tbl (ps++more))
section
variable {fs fs' ex ex':List Addr} {H H1 H2:Hp} {h h1 h2 h':Heap} {a x e:Addr} {o:HO}
theorem Un.any(u:Un fs ex H H1 h h1){b:Addr}{ob:Obj}(q:h.get? b=some ob)(n:H b=none)(hx:b ∉ ex):∃sl,h1.get? b=some { ob with slots:=sl }:=by
 by_cases hb:b∈fs
 ·exact u.slot b ob q n hb hx
 ·exact⟨ob.slots,u.keep b ob q n hb hx⟩
theorem Un.kept(k:∀b u,h.get? b=some u→h'.get? b=some u):Un fs ex H H h h' :=
 ⟨fun b ob q _ _ _=>k b ob q,fun b ob q _ _ _=>⟨ob.slots,k b ob q⟩,fun _ _ _ n _=>n,fun b ob q _=>⟨ob,k b ob q⟩,fun _ _ q=>q,fun _ _ _ q=>q,fun _ ps q=>⟨#[],by rw[q];simp⟩⟩
theorem Un.refl:Un fs ex H H h h:=Un.kept fun _ _ q=>q
theorem Un.laid(k:∀b u,h.get? b=some u→h'.get? b=some u)(hp:h.objs.size≤a)(hn:H a=none):Un fs ex H (upd H a o) h h' where
 keep:=fun b u q _ _ _=>k b u q
 slot:=fun b u q _ _ _=>⟨u.slots,k b u q⟩
 free:=fun b u q n _=>by rw[Zc (Qp (Qf (Qd q) hp))];exact n
 there:=fun b u q _=>⟨u,k b u q⟩
 tups:=fun b xs q=>by rw[Zc (Zb q hn)];exact q
 frzs:=fun b u xs q=>by rw[Zc (Zb q hn)];exact q
 tbls:=fun b ps q=>⟨#[],by rw[Zc (Zb q hn),q];simp⟩
theorem Un.write(mu:Mut (H x))(he:e=x∨H e=some (.own x))(k:∀b u,b≠e→h.get? b=some u→h'.get? b=some u)(heo:∃u,h'.get? e=some u):Un fs ex H (upd H x o) h h':=by
 have hx:∀b,H b=none→b≠x:=fun b n z=>by subst z;rw[n]at mu;exact mu
 have hb:∀b,H b=none→b≠e:=fun b n z=>by
  subst z
  rcases he with r|r
  ·exact hx b n r
  ·rw[n]at r;cases r
 have hm:∀b u,H b=some u→¬ Mut (some u)→b≠x:=fun b u q nm z=>by subst z;rw[q]at mu;exact nm mu
 refine⟨fun b u q n _ _=>k b u (hb b n) q,fun b u q n _ _=>⟨u.slots,k b u (hb b n) q⟩,fun b u q n _=>by rw[Zc (hx b n)];exact n,fun b u q _=>?_,
  fun b xs q=>by rw[Zc (hm b _ q fun z=>z)];exact q,fun b u xs q=>by rw[Zc (hm b _ q fun z=>z)];exact q,fun b ps q=>⟨#[],by rw[Zc (hm b _ q fun z=>z),q];simp⟩⟩
 by_cases hbe:b=e
 ·subst hbe;exact heo
 ·exact⟨u,k b u hbe q⟩
end
def trk(h:Heap)(H:Hp):List Addr:=(List.range h.objs.size).filter fun a=>(H a).isSome
def Zd5(h:Heap)(H:Hp):Heap:=PySem.W.hideAll h (trk h H)
theorem Zgc(h:Heap)(H:Hp):(Zd5 h H).objs.size=h.objs.size:=PySem.W.hideAll_size _ _
theorem Zg9{h:Heap}{H:Hp}{b:Addr}{o:Obj}(e:h.get? b=some o)(n:H b=none):(Zd5 h H).get? b=some o :=
 PySem.W.hideAll_get _ e fun hm=>by
  have q:(H b).isSome=true:=(List.mem_filter.mp hm).2
  rw[n]at q;simp at q
theorem Zh8{h:Heap}{H:Hp}{b:Addr}{o:Obj}(e:(Zd5 h H).get? b=some o):h.get? b=some o∧H b=none:=by
 have e':h.get? b=some o:=PySem.W.of_hideAll (trk h H) e
 refine⟨e',?_⟩
 cases q:H b with
 | none=>rfl
 | some x =>
  have hm:b∈trk h H:=List.mem_filter.mpr ⟨List.mem_range.mpr (Qd e'),by simp[q]⟩
  have z:(Zd5 h H).get? b=none:=PySem.W.hideAll_none (trk h H) hm
  rw[z]at e;cases e
def Zh5(g h:Heap)(L:Addr):List (Addr×Obj):=(List.range h.objs.size).filterMap fun a=>if a=L∨(g.get? a).isSome=true then none else (h.get? a).map fun o=>(a,o)
def Zab(g h:Heap)(L d:Addr):List (Addr×Obj):=(Zh5 g h L).filter fun p=>decide (p.1≠d)
structure Mod (K:PySem.W.Frag) (mg:Str→Option Value) (base:Heap):Prop where
 kin:K.In base
 glob:base.Ns mainGlobals mg
 blt:∃mb,base.Ns builtinsNs mb∧∀x:Str,x ≠ "__name__"→mb x=bootBuiltins x
 nolimit:base.NoLimit
structure Cx where
 prog:Program
 w:World
 K:PySem.W.Frag
 mg:Str→Option Value
 base:Heap
 A:Around
 N:List Str
 s₀:Shared
 H₀:Hp
 env:Env
 outer:List Env
 stack:List Env
 ex:List Addr
 fn:Str→Bool
 calm:Bool
 pn:List (Addr×Obj)
 xe:Value→Shared→Prop
def frs(l:List Env):List Addr:=l.filterMap (·.frame)
abbrev Cx.fs(X:Cx):List Addr:=frs X.outer
def Vis(sc:Scope)(x:Str):Prop:=sc.names.lookup x=some .local∨sc.names.lookup x=some .cell∨sc.names.lookup x=some .free
def Loc(sc:Scope)(x:Str):Prop:=sc.names.lookup x=some .local∨sc.names.lookup x=some .cell
def ZkJ(env:Env)(h:Heap)(m:Str→Option Value)(x:Str)(u:Value):Prop :=
 (env.kindOf x=some .local∧m x=some u)∨((env.kindOf x=some .cell∨env.kindOf x=some .free)∧∃c,env.cells.lookup x=some c∧h.IsCell c (some u))
structure Cx.Ok (X:Cx):Prop where
 mod:Mod X.K X.mg X.base
 kind:X.env.scope.kind=.function
 glob:X.env.globals=mainGlobals
 blt:X.env.builtins=builtinsNs
 above:X.s₀.heap.objs.size≤X.env.locals
 inj:∀x y c,X.env.cells.lookup x=some c→X.env.cells.lookup y=some c→x=y
 has:∀x,(X.env.kindOf x=some .cell∨X.env.kindOf x=some .free)→∃c,X.env.cells.lookup x=some c
 cab:∀x c,X.fn x=true→X.env.cells.lookup x=some c→X.s₀.heap.objs.size≤c
 hd:X.calm=true→X.A.handled=none
 frames:X.A.frames=some X.stack
 stk:X.stack=X.outer∨(X.stack=X.env::X.outer∧X.env.frame=some X.env.locals)
 exf:∀b∈X.ex,b≠X.env.locals∧∀x c,X.env.cells.lookup x=some c→c≠b
 bs:∀b o,X.base.get? b=some o→X.s₀.heap.get? b=some o∧X.H₀ b=none
 bsz:X.base.objs.size≤X.s₀.heap.objs.size
 noex:∀b o,X.base.get? b=some o→b ∉ X.ex
 exfs:∀b∈X.ex,b ∉ X.fs
 funs:X.s₀.heap.FunFrames X.base X.outer
 frf:∀b∈X.fs,X.H₀ b=none
structure Inv (X:Cx) (pins:List (Addr×Obj)) (σ:List (Option V)) (H:Hp) (s:Shared):Prop where
 ok:X.Ok
 os:s.os=X.s₀.os
 bare:AllBare s.gens
 base:Un X.fs X.ex X.H₀ H X.s₀.heap s.heap
 loc:∃m,s.heap.Ns X.env.locals m∧∀ (i:Nat) (x:Str) (v:V),X.N[i]? = some x→σ[i]? = some (some v)→Vis X.env.scope x→∃u,ZA v u∧ZkJ X.env s.heap m x u
 cell:∀x c,X.env.cells.lookup x=some c→∃v,s.heap.IsCell c v
 free:H X.env.locals=none
 freeC:∀x c,X.env.cells.lookup x=some c→H c=none
 pin:∀p∈X.pn++pins,s.heap.get? p.1=some p.2∧H p.1=none∧p.1≠X.env.locals∧p.1 ∉ X.fs∧∀v,p.2.data≠.cell v
 hok:HOk X.prog X.w H s.heap
 len:σ.length=X.N.length
section
variable {X:Cx} {pins:List (Addr×Obj)} {σ:List (Option V)} {H H':Hp} {s:Shared} {h':Heap}
theorem Cx.Ok.nofr(ok:X.Ok){b:Addr}{o:Obj}(e:X.base.get? b=some o):b ∉ X.fs:=fun hb=>by
 have:=(ok.funs.mem hb).1
 rw[e]at this;cases this
theorem Inv.bs(I:Inv X pins σ H s):∀b o,X.base.get? b=some o→s.heap.get? b=some o∧H b=none:=fun b o e =>
 ⟨I.base.keep b o (I.ok.bs b o e).1 (I.ok.bs b o e).2 (I.ok.nofr e) (I.ok.noex b o e),I.base.free b o (I.ok.bs b o e).1 (I.ok.bs b o e).2 (I.ok.noex b o e)⟩
theorem Inv.bk(I:Inv X pins σ H s):∀b o,X.base.get? b=some o→s.heap.get? b=some o:=fun b o e=>(I.bs b o e).1
theorem Inv.mod(I:Inv X pins σ H s):Mod X.K X.mg X.base:=I.ok.mod
theorem Inv.kIn(I:Inv X pins σ H s):X.K.In s.heap:=I.ok.mod.kin.keeps I.bk
theorem Inv.lt(I:Inv X pins σ H s):X.env.locals<s.heap.objs.size:=let ⟨_,hn,_⟩:=I.loc;hn.lt
theorem Inv.sz(I:Inv X pins σ H s):X.s₀.heap.objs.size≤s.heap.objs.size:=Qq I.ok.above (QV I.lt)
theorem Inv.nofs(I:Inv X pins σ H s){a:Addr}(h:s.heap.objs.size≤a):a ∉ X.fs:=fun hb=>by
 obtain⟨_,o,ho,_⟩:=I.ok.funs.mem hb
 exact absurd (Qf (Qd ho) (Qq I.sz h)) (Q2 _)
theorem Inv.cne(I:Inv X pins σ H s):∀x c,X.env.cells.lookup x=some c→c≠X.env.locals:=fun x c e z=>by
 obtain⟨v,o,ho,hd⟩:=I.cell x c e
 obtain⟨m,⟨o',es,ep,ho',hd',_⟩,_⟩:=I.loc
 rw[z,ho']at ho;cases ho;rw[hd']at hd;cases hd
theorem Inv.funs(I:Inv X pins σ H s):s.heap.FunFrames X.base X.outer:=by
 have all:∀ (l:List Env),(∀b∈frs l,b∈X.fs)→X.s₀.heap.FunFrames X.base l→s.heap.FunFrames X.base l:=by
  intro l
  induction l with
  | nil=>intro _ _;trivial
  | cons env r ih =>
   intro hs hl
   obtain⟨hk,⟨L,o,hf,hn,ho,hd⟩,hr⟩:=hl
   have hL:L∈X.fs:=hs L (by unfold frs;rw[List.filterMap_cons,hf];exact QN)
   obtain⟨sl,e⟩:=I.base.slot L o ho (I.ok.frf L hL) hL fun z=>I.ok.exfs L z hL
   exact⟨hk,⟨L,_,hf,hn,e,hd⟩,ih (fun b hb=>hs b (by unfold frs;rw[List.filterMap_cons,hf];exact Qo _ hb)) hr⟩
 exact all X.outer (fun _ hb=>hb) I.ok.funs
theorem Inv.stack(I:Inv X pins σ H s):s.heap.FunFrames X.base X.stack:=by
 rcases I.ok.stk with e|⟨e,hf⟩
 ·rw[e];exact I.funs
 ·rw[e]
  obtain⟨m,hn,_⟩:=I.loc
  refine .cons (by rw[I.ok.kind];decide) hf hn ?_ I.funs
  exact Heap.get?_none_of_le (Qq I.ok.bsz I.ok.above)
theorem Inv.stkSub(I:Inv X pins σ H s):∀b∈frs X.stack,b∈X.env.locals::X.fs:=fun b hb=>by
 rcases I.ok.stk with e|⟨e,hf⟩
 ·rw[e]at hb;exact Qo _ hb
 ·rw[e]at hb
  unfold frs at hb
  rw[List.filterMap_cons,hf]at hb
  exact hb
theorem Inv.stkFree(I:Inv X pins σ H s):∀b∈frs X.stack,H b=none:=fun b hb=>by
 rcases QE.mp (I.stkSub b hb) with e|hb
 ·rw[e];exact I.free
 ·obtain⟨_,o,ho,_⟩:=I.ok.funs.mem hb
  exact I.base.free b o ho (I.ok.frf b hb) fun z=>I.ok.exfs b z hb
theorem Inv.step{g':Array GenState}{t':Nat}{d':Drawn}{ch:List Addr}(I:Inv X pins σ H s)
  (hch:∀b∈ch,(b∈X.ex∨X.s₀.heap.objs.size≤b)∧b≠X.env.locals∧(∀x c,X.env.cells.lookup x=some c→c≠b)∧∀p∈X.pn++pins,p.1≠b)
  (keep:∀b o,b≠X.env.locals→b ∉ X.fs→b ∉ ch→s.heap.get? b=some o→H b=none→h'.get? b=some o)
  (slot:∀b o,b≠X.env.locals→b∈X.fs→b ∉ ch→s.heap.get? b=some o→H b=none→∃sl,h'.get? b=some { o with slots:=sl }) (free:∀b o,b ∉ ch→s.heap.get? b=some o→H b=none→H' b=none)
  (there:∀b o,b ∉ ch→s.heap.get? b=some o→∃o',h'.get? b=some o')
  (tups:∀b xs,H b=some (.tup xs)→H' b=some (.tup xs)) (frzs:∀b o u,H b=some (.frz o u)→H' b=some (.frz o u)) (tbls:∀b ps,H b=some (.tbl ps)→∃more,H' b=some (.tbl (ps++more)))
  (ns:∀m,s.heap.Ns X.env.locals m→h'.Ns X.env.locals m) (hok:HOk X.prog X.w H' h') (hg:AllBare g') :
  Inv X pins σ H' { s with heap:=h',gens:=g',drawn:=d',toks:=t' }:=by
 have neL:∀b o,X.s₀.heap.get? b=some o→b≠X.env.locals:=fun b o e=>Qp (Qf (Qd e) I.ok.above)
 have neC:∀b o,X.s₀.heap.get? b=some o→b ∉ X.ex→b ∉ ch:=fun b o e hx hb=>by
  rcases(hch b hb).1 with z|z
  ·exact hx z
  ·exact absurd (Qf (Qd e) z) (Q2 _)
 have cellK:∀x c,X.env.cells.lookup x=some c→∀v,s.heap.IsCell c v→h'.IsCell c v:=fun x c e v ⟨o,ho,hd⟩=>by
  have nch:c ∉ ch:=fun z=>(hch c z).2.2.1 x c e rfl
  by_cases hc:c∈X.fs
  ·obtain⟨sl,q⟩:=slot c o (I.cne x c e) hc nch ho (I.freeC x c e)
   exact⟨_,q,hd⟩
  ·exact⟨o,keep c o (I.cne x c e) hc nch ho (I.freeC x c e),hd⟩
 refine⟨I.ok,I.os,hg,⟨fun b o e n hb hx=>?_,fun b o e n hb hx=>?_,fun b o e n hx=>?_,fun b o e hx=>?_,fun b xs e=>tups b xs (I.base.tups b xs e),fun b o xs e=>frzs b o xs (I.base.frzs b o xs e),fun b ps e=>?_⟩,?_,fun x c e=>?_,?_,fun x c e=>?_,fun p hp=>?_,hok,I.len⟩
 ·exact keep b o (neL b o e) hb (neC b o e hx) (I.base.keep b o e n hb hx) (I.base.free b o e n hx)
 ·obtain⟨sl,e1⟩:=I.base.slot b o e n hb hx
  obtain⟨sl',e2⟩:=slot b _ (neL b o e) hb (neC b o e hx) e1 (I.base.free b o e n hx)
  exact⟨sl',e2⟩
 ·obtain⟨o',e1⟩:=I.base.there b o e hx
  exact free b o' (neC b o e hx) e1 (I.base.free b o e n hx)
 ·obtain⟨o',e1⟩:=I.base.there b o e hx
  exact there b o' (neC b o e hx) e1
 ·obtain⟨m1,e1⟩:=I.base.tbls b ps e
  obtain⟨m2,e2⟩:=tbls b _ e1
  exact⟨m1++m2,by rw[e2,Array.append_assoc]⟩
 ·obtain⟨m,hn,hl⟩:=I.loc
  refine⟨m,ns m hn,fun i x v e1 e2 e3=>?_⟩
  obtain⟨u,r,l⟩:=hl i x v e1 e2 e3
  refine⟨u,r,?_⟩
  rcases l with l|⟨k,c,e,z⟩
  ·exact .inl l
  ·exact .inr ⟨k,c,e,cellK x c e _ z⟩
 ·obtain⟨v,z⟩:=I.cell x c e
  exact⟨v,cellK x c e v z⟩
 ·obtain⟨m,⟨o,_,_,ho,_⟩,_⟩:=I.loc
  exact free _ o (fun z=>(hch _ z).2.1 rfl) ho I.free
 ·obtain⟨v,o,ho,hd⟩:=I.cell x c e
  exact free c o (fun z=>(hch c z).2.2.1 x c e rfl) ho (I.freeC x c e)
 ·obtain⟨e,n,ne,nf,d⟩:=I.pin p hp
  have nch:p.1 ∉ ch:=fun z=>(hch p.1 z).2.2.2 p hp rfl
  exact⟨keep p.1 p.2 ne nf nch e n,free p.1 p.2 nch e n,ne,nf,d⟩
theorem Inv.un{t':Nat}(I:Inv X pins σ H s)(u:Un X.fs [] H H' s.heap h')(hok:HOk X.prog X.w H' h'):Inv X pins σ H' { s with heap:=h',toks:=t' }:=by
 obtain⟨m,⟨o,es,ep,ho,r⟩,_⟩:=id I.loc
 obtain⟨sl,hL⟩:=u.any ho I.free (by simp)
 exact I.step (g':=s.gens) (d':=s.drawn) (ch:=[]) (fun _ z=>nomatch z) (fun b o _ hb _ e n=>u.keep b o e n hb (by simp)) (fun b o _ hb _ e n=>u.slot b o e n hb (by simp)) (fun b o _ e n=>u.free b o e n (by simp)) (fun b o _ e=>u.there b o e (by simp)) u.tups u.frzs u.tbls (fun m' hm=>by
  obtain⟨o',es',ep',ho',r'⟩:=hm
  rw[ho]at ho';cases ho'
  exact⟨_,es',ep',hL,r'⟩) hok I.bare
theorem Inv.call{g':Array GenState}{t':Nat}{d':Drawn}{ch:List Addr}(I:Inv X pins σ H s)(u:Un (frs X.stack) ch H H' s.heap h')(hok:HOk X.prog X.w H' h')(hg:AllBare g')
  (hch:∀b∈ch,(b∈X.ex∨X.s₀.heap.objs.size≤b)∧b≠X.env.locals∧(∀x c,X.env.cells.lookup x=some c→c≠b)∧∀p∈X.pn++pins,p.1≠b) :
  Inv X pins σ H' { s with heap:=h',gens:=g',drawn:=d',toks:=t' }:=by
 obtain⟨m,⟨o,es,ep,ho,r⟩,_⟩:=id I.loc
 obtain⟨sl,hL⟩:=u.any ho I.free fun z=>(hch _ z).2.1 rfl
 exact I.step (ch:=ch) hch (fun b o hL hb hc e n=>u.keep b o e n (fun z=>(QE.mp (I.stkSub b z)).elim hL hb) hc) (fun b o _ _ hc e n=>u.any e n hc) (fun b o hc e n=>u.free b o e n hc) (fun b o hc e=>u.there b o e hc) u.tups u.frzs u.tbls (fun m' hm=>by
  obtain⟨o',es',ep',ho',r'⟩:=hm
  rw[ho]at ho';cases ho'
  exact⟨_,es',ep',hL,r'⟩) hok hg
theorem Inv.turned{t':Nat}{it:Addr}(I:Inv X pins σ H s)(k:∀b o,b≠it→s.heap.get? b=some o→h'.get? b=some o)(hn:H it=none)(hL:it≠X.env.locals)
  (h1:it∈X.ex∨X.s₀.heap.objs.size≤it) (h2:∀x c,X.env.cells.lookup x=some c→c≠it) (h3:∀p∈X.pn++pins,p.1≠it):Inv X pins σ H { s with heap:=h',toks:=t' }:=by
 have nit:∀b u,H b=some u→b≠it:=fun b u e z=>by rw[z,hn]at e;cases e
 refine I.step (g':=s.gens) (d':=s.drawn) (ch:=[it]) (fun b hb=>?_) (fun b o _ _ hc e _=>k b o (fun z=>hc (by simp[z])) e) (fun b o _ _ hc e _=>⟨o.slots,k b o (fun z=>hc (by simp[z])) e⟩) (fun _ _ _ _ n=>n)
  (fun b o hc e=>⟨o,k b o (fun z=>hc (by simp[z])) e⟩) (fun _ _ e=>e) (fun _ _ _ e=>e) (fun b ps e=>⟨#[],by rw[e];simp⟩) (fun m hm=>?_) (fun b u e=>?_) I.bare
 ·have e:b=it:=by simpa using hb
  subst e
  exact⟨h1,hL,h2,h3⟩
 ·obtain⟨o,es,ep,ho,r⟩:=hm
  exact⟨o,es,ep,k _ o (Ne.symm hL) ho,r⟩
 ·refine(I.hok b u e).stay (fun c v hc q=>k c v ?_ q) (fun _ q=>q) fun _ _ q=>q
  rcases hc with z|z
  ·rw[z];exact nit b u e
  ·exact nit c _ z
theorem Inv.tok(I:Inv X pins σ H s)(t:Nat):Inv X pins σ H { s with toks:=t }:=I.un (h':=s.heap) (t':=t) Un.refl I.hok
theorem Inv.kept{t':Nat}(I:Inv X pins σ H s)(k:∀b u,s.heap.get? b=some u→h'.get? b=some u):Inv X pins σ H { s with heap:=h',toks:=t' }:=I.un (Un.kept k) (I.hok.kept k)
theorem Inv.laid{a:Addr}{o:HO}{t':Nat}(I:Inv X pins σ H s)(k:∀b u,s.heap.get? b=some u→h'.get? b=some u)(hp:s.heap.objs.size≤a)(new:Z6 X.prog X.w (upd H a o) h' a o) :
  Inv X pins σ (upd H a o) { s with heap:=h',toks:=t' }:=I.un (Un.laid k hp (I.hok.fresh hp)) (I.hok.laid k hp new)
theorem Inv.write{x e:Addr}{o:HO}{t':Nat}(I:Inv X pins σ H s)(mu:Mut (H x))(he:e=x∨H e=some (.own x))(k:∀b u,b≠e→s.heap.get? b=some u→h'.get? b=some u)(heo:∃u,h'.get? e=some u)
  (new:Z6 X.prog X.w (upd H x o) h' x o):Inv X pins σ (upd H x o) { s with heap:=h',toks:=t' }:=I.un (Un.write mu he k heo) (I.hok.write mu he k heo new)
theorem Inv.pins_of{pins':List (Addr×Obj)}(I:Inv X pins σ H s)(h:∀p∈pins',s.heap.get? p.1=some p.2∧H p.1=none∧p.1≠X.env.locals∧p.1 ∉ X.fs∧∀v,p.2.data≠.cell v):Inv X pins' σ H s :=
 ⟨I.ok,I.os,I.bare,I.base,I.loc,I.cell,I.free,I.freeC,fun p hp=>(Qg.mp hp).elim (fun z=>I.pin p (Qz _ z)) (h p),I.hok,I.len⟩
theorem ZcG{N:List Str}(hN:N.Nodup){i j:Nat}{x:Str}(a:N[i]? = some x)(b:N[j]? = some x):i=j:=by
 obtain⟨h1,e1⟩:=Qk.mp a
 obtain⟨h2,e2⟩:=Qk.mp b
 exact(List.getElem_inj hN).mp (e1.trans e2.symm)
theorem Zdz{M:Model}{A:Around}{E:Value→Shared→Prop}{i:Nat}{x:Str}{v:V}{u:Value}{Q:Unit→Shared→Prop}(I:Inv X pins σ H s)(hN:X.N.Nodup)(hi:X.N[i]? = some x)(hx:Loc X.env.scope x)(r:ZA v u)
  (h:∀s',Inv X pins (σ.set i (some v)) H s'→(∃a,Heap.SameBut a s.heap s'.heap∧(a=X.env.locals∨X.env.cells.lookup x=some a))→Q () s') (hf:X.fn x=true∨X.env.scope.names.lookup x=some .local:=by first|exact .inl rfl|exact .inr rfl|assumption):wpAny M A (storeName X.env x u) Q E s:=by
 obtain⟨m,hn,hl⟩:=id I.loc
 have hcls:(X.env.scope.kind == .class||(X.env.scope.kind == .module&&X.env.locals != X.env.globals))=false:=by rw[I.ok.kind];rfl
 have hiσ:i<σ.length:=by rw[I.len];exact(Qk.mp hi).1
 have cne:=I.cne
 have tracked:∀ {a:Addr} {h':Heap},(∃o,s.heap.get? a=some o∧H a=none)→Heap.SameBut a s.heap h'→HOk X.prog X.w H h':=fun {a h'} ha hs b ob e=>by
  obtain⟨_,_,hfree⟩:=ha
  refine(I.hok b ob e).stay (fun c w' hc q=>(hs.2 c ?_).trans q) (fun _ q=>q) fun _ _ q=>q
  rintro rfl
  rcases hc with rfl|hc
  ·rw[hfree]at e;cases e
  ·rw[hfree]at hc;cases hc
 rcases hx with hk|hk
 ·refine wpAny_storeName_local hk hn (fun h' hn' hs=>?_) hcls
  obtain⟨oL,_,_,hoL,_⟩:=id hn
  refine h _ ⟨I.ok,I.os,I.bare,⟨fun b o e n hb hx=>?_,fun b o e n hb hx=>?_,I.base.free,fun b o e hx=>?_,I.base.tups,I.base.frzs,I.base.tbls⟩,⟨_,hn',fun j y v' e1 e2 e3=>?_⟩,fun y c e=>?_,I.free,I.freeC,fun p hp=>?_,tracked ⟨oL,hoL,I.free⟩ hs,by simpa using I.len⟩ ⟨_,hs,.inl rfl⟩
  ·exact(hs.2 b (Qp (Qf (Qd e) I.ok.above))).trans (I.base.keep b o e n hb hx)
  ·obtain⟨sl,e1⟩:=I.base.slot b o e n hb hx
   exact⟨sl,(hs.2 b (Qp (Qf (Qd e) I.ok.above))).trans e1⟩
  ·obtain⟨o',e1⟩:=I.base.there b o e hx
   exact⟨o',(hs.2 b (Qp (Qf (Qd e) I.ok.above))).trans e1⟩
  ·by_cases hj:j=i
   ·subst hj
    rw[hi]at e1;cases e1
    rw[QK hiσ]at e2
    cases e2
    exact⟨u,r,.inl ⟨hk,by simp⟩⟩
   ·rw[Q3 (Ne.symm hj)]at e2
    obtain⟨u',r',q⟩:=hl j y v' e1 e2 e3
    refine⟨u',r',?_⟩
    rcases q with⟨k,e⟩|⟨k,c,e,z⟩
    ·refine .inl ⟨k,?_⟩
     have:y≠x:=fun e=>hj (ZcG hN e1 (e ▸ hi))
     simp[this,e]
    ·exact .inr ⟨k,c,e,z.sameBut hs (cne y c e)⟩
  ·obtain⟨w',z⟩:=I.cell y c e
   exact⟨w',z.sameBut hs (cne y c e)⟩
  ·obtain⟨e,n,ne,nf,d⟩:=I.pin p hp
   exact⟨(hs.2 p.1 ne).trans e,n,ne,nf,d⟩
 ·have hfn:X.fn x=true:=by
   rcases hf with z|z
   ·exact z
   ·rw[z]at hk;cases hk
  obtain⟨c,hc⟩:=I.ok.has x (.inl hk)
  obtain⟨w',z⟩:=I.cell x c hc
  refine wpAny_storeName_cell I.ok.kind hk hc z (fun h' hc' hs=>?_)
  obtain⟨oc,hoc,hocd⟩:=id z
  refine h { s with heap:=h' } ⟨I.ok,I.os,I.bare,⟨fun b o e n hb hx=>?_,fun b o e n hb hx=>?_,I.base.free,fun b o e hx=>?_,I.base.tups,I.base.frzs,I.base.tbls⟩,⟨m,hn.sameBut hs (Ne.symm (cne x c hc)),fun j y v' e1 e2 e3=>?_⟩,fun y c' e=>?_,I.free,I.freeC,fun p hp=>?_,tracked ⟨oc,hoc,I.freeC x c hc⟩ hs,by simpa using I.len⟩ ⟨c,hs,.inr hc⟩
  ·exact(hs.2 b (Qp (Qf (Qd e) (I.ok.cab x c hfn hc)))).trans (I.base.keep b o e n hb hx)
  ·obtain⟨sl,e1⟩:=I.base.slot b o e n hb hx
   exact⟨sl,(hs.2 b (Qp (Qf (Qd e) (I.ok.cab x c hfn hc)))).trans e1⟩
  ·obtain⟨o',e1⟩:=I.base.there b o e hx
   exact⟨o',(hs.2 b (Qp (Qf (Qd e) (I.ok.cab x c hfn hc)))).trans e1⟩
  ·by_cases hj:j=i
   ·subst hj
    rw[hi]at e1;cases e1
    rw[QK hiσ]at e2
    cases e2
    exact⟨u,r,.inr ⟨.inl hk,c,hc,hc'⟩⟩
   ·rw[Q3 (Ne.symm hj)]at e2
    obtain⟨u',r',q⟩:=hl j y v' e1 e2 e3
    refine⟨u',r',?_⟩
    rcases q with q|⟨k,c',e,z'⟩
    ·exact .inl q
    ·refine .inr ⟨k,c',e,z'.sameBut hs ?_⟩
     rintro rfl
     exact hj (ZcG hN e1 (I.ok.inj _ _ _ e hc ▸ hi))
  ·by_cases hcc:c'=c
   ·subst hcc;exact⟨_,hc'⟩
   ·obtain⟨w2,z2⟩:=I.cell y c' e
    exact⟨w2,z2.sameBut hs hcc⟩
  ·obtain⟨e,n,ne,nf,d⟩:=I.pin p hp
   refine⟨(hs.2 p.1 ?_).trans e,n,ne,nf,d⟩
   intro q
   rw[q,hoc]at e
   have q':oc=p.2:=Ql e
   exact d w' (by rw[← q'];exact hocd)
theorem Zbx{M:Model}{A:Around}{E:Value→Shared→Prop}{i:Nat}{x:Str}{v:V}{u:Value}{Q:Unit→Shared→Prop}(I:Inv X pins σ H s)(hN:X.N.Nodup)(hi:X.N[i]? = some x)(hx:Loc X.env.scope x)(r:ZA v u)
  (h:∀s',Inv X pins (σ.set i (some v)) H s'→Q () s') (hf:X.fn x=true∨X.env.scope.names.lookup x=some .local:=by first|exact .inl rfl|exact .inr rfl|assumption):wpAny M A (storeName X.env x u) Q E s :=
 Zdz I hN hi hx r (fun s' I' _=>h s' I') hf
theorem Inv.call'{s':Shared}{ch:List Addr}(I:Inv X pins σ H s)(ho:s'.os=s.os)(u:Un (frs X.stack) ch H H' s.heap s'.heap)(hok:HOk X.prog X.w H' s'.heap)(hg:AllBare s'.gens)
  (hch:∀b∈ch,(b∈X.ex∨X.s₀.heap.objs.size≤b)∧b≠X.env.locals∧(∀x c,X.env.cells.lookup x=some c→c≠b)∧∀p∈X.pn++pins,p.1≠b):Inv X pins σ H' s':=by
 obtain⟨h',g',d',t',o'⟩:=s'
 have e:o'=s.os:=ho
 subst e
 exact I.call (g':=g') (t':=t') (d':=d') u hok hg hch
end
abbrev XK:=Value→Option Addr→Hp→Prop
abbrev St:=List (Option V)
abbrev VK:=V→Hp→Prop
abbrev TE:=St→Hp→VK→Prop
abbrev TT:=St→Hp→(Bool→Hp→Prop)→Prop
abbrev TA:=St→Hp→(List V→Hp→Prop)→Prop
structure Zd2 where
 nx:St→Hp→Prop
 rt:VK
 bk:St→Hp→Prop:=fun _ _=>False
 ct:St→Hp→Prop:=fun _ _=>False
abbrev TS:=Zd2→St→Hp→Prop
def EP(X:Cx)(pins:List (Addr×Obj))(σ:St)(Q:VK)(u:Value)(s':Shared):Prop:=∃v H',Inv X pins σ H' s'∧ZA v u∧Q v H'
def TP(X:Cx)(pins:List (Addr×Obj))(σ:St)(Q:Bool→Hp→Prop)(b:Bool)(s':Shared):Prop:=∃H',Inv X pins σ H' s'∧Q b H'
def AP(X:Cx)(pins:List (Addr×Obj))(σ:St)(Q:List V→Hp→Prop)(us:List Value)(s':Shared):Prop:=∃vs H',Inv X pins σ H' s'∧Zv vs us∧Q vs H'
def SP(X:Cx)(pins:List (Addr×Obj))(D:Zd2)(f:Flow)(s':Shared):Prop :=
 match f with
 | .next=>∃σ' H',Inv X pins σ' H' s'∧D.nx σ' H'
 | .brk=>∃σ' H',Inv X pins σ' H' s'∧D.bk σ' H'
 | .cont=>∃σ' H',Inv X pins σ' H' s'∧D.ct σ' H'
 | .ret u=>∃v σ' H',Inv X pins σ' H' s'∧ZA v u∧D.rt v H'
def PE(X:Cx)(e:Expr)(t:TE):Prop :=
 ∀ (pins:List (Addr×Obj)) (s:Shared) (σ:St) (H:Hp) (Q:VK),Inv X pins σ H s→t σ H Q→wpAny (model X.prog X.w) X.A (eval e X.env) (EP X pins σ Q) X.xe s
def PT(X:Cx)(e:Expr)(t:TT):Prop :=
 ∀ (pins:List (Addr×Obj)) (s:Shared) (σ:St) (H:Hp) (Q:Bool→Hp→Prop),Inv X pins σ H s→t σ H Q→wpAny (model X.prog X.w) X.A (isTrue e X.env (eval e X.env)) (TP X pins σ Q) X.xe s
def PW(X:Cx)(e:Expr)(t:TT):Prop :=
 ∀ (whole:Sem Value) (pins:List (Addr×Obj)) (s:Shared) (σ:St) (H:Hp) (Q:Bool→Hp→Prop),Inv X pins σ H s→t σ H Q→wpAny (model X.prog X.w) X.A (isTrue e X.env whole) (TP X pins σ Q) X.xe s
theorem PW.pt{X:Cx}{e:Expr}{t:TT}(h:PW X e t):PT X e t:=h _
def PA(X:Cx)(es:List Expr)(t:TA):Prop :=
 ∀ (pos:Pos) (pins:List (Addr×Obj)) (s:Shared) (σ:St) (H:Hp) (Q:List V→Hp→Prop),Inv X pins σ H s→t σ H Q→wpAny (model X.prog X.w) X.A (spliced (backTo pos (starEach es X.env))) (AP X pins σ Q) X.xe s
def PS(X:Cx)(st:Stmt)(t:TS):Prop :=
 ∀ (pins:List (Addr×Obj)) (s:Shared) (σ:St) (H:Hp) (D:Zd2),Inv X pins σ H s→t D σ H→wpAny (model X.prog X.w) X.A (exec st X.env) (SP X pins D) X.xe s
def PSs(X:Cx)(st:List Stmt)(t:TS):Prop :=
 ∀ (pins:List (Addr×Obj)) (s:Shared) (σ:St) (H:Hp) (D:Zd2),Inv X pins σ H s→t D σ H→wpAny (model X.prog X.w) X.A (execs st X.env) (SP X pins D) X.xe s
theorem thn{α:Type}{t:Sem α}{Q Q':α→Shared→Prop}{M:Model}{A:Around}{E:Value→Shared→Prop}{s:Shared}(h:wpAny M A t Q E s)(hQ:∀a s,Q a s→Q' a s):wpAny M A t Q' E s:=wpAny_mono h hQ fun _ _ x=>x
section
variable {X:Cx}
def ZiA(i:Nat):TE:=fun σ H Q=>∃v,σ[i]? = some (some v)∧Q v H
def tC(v:V):TE:=fun _ H Q=>Q v H
theorem ZeR{i:Nat}{x:Str}{pos:Pos}(hN:X.N[i]? = some x)(hv:Vis X.env.scope x)(hd:(x == ("__debug__" : Str))=false:=by decide)(hcd:(x == ("__classdict__" : Str))=false:=by decide):PE X (.Name x pos) (ZiA i):=by
 intro pins s σ H Q I h
 obtain⟨v,e,h⟩:=h
 obtain⟨m,hn,hl⟩:=I.loc
 obtain⟨u,r,l⟩:=hl i x v hN e hv
 have fin:EP X pins σ Q u s:=⟨v,H,I,r,h⟩
 rcases l with⟨hk,hm⟩|⟨hk,c,hc,hcell⟩
 ·exact wpAny_Name (wpAny_loadName_local I.ok.kind hk hn hm fin) hd
 ·rcases hk with hk|hk
  ·exact wpAny_Name (wpAny_loadName_cell I.ok.kind hk hc hcell fin) hd
  ·exact wpAny_Name (wpAny_loadName_free I.ok.kind hk hc hcell fin hcd) hd
theorem Zh{i j pos}:PE X (.Constant (.int i) j pos) (tC (.int i)):=fun _ _ _ H _ I h=>wpAny_Constant_int ⟨.int i,H,I.tok _,⟨_,rfl⟩,h⟩
theorem ZfZ{b j pos}:PE X (.Constant (.bool b) j pos) (tC (.bl b)):=fun _ _ _ H _ I h=>Constant_bool ⟨.bl b,H,I,rfl,h⟩
theorem ZZ{j pos}:PE X (.Constant .none j pos) (tC .non):=fun _ _ _ H _ I h=>Constant_none ⟨.non,H,I,rfl,h⟩
theorem Zz{x j pos}:PE X (.Constant (.str x) j pos) (tC (.str x)):=fun _ _ _ H _ I h=>Calls.Constant_str ⟨.str x,H,I.tok _,⟨_,rfl⟩,h⟩
def Gl(X:Cx)(x:Str):Prop:=X.env.kindOf x=some .globalImplicit
theorem ZaS{E:Value→Shared→Prop}{pins:List (Addr×Obj)}{s:Shared}{σ:St}{H:Hp}{x:Str}{u:Value}{pos:Pos}{Q:Value→Shared→Prop}(I:Inv X pins σ H s)(hg:Gl X x)(hm:X.mg x=some u)(h:Q u s)
  (hd:(x == ("__debug__" : Str))=false:=by decide):wpAny (model X.prog X.w) X.A (eval (.Name x pos) X.env) Q E s :=
 Calls.Name_function_global I.ok.kind hg (Calls.loadGlobal_global (by rw[I.ok.glob];exact I.mod.glob.keeps I.bk) hm h) hd
theorem Zcd{E:Value→Shared→Prop}{pins:List (Addr×Obj)}{s:Shared}{σ:St}{H:Hp}{x:Str}{u:Value}{pos:Pos}{Q:Value→Shared→Prop}(I:Inv X pins σ H s)(hg:Gl X x)(hm:X.mg x=none)(hv:bootBuiltins x=some u)(h:Q u s)
  (hn:x ≠ "__name__":=by decide) (hd:(x == ("__debug__" : Str))=false:=by decide):wpAny (model X.prog X.w) X.A (eval (.Name x pos) X.env) Q E s:=by
 obtain⟨mb,h1,h2⟩:=I.mod.blt
 exact Calls.Name_function_global I.ok.kind hg (Calls.loadGlobal_builtin (by rw[I.ok.glob];exact I.mod.glob.keeps I.bk) hm (by rw[I.ok.blt];exact h1.keeps I.bk) ((h2 x hn).trans hv) h) hd
theorem Zij{x:Str}{v:V}{u:Value}{pos:Pos}(hg:Gl X x)(hm:X.mg x=none)(hv:bootBuiltins x=some u)(r:ZA v u)(hn:x ≠ "__name__":=by decide)(hd:(x == ("__debug__" : Str))=false:=by decide):PE X (.Name x pos) (tC v) :=
 fun _ _ _ H _ I h=>Zcd I hg hm hv ⟨v,H,I,r,h⟩ hn hd
variable {a b:Expr} {ta tb:TE} {pos:Pos}
def tB(t:TE):TT:=fun σ H Q=>t σ H fun x H1=>∃c,x=.bl c∧Q c H1
theorem Zfl{e:Expr}{t:TE}(h:PE X e t)(he:∀whole,isTrue e X.env whole=(do let v ← whole;standAt e.pos;holding [v] (truthy v)):=by intro _;rfl):PT X e (tB t):=by
 intro pins s σ H Q I hw
 refine isTrue_plain (thn (h pins s σ H _ I hw) ?_) (he _)
 rintro v s1 ⟨x,H1,I1,r1,q1⟩
 obtain⟨d,rfl,q⟩:=q1
 cases r1
 exact wpAny_truthy_bool ⟨H1,I1,q⟩
variable {tA tB':TT} {Zab:List Expr}
def ZkZ(t u:TT):TT:=fun σ H Q=>t σ H fun c H1=>if c=true then u σ H1 Q else Q false H1
def tOr(t u:TT):TT:=fun σ H Q=>t σ H fun c H1=>if c=true then Q true H1 else u σ H1 Q
def Zk1(t:TT):TT:=fun σ H Q=>t σ H fun c H1=>Q (!c) H1
theorem Zcz(ha:PT X a tA):PW X (.BoolOp .And [a] pos) tA:=by
 intro wh pins s σ H Q I h
 refine isTrue_and (thn (ha pins s σ H Q I h) fun c s1 e=>?_)
 cases c with
 | true=>exact isTrue_and_nil e
 | false=>exact e
theorem ZeV(ha:PT X a tA):PW X (.BoolOp .Or [a] pos) tA:=by
 intro wh pins s σ H Q I h
 refine isTrue_or (thn (ha pins s σ H Q I h) fun c s1 e=>?_)
 cases c with
 | false=>exact isTrue_or_nil e
 | true=>exact e
theorem ZcL(ha:PT X a tA)(hb:PW X (.BoolOp .And (b::Zab) pos) tB'):PW X (.BoolOp .And (a::b::Zab) pos) (ZkZ tA tB'):=by
 intro wh pins s σ H Q I h
 refine isTrue_and (thn (ha pins s σ H _ I h) ?_)
 rintro c s1 ⟨H1,I1,q1⟩
 cases c with
 | true=>exact hb wh pins s1 σ H1 Q I1 q1
 | false=>exact⟨H1,I1,q1⟩
theorem ZfB(ha:PT X a tA)(hb:PW X (.BoolOp .Or (b::Zab) pos) tB'):PW X (.BoolOp .Or (a::b::Zab) pos) (tOr tA tB'):=by
 intro wh pins s σ H Q I h
 refine isTrue_or (thn (ha pins s σ H _ I h) ?_)
 rintro c s1 ⟨H1,I1,q1⟩
 cases c with
 | true=>exact⟨H1,I1,q1⟩
 | false=>exact hb wh pins s1 σ H1 Q I1 q1
theorem Zjt(ha:PT X a tA):PT X (.UnaryOp .Not a pos) (Zk1 tA):=by
 intro pins s σ H Q I h
 exact isTrue_not (ha pins s σ H (fun c H1=>Q (!c) H1) I h)
def tIf(t:TT)(ta tb:TE):TE:=fun σ H Q=>t σ H fun c H1=>if c=true then ta σ H1 Q else tb σ H1 Q
theorem ZaZ{c:Expr}(hc:PT X c tA)(ha:PE X a ta)(hb:PE X b tb):PE X (.IfExp c a b pos) (tIf tA ta tb):=by
 intro pins s σ H Q I h
 refine wpAny_IfExp (thn (hc pins s σ H _ I h) ?_)
 rintro d s1 ⟨H1,I1,q1⟩
 cases d with
 | true=>exact ha pins s1 σ H1 Q I1 q1
 | false=>exact hb pins s1 σ H1 Q I1 q1
end
def SqL(K:PySem.W.Frag)(H:Hp)(a:Addr)(xs:List V):Prop :=
 Rd H a (.lst xs) ∨
  ∃ (o:Obj) (its:Array Value) (n:Nat),K.lookup a=some o∧o.cls=.type "list"∧o.dict=none∧o.data=.seq its n∧its.size≤sizeLine∧Zv xs its.toList
def SqT(K:PySem.W.Frag)(H:Hp)(a:Addr)(xs:List V):Prop :=
 Rd H a (.tup xs) ∨
  ∃ (o:Obj) (its:Array Value) (n:Nat),K.lookup a=some o∧o.cls=.type "tuple"∧o.data=.seq its n∧its.size≤sizeLine∧Zv xs its.toList
def ZkY:Value→Option V
 | .none=>some .non
 | .bool b=>some (.bl b)
 | .int i _=>some (.int i)
 | .str x _=>some (.str x)
 | .bytes b _=>some (.byt b)
 | .float b _=>some (.flt b)
 | .ref a=>some (.ref a)
 | .type n=>some (.ty n)
 | _=>none
theorem ZA.abs{x:V}{u:Value}(r:ZA x u):ZkY u=some x:=by
 cases x with
 | non=>cases r;rfl
 | bl _=>cases r;rfl
 | int _=>obtain⟨t,rfl⟩:=r;rfl
 | str _=>obtain⟨t,rfl⟩:=r;rfl
 | byt _=>obtain⟨t,rfl⟩:=r;rfl
 | flt _=>obtain⟨t,rfl⟩:=r;rfl
 | ref _=>cases r;rfl
 | ty _=>cases r;rfl
theorem ZA.inj{x y:V}{u:Value}(r:ZA x u)(q:ZA y u):x=y:=Ql (r.abs.symm.trans q.abs)
theorem Zv.inj:∀ {xs ys:List V} {us:List Value},Zv xs us→Zv ys us→xs=ys
 | _,_,_,.nil,.nil=>rfl
 | _,_,_,.cons r t,.cons r' t'=>by rw[r.inj r',Zv.inj t t']
section
variable {X:Cx} {pins:List (Addr×Obj)} {σ:St} {H:Hp} {s:Shared} {a:Addr} {xs ys:List V}
theorem SqL.of{K:PySem.W.Frag}(h:H a=some (.lst xs)):SqL K H a xs:=.inl (.inl h)
theorem SqT.of{K:PySem.W.Frag}(h:H a=some (.tup xs)):SqT K H a xs:=.inl (.inl h)
theorem Inv.list(I:Inv X pins σ H s)(h:SqL X.K H a xs):∃its:List Value,Zv xs its∧PlainL s.heap a its.toArray∧xs.length≤sizeLine:=by
 rcases h with h|⟨o,its,n,hk,hc,hd,hs,hz,r⟩
 ·obtain⟨z,its,n,r,e⟩:=h.ok I.hok
  exact⟨its,r,⟨_,n,e,rfl,rfl,rfl⟩,z⟩
 ·refine⟨its.toList,r,⟨o,n,I.kIn a o hk,hc,hd,by simpa using hs⟩,?_⟩
  have e:=r.length
  simp only[Array.length_toList]at e
  omega
theorem Inv.tuple(I:Inv X pins σ H s)(h:SqT X.K H a xs):∃its:List Value,Zv xs its∧IsTup s.heap a its.toArray∧xs.length≤sizeLine:=by
 rcases h with h|⟨o,its,n,hk,hc,hs,hz,r⟩
 ·obtain⟨z,its,r,p⟩:=h.ok I.hok
  exact⟨its,r,p,z⟩
 ·refine⟨its.toList,r,⟨o,I.kIn a o hk,hc,n,by simpa using hs⟩,?_⟩
  have e:=r.length
  simp only[Array.length_toList]at e
  omega
theorem Inv.list_inj(I:Inv X pins σ H s)(h:SqL X.K H a xs)(h':SqL X.K H a ys):xs=ys:=by
 obtain⟨its,r,⟨o,n,e,_,_,d⟩,_⟩:=I.list h
 obtain⟨its',r',⟨o',n',e',_,_,d'⟩,_⟩:=I.list h'
 rw[e]at e';cases e'
 rw[d]at d'
 injection d' with d1 _
 have:its=its':=by simpa using congrArg Array.toList d1
 subst this
 exact r.inj r'
end
abbrev Cx.wish(X:Cx)(E:Value→Shared→Prop):Cx:={ X with xe:=E }
abbrev Cx.nox(X:Cx):Cx:=X.wish fun _ _=>False
theorem Cx.Ok.wish{X:Cx}(ok:X.Ok)(E:Value→Shared→Prop):(X.wish E).Ok :=
 ⟨ok.mod,ok.kind,ok.glob,ok.blt,ok.above,ok.inj,ok.has,ok.cab,ok.hd,ok.frames,ok.stk,ok.exf,ok.bs,ok.bsz,ok.noex,ok.exfs,ok.funs,ok.frf⟩
theorem Cx.Ok.unwish{X:Cx}{E:Value→Shared→Prop}(ok:(X.wish E).Ok):X.Ok :=
 ⟨ok.mod,ok.kind,ok.glob,ok.blt,ok.above,ok.inj,ok.has,ok.cab,ok.hd,ok.frames,ok.stk,ok.exf,ok.bs,ok.bsz,ok.noex,ok.exfs,ok.funs,ok.frf⟩
section
variable {X:Cx} {pins:List (Addr×Obj)} {σ:St} {H:Hp} {s:Shared} {E:Value→Shared→Prop}
theorem Inv.wish(I:Inv X pins σ H s)(E:Value→Shared→Prop):Inv (X.wish E) pins σ H s:=⟨I.ok.wish E,I.os,I.bare,I.base,I.loc,I.cell,I.free,I.freeC,I.pin,I.hok,I.len⟩
theorem Inv.unwish(I:Inv (X.wish E) pins σ H s):Inv X pins σ H s:=⟨I.ok.unwish,I.os,I.bare,I.base,I.loc,I.cell,I.free,I.freeC,I.pin,I.hok,I.len⟩
theorem SP.unwish{D:Zd2}{f:Flow}{s':Shared}(h:SP (X.wish E) pins D f s'):SP X pins D f s':=by
 cases f with
 | next=>obtain⟨σ',H',I,q⟩:=h;exact⟨σ',H',I.unwish,q⟩
 | brk=>obtain⟨σ',H',I,q⟩:=h;exact⟨σ',H',I.unwish,q⟩
 | cont=>obtain⟨σ',H',I,q⟩:=h;exact⟨σ',H',I.unwish,q⟩
 | ret u=>obtain⟨v,σ',H',I,r,q⟩:=h;exact⟨v,σ',H',I.unwish,r,q⟩
theorem PSs.nox{st:List Stmt}{t:TS}(h:PSs X.nox st t):PSs X st t:=fun pins s σ H D I hw =>
 wpAny_mono (h pins s σ H D (I.wish _) hw) (fun _ _ q=>q.unwish) fun _ _ z=>False.elim z
end
section
variable {X:Cx} {st:Stmt} {Zab:List Stmt} {t u:TS} {e:Expr} {te:TE} {pos:Pos}
def ZkK:TS:=fun D σ H=>D.nx σ H
def Zlh(t u:TS):TS:=fun D σ H=>t { D with nx:=u D } σ H
theorem ZL:PSs X [] ZkK:=fun _ _ σ H _ I h=>wpAny_execs_nil ⟨σ,H,I,h⟩
theorem Zf(h1:PS X st t)(h2:PSs X Zab u):PSs X (st::Zab) (Zlh t u):=by
 intro pins s σ H D I h
 refine wpAny_execs_cons (thn (h1 pins s σ H { D with nx:=u D } I h) fun f s1 q=>?_)
 cases f with
 | next =>
  obtain⟨σ',H',I',q⟩:=q
  exact h2 pins s1 σ' H' D I' q
 | ret v=>exact q
 | brk=>exact q
 | cont=>exact q
theorem Zi(h1:PS X st t):PSs X [st] t:=by
 intro pins s σ H D I h
 refine wpAny_execs_cons (thn (h1 pins s σ H D I h) fun f s1 q=>?_)
 cases f with
 | next=>exact wpAny_execs_nil q
 | ret v=>exact q
 | brk=>exact q
 | cont=>exact q
theorem Inv.quiet{pins:List (Addr×Obj)}{σ:St}{H:Hp}{s:Shared}(I:Inv X pins σ H s):interactive X.env=false:=by simp[interactive,I.ok.kind]
def ZjX(te:TE):TS:=fun D σ H=>te σ H fun _ H1=>D.nx σ H1
theorem ZaG(he:PE X e te)(hs:swapsWith e none pos.line X.env=pure false:=by rfl):PS X (.Expr e pos) (ZjX te):=by
 intro pins s σ H D I h
 exact wpAny_Expr_any (thn (he pins s σ H _ I h) fun v s1 ⟨x,H1,I1,r1,q1⟩=>⟨σ,H1,I1,q1⟩) I.quiet hs
def Zk7(te:TE):TS:=fun D σ H=>te σ H D.rt
theorem Zu(he:PE X e te):PS X (.Return (some e) pos) (Zk7 te):=by
 intro pins s σ H D I h
 exact wpAny_Return_some (thn (he pins s σ H _ I h) fun v s1 ⟨x,H1,I1,r1,q1⟩=>⟨x,σ,H1,I1,r1,q1⟩)
def ZkX(c:TT)(t u:TS):TS:=fun D σ H=>c σ H fun b H1=>if b=true then t D σ H1 else u D σ H1
theorem Zak{c:Expr}{a b:List Stmt}{tc:TT}(hc:PT X c tc)(ha:PSs X a t)(hb:PSs X b u):PS X (.If c a b pos) (ZkX tc t u):=by
 intro pins s σ H D I h
 refine wpAny_If (thn (hc pins s σ H _ I h) ?_)
 rintro d s1 ⟨H1,I1,q1⟩
 cases d with
 | true=>exact ha pins s1 σ H1 D I1 q1
 | false=>exact hb pins s1 σ H1 D I1 q1
end
abbrev TG:=V→St→Hp→(St→Hp→Prop)→Prop
abbrev TGs:=List V→St→Hp→(St→Hp→Prop)→Prop
def PG(X:Cx)(target:Expr)(t:TG):Prop :=
 ∀ (pins:List (Addr×Obj)) (s:Shared) (σ:St) (H:Hp) (v:V) (u:Value) (Q:St→Hp→Prop),Inv X pins σ H s→ZA v u→t v σ H Q →
  wpAny (model X.prog X.w) X.A (assign target X.env u) (fun _ s'=>∃σ' H',Inv X pins σ' H' s'∧Q σ' H') X.xe s
def PGs(X:Cx)(ts:List Expr)(t:TGs):Prop :=
 ∀ (pins:List (Addr×Obj)) (s:Shared) (σ:St) (H:Hp) (vs:List V) (us:List Value) (Q:St→Hp→Prop),Inv X pins σ H s→Zv vs us→t vs σ H Q →
  wpAny (model X.prog X.w) X.A (assignInOrder ((assignEach ts X.env).map (·.2)) us) (fun _ s'=>∃σ' H',Inv X pins σ' H' s'∧Q σ' H') X.xe s
abbrev ZhW:=V→V→V→Hp→(Hp→Prop)→Prop
def ZiX(X:Cx)(t:ZhW):Prop :=
 ∀ (pins:List (Addr×Obj)) (s:Shared) (σ:St) (H:Hp) (o i v:V) (ov iv u:Value) (Q:Hp→Prop),Inv X pins σ H s→ZA o ov→ZA i iv→ZA v u→t o i v H Q →
  wpAny (model X.prog X.w) X.A (setItem ov iv u) (fun _ s'=>∃H',Inv X pins σ H' s'∧Q H') X.xe s
abbrev TIp:=V→V→Hp→VK→Prop
def PIp(X:Cx)(op:Operator)(t:TIp):Prop :=
 ∀ (pins:List (Addr×Obj)) (s:Shared) (σ:St) (H:Hp) (x y:V) (v u:Value) (Q:VK),Inv X pins σ H s→ZA x v→ZA y u→t x y H Q →
  wpAny (model X.prog X.w) X.A (inplaceOp op v u) (EP X pins σ Q) X.xe s
section
variable {X:Cx} {pos:Pos}
def Zfy(i:Nat):TG:=fun v σ H Q=>Q (σ.set i (some v)) H
theorem ZJ{i:Nat}{x:Str}(hN:X.N.Nodup)(hi:X.N[i]? = some x)(hx:Loc X.env.scope x)(hf:X.fn x=true∨X.env.scope.names.lookup x=some .local:=by first|exact .inl rfl|exact .inr rfl|assumption):PG X (.Name x pos) (Zfy i):=by
 intro pins s σ H v u Q I r h
 exact wpAny_assign_Name (Zbx I hN hi hx r (fun s' I'=>⟨_,H,I',h⟩) hf)
def ZkQ:TGs:=fun vs σ H Q=>vs=[]∧Q σ H
def Zks(t:TG)(u:TGs):TGs:=fun vs σ H Q=>∃v r,vs=v::r∧t v σ H fun σ' H'=>u r σ' H' Q
theorem Zbf:PGs X [] ZkQ:=by
 intro pins s σ H vs us Q I r h
 obtain⟨e,h⟩:=h
 subst e
 cases r
 exact assignInOrder_nil ⟨σ,H,I,h⟩
theorem ZK{e:Expr}{es:List Expr}{t:TG}{u:TGs}(h1:PG X e t)(h2:PGs X es u)
  (hs:(assignEach (e::es) X.env).map (·.2)=assign e X.env::(assignEach es X.env).map (·.2):=by rfl):PGs X (e::es) (Zks t u):=by
 intro pins s σ H vs us Q I r h
 obtain⟨v,vr,e1,h⟩:=h
 subst e1
 cases r with
 | cons r rr =>
  rw[hs]
  refine assignInOrder_cons (thn (h1 pins s σ H _ _ _ I r h) ?_)
  rintro _ s1 ⟨σ1,H1,I1,q1⟩
  exact h2 pins s1 σ1 H1 _ _ Q I1 rr q1
def Zj5(K:PySem.W.Frag)(n:Nat)(t:TGs):TG:=fun v σ H Q=>∃a xs,v=.ref a∧SqT K H a xs∧xs.length=n∧t xs σ H Q
theorem ZjI{es:List Expr}{k:Nat}{t:TGs}{n:Nat}(hc:X.calm=true)(h:PGs X es t)
  (hn:(assignEach es X.env).length=n:=by rfl) (hst:(assignEach es X.env).findIdx? (·.1)=none:=by rfl):PG X (.Tuple es k pos) (Zj5 X.K n t):=by
 intro pins s σ H v u Q I r hw
 obtain⟨a,xs,e1,hq,hl,hw⟩:=hw
 subst e1
 cases r
 obtain⟨its,rv,ht,hz⟩:=I.tuple hq
 refine assign_Tuple_tuple (I.ok.hd hc) ht (by simp[hn,← hl,rv.length]) hst fun h' hx=>?_
 have I1:Inv X pins σ H { s with heap:=h' }:=I.kept (t':=s.toks) fun b o e=>hx b o (Qp (Qd e)) e
 exact h pins _ σ H xs _ Q I1 (by simpa using rv) hw
def Zlg(to ti:TE)(t:ZhW):TG:=fun v σ H Q=>to σ H fun o H1=>ti σ H1 fun i H2=>t o i v H2 fun H3=>Q σ H3
theorem Zcj{o i:Expr}{to ti:TE}{t:ZhW}(ho:PE X o to)(hi:PE X i ti)(hs:ZiX X t)
  (ha:∀v,assign (.Subscript o i pos) X.env v=(do
   let ov ← holding [v] (eval o X.env)
   let iv ← holding [v,ov] (eval i X.env)
   standAt pos
   holding [v,ov,iv] (setItem ov iv v)
   release [v,ov,iv] []):=by intro _;rfl):PG X (.Subscript o i pos) (Zlg to ti t):=by
 intro pins s σ H v u Q I r h
 rw[ha]
 refine wpAny_bind (wpAny_holding (thn (ho pins s σ H _ I h) ?_))
 rintro ov s1 ⟨x,H1,I1,r1,q1⟩
 refine wpAny_bind (wpAny_holding (thn (hi pins s1 σ H1 _ I1 q1) ?_))
 rintro iv s2 ⟨y,H2,I2,r2,q2⟩
 refine wpAny_bind (wpAny_standAt (wpAny_bind (wpAny_holding (thn (hs pins s2 σ H2 x y v ov iv u _ I2 r1 r2 r q2) ?_))))
 rintro _ s3 ⟨H3,I3,q3⟩
 exact wpAny_release ⟨σ,H3,I3,q3⟩
def ZjJ(te:TE)(g:TG):TS:=fun D σ H=>te σ H fun x H1=>g x σ H1 D.nx
theorem Zbe{tg e:Expr}{te:TE}{g:TG}(he:PE X e te)(hg:PG X tg g)(hs:swapsWithSole [tg] e pos.line X.env=pure false:=by rfl)(hw:swappedStores [tg] e X.env=pure none:=by rfl)
  (h1:(assignEach [tg] X.env).map (·.2)=[assign tg X.env]:=by rfl):PS X (.Assign [tg] e pos) (ZjJ te g):=by
 intro pins s σ H D I h
 refine wpAny_Assign_stores (thn (he pins s σ H _ I h) ?_) hs hw
 rintro v s1 ⟨x,H1,I1,r1,q1⟩
 rw[h1]
 exact thn (hg pins s1 σ H1 x v _ I1 r1 q1) fun _ s2 q=>q
theorem Zy{i:Nat}{x:Str}{e:Expr}{te:TE}{pos':Pos}(hN:X.N.Nodup)(hi:X.N[i]? = some x)(hx:Loc X.env.scope x)(he:PE X e te)(hs:swapsWith e (some (.Name x pos')) pos.line X.env=pure false:=by rfl)(hf:X.fn x=true∨X.env.scope.names.lookup x=some .local:=by first|exact .inl rfl|exact .inr rfl|assumption) :
  PS X (.Assign [.Name x pos'] e pos) (ZjJ te (Zfy i)):=by
 intro pins s σ H D I h
 refine wpAny_Assign_Name (thn (he pins s σ H _ I h) ?_) hs
 rintro v s1 ⟨y,H1,I1,r1,q1⟩
 exact Zbx I1 hN hi hx r1 (fun s2 I2=>⟨_,H1,I2,q1⟩) hf
def Zle(i:Nat)(te:TE)(ti:TIp):TS:=fun D σ H=>∃x,σ[i]? = some (some x)∧te σ H fun y H1=>ti x y H1 fun z H2=>D.nx (σ.set i (some z)) H2
theorem Zje{i:Nat}{x:Str}{e:Expr}{te:TE}{op:Operator}{ti:TIp}{pos':Pos}(hN:X.N.Nodup)(hi:X.N[i]? = some x)(hx:Loc X.env.scope x)(he:PE X e te)(ho:PIp X op ti)(hf:X.fn x=true∨X.env.scope.names.lookup x=some .local:=by first|exact .inl rfl|exact .inr rfl|assumption) :
  PS X (.AugAssign (.Name x pos') op e pos) (Zle i te ti):=by
 intro pins s σ H D I h
 obtain⟨v,e1,h⟩:=h
 obtain⟨m,hn,hl⟩:=I.loc
 have vis:Vis X.env.scope x:=by rcases hx with k|k;exact .inl k;exact .inr (.inl k)
 obtain⟨u,r,l⟩:=hl i x v hi e1 vis
 refine wpAny_AugAssign_Name ?_
 have go:wpAny (model X.prog X.w) X.A (eval e X.env) (fun w s₂=>wpAny (model X.prog X.w) X.A (inplaceOp op u w) (fun r s₃=>wpAny (model X.prog X.w) X.A (storeName X.env x r) (fun _=>SP X pins D .next) X.xe s₃) X.xe s₂) X.xe s:=by
  refine thn (he pins s σ H _ I h) ?_
  rintro w s1 ⟨y,H1,I1,r1,q1⟩
  refine thn (ho pins s1 σ H1 v y u w _ I1 r r1 q1) ?_
  rintro z s2 ⟨zv,H2,I2,r2,q2⟩
  exact Zbx I2 hN hi hx r2 (fun s3 I3=>⟨_,H2,I3,q2⟩) hf
 rcases l with⟨hk,hm⟩|⟨hk,c,hc,hcell⟩
 ·exact wpAny_loadName_local I.ok.kind hk hn hm go
 ·rcases hk with hk|hk
  ·exact wpAny_loadName_cell I.ok.kind hk hc hcell go
  ·rcases hx with k|k
   ·have:X.env.scope.names.lookup x=some .free:=hk
    rw[k]at this;cases this
   ·have:X.env.scope.names.lookup x=some .free:=hk
    rw[k]at this;cases this
def ipI(f:Int→Int→Int):TIp:=fun x y H Q=>∃i j,x=.int i∧y=.int j∧Q (.int (f i j)) H
theorem Zjy:PIp X .Add (ipI fun i j=>i+j):=by
 intro pins s σ H x y v u Q I r1 r2 h
 obtain⟨i,j,e1,e2,q⟩:=h
 subst e1;subst e2
 obtain⟨t,rfl⟩:=r1
 obtain⟨t',rfl⟩:=r2
 exact iadd_int ⟨.int _,H,I.tok _,⟨_,rfl⟩,q⟩
end
section
variable {X:Cx} {pos:Pos}
def ZjK(c:TT)(tb:TS):TS:=fun D σ H=>∃W:Nat→St→Hp→Prop,(∃m,W m σ H)∧∀m σ H,W m σ H →
 c σ H fun b H1=>if b=true then ∃N:St→Hp→Prop,(∀σ' H',N σ' H'→∃m',m'<m∧W m' σ' H')∧tb { D with nx:=N,ct:=N,bk:=D.nx } σ H1 else D.nx σ H1
theorem ZgJ{c:Expr}{body:List Stmt}{tc:TT}{tb:TS}(hp:PassesOwn (model X.prog X.w) X.A X.env X.xe)(hc:PT X c tc)(hb:PSs X body tb):PS X (.While c body [] pos) (ZjK tc tb):=by
 intro pins s σ H D I h
 obtain⟨W,⟨m0,w0⟩,turn⟩:=h
 refine wpAny_While (codeAny_whileLoop (fun n s'=>∃σ' H',Inv X pins σ' H' s'∧W n σ' H') ?_ m0 ⟨σ,H,I,w0⟩)
 rintro n s1 ⟨σ1,H1,I1,w1⟩
 refine wpAny_passesOwn hp (thn (hc pins s1 σ1 H1 _ I1 (turn n σ1 H1 w1)) ?_)
 rintro b s2 ⟨H2,I2,q2⟩
 cases b with
 | true =>
  obtain⟨N,hN,q2⟩:=q2
  rw[if_pos rfl]
  refine wpAny_passesOwn hp (thn (hb pins s2 σ1 H2 _ I2 q2) fun f s3 q3=>?_)
  cases f with
  | next =>
   obtain⟨σ3,H3,I3,n3⟩:=q3
   obtain⟨m',hm,w3⟩:=hN σ3 H3 n3
   exact⟨m',hm,σ3,H3,I3,w3⟩
  | cont =>
   obtain⟨σ3,H3,I3,n3⟩:=q3
   obtain⟨m',hm,w3⟩:=hN σ3 H3 n3
   exact⟨m',hm,σ3,H3,I3,w3⟩
  | brk=>exact q3
  | ret v=>exact q3
 | false =>
  rw[if_neg Qi]
  exact wpAny_execs_nil ⟨σ1,H2,I2,q2⟩
end
structure It where
 go:Nat→Hp→Prop
 yld:Nat→Hp→V→Hp→Prop
 stop:Nat→Hp→Prop
def Zc7(X:Cx)(pins:List (Addr×Obj))(H:Hp)(b:Addr):Prop :=
 H b=none∧b≠X.env.locals∧b ∉ X.fs∧(b∈X.ex∨X.s₀.heap.objs.size≤b)∧(∀x c,X.env.cells.lookup x=some c→c≠b)∧∀p∈X.pn++pins,p.1≠b
theorem Inv.fpOk{X:Cx}{pins:List (Addr×Obj)}{σ:St}{H H':Hp}{s:Shared}{b:Addr}(I:Inv X pins σ H s)(hb:s.heap.objs.size≤b)(hn:H' b=none):Zc7 X pins H' b:=by
 refine⟨hn,Qad (Qf I.lt hb),I.nofs hb,.inr (Qq I.sz hb),fun x c e z=>?_,fun p hp z=>?_⟩
 ·obtain⟨v,q⟩:=I.cell x c e
  exact absurd (Qf q.lt (by rw[z];exact hb)) (Q2 _)
 ·exact absurd (Qf (Qd (I.pin p hp).1) (by rw[z];exact hb)) (Q2 _)
structure ZhT (P:Program) (w:World) (K:PySem.W.Frag) (tg:Expr) (J:It) (fp:List Addr) (it:Addr) (tn:Nat→Heap→Prop):Prop where
 mem:it∈fp
 obj:∀i h,tn i h→∀b∈fp,∃o,h.get? b=some o∧∀v,o.data≠.cell v
 keep:∀i h h',tn i h→(∀b∈fp,∀o,h.get? b=some o→h'.get? b=some o)→tn i h'
 item:∀ (X:Cx),X.prog=P→X.w=w→X.K=K→X.calm=true→∀ (i:Nat) (pins:List (Addr×Obj)) (s:Shared) (σ:St) (H:Hp) (E:Value→Shared→Prop),Inv X pins σ H s→(∀b∈fp,Zc7 X pins H b)→tn i s.heap→J.go i H →
  wpAny (model P w) X.A (pyNext (.ref it)) (fun r s1=>∃u,r=some u ∧
   wpAny (model P w) X.A (letOwnedTupleGo tg (.ref it) u) (fun _ s2=>∃x H',Inv X pins σ H' s2∧ZA x u∧J.yld i H x H'∧tn (i+1) s2.heap∧∀b∈fp,H' b=none) E s1) E s
 done:∀ (X:Cx),X.prog=P→X.w=w→X.K=K→X.calm=true→∀ (i:Nat) (pins:List (Addr×Obj)) (s:Shared) (σ:St) (H:Hp) (E:Value→Shared→Prop),Inv X pins σ H s→(∀b∈fp,Zc7 X pins H b)→tn i s.heap→J.stop i H →
  wpAny (model P w) X.A (pyNext (.ref it)) (fun r s1=>r=none∧Inv X pins σ H s1) E s
 self:∀ (A:Around) (i:Nat) (s:Shared) (Q:Value→Shared→Prop) (E:Value→Shared→Prop),tn i s.heap→Q (.ref it) s→wpAny (model P w) A (pyIter (.ref it)) Q E s
abbrev TI:=St→Hp→(It→Hp→Prop)→Prop
def PIE(X:Cx)(pins:List (Addr×Obj))(σ:St)(tg:Expr)(R:It→Hp→Prop)(itv:Value)(s2:Shared):Prop :=
 ∃ (it:Addr) (fp:List Addr) (tn:Nat→Heap→Prop) (J:It) (H':Hp),itv=.ref it∧Inv X pins σ H' s2∧ZhT X.prog X.w X.K tg J fp it tn∧tn 0 s2.heap∧(∀b∈fp,Zc7 X pins H' b)∧R J H'
def PI(X:Cx)(tg iter:Expr)(wi:TI):Prop :=
 ∀ (pins:List (Addr×Obj)) (s:Shared) (σ:St) (H:Hp) (R:It→Hp→Prop),Inv X pins σ H s→wi σ H R →
  wpAny (model X.prog X.w) X.A (eval iter X.env) (fun v s1=>wpAny (model X.prog X.w) X.A (pyIter v) (PIE X pins σ tg R) X.xe s1) X.xe s
theorem ZiM{M:Model}{A:Around}{E:Value→Shared→Prop}{s:Shared}{tg:Expr}{it:Addr}{u:Value}{o:Obj}{n:String}{vs:Array Value}{Q:Unit→Shared→Prop}(ho:s.heap.get? it=some o)(hc:o.cls=.type n)(hd:o.data=.fields vs)
  (hn:["enumerate", "zip", "dict_itemiterator", "dict_reverseitemiterator", "odict_iterator", "itertools.zip_longest", "itertools.pairwise"].contains n=false) (hQ:Q () s):wpAny M A (letOwnedTupleGo tg (.ref it) u) Q E s:=by
 unfold letOwnedTupleGo
 cases tg<;>first
  | exact wpAny_pure hQ
  | (cases u<;>first
    | exact wpAny_pure hQ
    | (refine wpAny_bind (wpAny_load ho ?_);rw[hc,hd];show wpAny M A (if (["enumerate", "zip", "dict_itemiterator", "dict_reverseitemiterator", "odict_iterator", "itertools.zip_longest", "itertools.pairwise"].contains n&&vs[0]? == some (rawInt _))=true then _ else _) Q E s;rw[if_neg (by intro h;rw[hn,Bool.false_and]at h;cases h)];exact wpAny_pure hQ))
def Itl(K:PySem.W.Frag)(a:Addr):It :=
 ⟨fun i H=>∃xs x,SqL K H a xs∧xs[i]? = some x,fun i H x H'=>H'=H∧∀xs,SqL K H a xs→xs[i]? = some x,fun i H=>∃xs,SqL K H a xs∧xs.length≤i⟩
def Itr(lo:Int)(n:Nat):It:=⟨fun i _=>i<n,fun i H x H'=>H'=H∧x=.int (lo+i),fun i _=>n≤i⟩
theorem Zge{P:Program}{w:World}{K:PySem.W.Frag}{tg:Expr}(a it:Addr):ZhT P w K tg (Itl K a) [it] it (fun i h=>h.IsListIter it a i) where
 mem:=by simp
 obj:=fun i h st b hb=>by
  have e:b=it:=by simpa using hb
  subst e
  obtain⟨o,e,c,d⟩:=st
  exact⟨o,e,fun v z=>by rw[d]at z;cases z⟩
 keep:=fun i h h' st k=>st.at fun o e=>k it (by simp) o e
 item:=by
  intro X hP hw hK hc i pins s σ H E I hf st hg
  subst hP hw hK
  obtain⟨xs,x,hq,hx⟩:=hg
  obtain⟨its,rv,p,hz⟩:=I.list hq
  obtain⟨u,hu,ru⟩:=rv.get hx
  obtain⟨f0,f1,f2,f3,f4,f5⟩:=hf it (by simp)
  refine wpAny_pyNext_list_item st p.isList (x:=u) (by simpa using hu) fun h' st' sb=>?_
  have I1:Inv X pins σ H { s with heap:=h' }:=I.turned (t':=s.toks) (fun b o hb e=>(sb.2 b hb).trans e) f0 f1 f3 f4 f5
  obtain⟨o,e,c,d⟩:=id st'
  exact⟨u,rfl,ZiM (s:={ s with heap:=h' }) e c d (by decide) ⟨x,H,I1,ru,⟨rfl,fun ys hy=>by rw[I.list_inj hy hq];exact hx⟩,st',fun b hb=>(hf b hb).1⟩⟩
 done:=by
  intro X hP hw hK hc i pins s σ H E I hf st hg
  subst hP hw hK
  obtain⟨xs,hq,hx⟩:=hg
  obtain⟨its,rv,p,hz⟩:=I.list hq
  obtain⟨f0,f1,f2,f3,f4,f5⟩:=hf it (by simp)
  have hl:=rv.length
  exact wpAny_pyNext_list_end (I.ok.hd hc) st p.isList (by simp;omega) fun h' eb=>⟨rfl,I.turned (t':=s.toks) (fun b o hb e=>eb b o hb e) f0 f1 f3 f4 f5⟩
 self:=fun _ _ _ _ _ st h=>wpAny_pyIter_listiter st h
theorem Zfs{P:Program}{w:World}{K:PySem.W.Frag}{tg:Expr}(it:Addr)(lo:Int)(n:Nat):ZhT P w K tg (Itr lo n) [it] it (fun i h=>IsRangeIter h it (lo+(i:Nat)*1) ((n:Int)-(i:Nat)) 1) where
 mem:=by simp
 obj:=fun i h st b hb=>by
  have e:b=it:=by simpa using hb
  subst e
  exact⟨_,st,fun v z=>by
   have z':Data.fields _=Data.cell v:=z
   cases z'⟩
 keep:=fun i h h' st k=>k it (by simp) _ st
 item:=by
  intro X hP hw hK hc i pins s σ H E I hf st hg
  subst hP hw hK
  obtain⟨f0,f1,f2,f3,f4,f5⟩:=hf it (by simp)
  have W:=Walks.range (prog:=X.prog) (w:=X.w) (I.ok.hd hc) it lo 1 n
  refine W.item i s _ _ hg st fun v h' tk hv st' kk=>?_
  obtain⟨t,rfl⟩:=hv
  have I1:Inv X pins σ H { s with heap:=h',toks:=tk }:=I.turned (fun b o hb e=>kk b o (by simpa using hb) e) f0 f1 f3 f4 f5
  refine⟨_,rfl,ZiM (s:={ s with heap:=h',toks:=tk }) (n := "range_iterator") st' rfl rfl (by decide) ⟨.int (lo+i),H,I1,⟨t,?_⟩,⟨rfl,rfl⟩,st',fun b hb=>(hf b hb).1⟩⟩
  rw[Int.mul_one]
 done:=by
  intro X hP hw hK hc i pins s σ H E I hf st hg
  subst hP hw hK
  obtain⟨f0,f1,f2,f3,f4,f5⟩:=hf it (by simp)
  exact wpAny_pyNext_range_end (I.ok.hd hc) st (by have:n≤i:=hg;omega) fun h' eb=>⟨rfl,I.turned (t':=s.toks) (fun b o hb e=>eb b o hb e) f0 f1 f3 f4 f5⟩
 self:=fun _ _ _ _ _ st h=>wpAny_pyIter_rangeiter st h
section
variable {X:Cx} {tg:Expr}
def ZiR(K:PySem.W.Frag)(tl:TE):TI:=fun σ H R=>tl σ H fun x H1=>∃a,x=.ref a∧(∃xs,SqL K H1 a xs)∧R (Itl K a) H1
theorem Zip{l:Expr}{tl:TE}(hl:PE X l tl):PI X tg l (ZiR X.K tl):=by
 intro pins s σ H R I h
 refine thn (hl pins s σ H _ I h) ?_
 rintro v s1 ⟨x,H1,I1,r1,q1⟩
 obtain⟨a,e,⟨xs,hq⟩,q⟩:=q1
 subst e
 cases r1
 obtain⟨its,rv,p,hz⟩:=I1.list hq
 refine wpAny_pyIter_list p.isList ?_
 refine⟨s1.heap.objs.size,[s1.heap.objs.size],_,_,H1,rfl,I1.kept (t':=s1.toks) fun b o e=>Qc _ e,Zge a _,⟨_,Qy _ rfl,rfl,rfl⟩,fun b hb=>?_,q⟩
 have e:b=s1.heap.objs.size:=by simpa using hb
 subst e
 exact I1.fpOk (Qe _) (I1.hok.fresh (Qe _))
theorem Zew{pins:List (Addr×Obj)}{σ:St}{H:Hp}{s:Shared}{R:It→Hp→Prop}{E:Value→Shared→Prop}{lo hi:Int}{t u v:Tok}{tk:Nat}(I:Inv X pins σ H s)(h1:-(2 ^ 62)≤lo)(h2:lo<2 ^ 62)(h3:-(2 ^ 62)≤hi)(h4:hi<2 ^ 62)
  (q:R (Itr lo (hi-lo).toNat) H):wpAny (model X.prog X.w) X.A (pyIter (.ref s.heap.objs.size)) (PIE X pins σ tg R) E { s with heap:=s.heap.push { cls:=.type "range",data:=.fields #[.int lo t,.int hi u,.int 1 v] },toks:=tk }:=by
 refine wpAny_pyIter_range (IsRange.new ..) (small_one h1 h2 h3 h4) ?_
 have I1:Inv X pins σ H { s with heap:=s.heap.push { cls:=.type "range",data:=.fields #[.int lo t,.int hi u,.int 1 v] },toks:=tk }:=I.kept fun b o e=>Qc _ e
 refine⟨(s.heap.push { cls:=.type "range",data:=.fields #[.int lo t,.int hi u,.int 1 v] }).objs.size,[(s.heap.push { cls:=.type "range",data:=.fields #[.int lo t,.int hi u,.int 1 v] }).objs.size],_,_,H,rfl,
  I1.kept (t':=tk) fun b o e=>Qc _ e,Zfs _ lo (hi-lo).toNat,?_,fun b hb=>?_,q⟩
 ·have e1:lo+((0:Nat):Int)*1=lo:=by simp
  have e2:(((hi-lo).toNat:Nat):Int)-((0:Nat):Int)=Builtin.Range.rangeSize lo hi 1:=by rw[rangeSize_one];split<;>omega
  show IsRangeIter _ _ (lo+((0:Nat):Int)*1) ((((hi-lo).toNat:Nat):Int)-((0:Nat):Int)) 1
  rw[e1,e2]
  exact Qy _ rfl
 ·have e:b=(s.heap.push { cls:=.type "range",data:=.fields #[.int lo t,.int hi u,.int 1 v] }).objs.size:=by simpa using hb
  subst e
  exact I1.fpOk (Qe _) (I1.hok.fresh (Qe _))
def Zkk(ta:TA):TI:=fun σ H R=>ta σ H fun vs H1=>∃j:Int,vs=[.int j] ∧ -(2 ^ 62)≤j∧j<2 ^ 62∧R (Itr 0 j.toNat) H1
def Zkd(ta:TA):TI:=fun σ H R=>ta σ H fun vs H1=>∃i j:Int,vs=[.int i,.int j]∧(-(2 ^ 62)≤i∧i<2 ^ 62 ∧ -(2 ^ 62)≤j∧j<2 ^ 62)∧R (Itr i (j-i).toNat) H1
theorem ZaK{a:Expr}{ta:TA}{p pos:Pos}(hg:Gl X "range")(hm:X.mg "range" = none)(ha:PA X [a] ta)(hs:starEach [a] X.env=[(false,eval a X.env)]:=by rfl):PI X tg (.Call (.Name "range" p) [a] [] pos) (Zkk ta):=by
 intro pins s σ H R I h
 refine Call_ (Zcd I hg hm boot_range (QL (thn (ha pos pins s σ H _ I h) ?_) hs rfl))
 rintro us s1 ⟨vs,H1,I1,r1,q1⟩
 obtain⟨j,e,q1,q2,q⟩:=q1
 subst e
 cases r1 with
 | cons r rr =>
  cases rr
  obtain⟨t,rfl⟩:=r
  exact call_range_1 (Zew I1 (by omega) (by omega) q1 q2 (by simpa using q))
theorem ZdE{a b:Expr}{ta:TA}{p pos:Pos}(hg:Gl X "range")(hm:X.mg "range" = none)(ha:PA X [a,b] ta)(hs:starEach [a,b] X.env=[(false,eval a X.env),(false,eval b X.env)]:=by rfl)(hs2:starEach [b] X.env=[(false,eval b X.env)]:=by rfl) :
  PI X tg (.Call (.Name "range" p) [a,b] [] pos) (Zkd ta):=by
 intro pins s σ H R I h
 refine Call_ (Zcd I hg hm boot_range (QL (thn (ha pos pins s σ H _ I h) ?_) (by rw[hs,hs2]) (by rw[hs2];rfl)))
 rintro us s1 ⟨vs,H1,I1,r1,q1⟩
 obtain⟨i,j,e,⟨q1,q2,q3,q4⟩,q⟩:=q1
 subst e
 cases r1 with
 | cons r rr =>
  cases rr with
  | cons r' rr =>
   cases rr
   obtain⟨t,rfl⟩:=r
   obtain⟨t',rfl⟩:=r'
   exact call_range_2 (Zew I1 q1 q2 q3 q4 q)
def Zlc(wi:TI)(g:TG)(tb:TS):TS:=fun D σ H=>wi σ H fun J H1=>∃W:Nat→Nat→St→Hp→Prop,(∃m,W 0 m σ H1)∧∀i m σ H,W i m σ H →
 (J.stop i H∧D.nx σ H)∨(J.go i H∧∃N:St→Hp→Prop,(∀σ' H',N σ' H'→∃m',m'<m∧W (i+1) m' σ' H')∧∀x H',J.yld i H x H'→g x σ H' fun σ2 H2=>tb { D with nx:=N,ct:=N,bk:=D.nx } σ2 H2)
def ZcR(fp:List Addr)(h:Heap):List (Addr×Obj):=fp.filterMap fun b=>(h.get? b).map fun o=>(b,o)
theorem Zbd{fp:List Addr}{h:Heap}{b:Addr}{o:Obj}(hb:b∈fp)(e:h.get? b=some o):(b,o)∈ZcR fp h:=List.mem_filterMap.mpr ⟨b,hb,by rw[e];rfl⟩
theorem Zf5{fp:List Addr}{h:Heap}{p:Addr×Obj}(hp:p∈ZcR fp h):p.1∈fp∧h.get? p.1=some p.2:=by
 obtain⟨b,hb,e⟩:=List.mem_filterMap.mp hp
 cases q:h.get? b with
 | none=>rw[q]at e;cases e
 | some o =>
  rw[q]at e
  have e':(b,o)=p:=Ql e
  subst e'
  exact⟨hb,q⟩
theorem Inv.pinned{pins:List (Addr×Obj)}{σ:St}{H:Hp}{s:Shared}{fp:List Addr}(I:Inv X pins σ H s)(hf:∀b∈fp,Zc7 X pins H b)(ho:∀b∈fp,∃o,s.heap.get? b=some o∧∀v,o.data≠.cell v):Inv X (pins++ZcR fp s.heap) σ H s :=
 I.pins_of fun p hp=>(Qg.mp hp).elim (fun z=>I.pin p (Qn _ z)) fun z=>by
  obtain⟨hb,e⟩:=Zf5 z
  obtain⟨f0,f1,f2,_⟩:=hf p.1 hb
  obtain⟨o,e',d⟩:=ho p.1 hb
  rw[e]at e';cases e'
  exact⟨e,f0,f1,f2,d⟩
theorem Inv.unpinned{pins pl:List (Addr×Obj)}{σ:St}{H:Hp}{s:Shared}(I:Inv X (pins++pl) σ H s):Inv X pins σ H s:=I.pins_of fun p hp=>I.pin p (Qn _ (Qz _ hp))
theorem ZbW{iter:Expr}{body:List Stmt}{wi:TI}{g:TG}{tb:TS}{pos:Pos}(hp:PassesOwn (model X.prog X.w) X.A X.env X.xe)(hc:X.calm=true)(hi:PI X tg iter wi)(hg:PG X tg g)(hb:PSs X body tb)
  (hs:∀x,foldedSetIterable iter X.env x=pure x:=by intro _;rfl):PS X (.For tg iter body [] pos) (Zlc wi g tb):=by
 intro pins s σ H D I h
 refine wpAny_For (thn (hi pins s σ H _ I h) fun v s1 h1=>thn h1 fun itv s2 h2=>?_) hs
 obtain⟨it,fp,tn,J,H2,e,I2,T,st2,f2,W,⟨m0,w0⟩,turn⟩:=h2
 subst e
 have stat:∀ {H':Hp},(∀b∈fp,H' b=none)→∀b∈fp,Zc7 X pins H' b:=fun hn b hb=>⟨hn b hb,(f2 b hb).2⟩
 refine codeAny_forLoop_any (fun n s'=>∃i σ' H',Inv X pins σ' H' s'∧tn i s'.heap∧(∀b∈fp,H' b=none)∧W i n σ' H') ?_ m0 ⟨0,σ,H2,I2,st2,fun b hb=>(f2 b hb).1,w0⟩
 rintro n s3 ⟨i,σ3,H3,I3,st3,fr3,w3⟩
 rcases turn i n σ3 H3 w3 with⟨stop,qn⟩|⟨go,N,hN,step⟩
 ·refine wpAny_passesOwn hp (thn (T.done X rfl rfl rfl hc i pins s3 σ3 H3 X.xe I3 (stat fr3) st3 stop) ?_)
  rintro r s4 ⟨hr,I4⟩
  subst hr
  exact wpAny_execs_nil ⟨σ3,H3,I4,qn⟩
 ·refine wpAny_passesOwn hp (thn (T.item X rfl rfl rfl hc i pins s3 σ3 H3 X.xe I3 (stat fr3) st3 go) ?_)
  rintro r s4 ⟨u,hr,h4⟩
  subst hr
  refine wpAny_passesOwn hp (thn h4 ?_)
  rintro _ s5 ⟨x,H5,I5,r5,y5,st5,fr5⟩
  have I5':=I5.pinned (stat fr5) (T.obj _ _ st5)
  refine wpAny_passesOwn hp (thn (hg _ s5 σ3 H5 x u _ I5' r5 (step x H5 y5)) ?_)
  rintro _ s6 ⟨σ6,H6,I6,q6⟩
  refine wpAny_passesOwn hp (thn (hb _ s6 σ6 H6 _ I6 q6) fun f s7 q7=>?_)
  have again:∀ {σ7:St} {H7:Hp},Inv X (pins++ZcR fp s5.heap) σ7 H7 s7→N σ7 H7→∃m,m<n∧∃i σ' H',Inv X pins σ' H' s7∧tn i s7.heap∧(∀b∈fp,H' b=none)∧W i m σ' H':=fun {σ7 H7} I7 n7=>by
   obtain⟨m',hm,w7⟩:=hN σ7 H7 n7
   refine⟨m',hm,i+1,σ7,H7,I7.unpinned,T.keep _ _ _ st5 fun b hb o e=>(I7.pin (b,o) (Qn _ (Qn _ (Zbd hb e)))).1,fun b hb=>?_,w7⟩
   obtain⟨o,e,d⟩:=T.obj _ _ st5 b hb
   exact(I7.pin (b,o) (Qn _ (Qn _ (Zbd hb e)))).2.1
  cases f with
  | next=>obtain⟨σ7,H7,I7,n7⟩:=q7;exact again I7 n7
  | cont=>obtain⟨σ7,H7,I7,n7⟩:=q7;exact again I7 n7
  | brk=>obtain⟨σ7,H7,I7,q7⟩:=q7;exact⟨σ7,H7,I7.unpinned,q7⟩
  | ret v=>obtain⟨x7,σ7,H7,I7,r7,q7⟩:=q7;exact⟨x7,σ7,H7,I7.unpinned,r7,q7⟩
end
theorem ZbI{lo:Int}{n:Nat}{g:TG}{tb:TS}{D:Zd2}{σ:St}{H:Hp}(Pv:Nat→St→Hp→Prop)(h0:Pv 0 σ H)
  (hs:∀i σ H,i<n→Pv i σ H→g (.int (lo+i)) σ H fun σ2 H2=>tb { D with nx:=Pv (i+1),ct:=Pv (i+1),bk:=D.nx } σ2 H2) (hd:∀σ H,Pv n σ H→D.nx σ H) :
  ∃W:Nat→Nat→St→Hp→Prop,(∃m,W 0 m σ H)∧∀i m σ H,W i m σ H →
   ((Itr lo n).stop i H∧D.nx σ H)∨((Itr lo n).go i H∧∃N:St→Hp→Prop,(∀σ' H',N σ' H'→∃m',m'<m∧W (i+1) m' σ' H')∧∀x H',(Itr lo n).yld i H x H'→g x σ H' fun σ2 H2=>tb { D with nx:=N,ct:=N,bk:=D.nx } σ2 H2):=by
 refine⟨fun i m σ H=>m=n-i∧i≤n∧Pv i σ H,⟨n,by simp,Qu _,h0⟩,?_⟩
 rintro i m σ H ⟨rfl,hi,p⟩
 by_cases hlt:i<n
 ·refine .inr ⟨hlt,Pv (i+1),fun σ' H' p'=>⟨n-(i+1),by omega,rfl,hlt,p'⟩,fun x H' y=>?_⟩
  obtain⟨e,y⟩:=y
  subst e y
  exact hs i σ _ hlt p
 ·have e:i=n:=by omega
  subst e
  exact .inl ⟨Qe _,hd σ H p⟩
abbrev R2:=V→V→Hp→VK→Prop
def OpR(X:Cx)(f:Value→Value→Sem Value)(r:R2):Prop :=
 ∀ (pins:List (Addr×Obj)) (s:Shared) (σ:St) (H:Hp) (x y:V) (v u:Value) (Q:VK),Inv X pins σ H s→ZA x v→ZA y u→r x y H Q →
  wpAny (model X.prog X.w) X.A (f v u) (EP X pins σ Q) X.xe s
def UnR(X:Cx)(f:Value→Sem Value)(r:V→Hp→VK→Prop):Prop :=
 ∀ (pins:List (Addr×Obj)) (s:Shared) (σ:St) (H:Hp) (x:V) (v:Value) (Q:VK),Inv X pins σ H s→ZA x v→r x H Q →
  wpAny (model X.prog X.w) X.A (f v) (EP X pins σ Q) X.xe s
def Zau(X:Cx)(f:Value)(r:List V→Hp→VK→Prop):Prop :=
 ∀ (pins:List (Addr×Obj)) (s:Shared) (σ:St) (H:Hp) (xs:List V) (us:List Value) (Q:VK),Inv X pins σ H s→Zv xs us→r xs H Q →
  wpAny (model X.prog X.w) X.A (call f us) (EP X pins σ Q) X.xe s
def tOp(r:R2)(ta tb:TE):TE:=fun σ H Q=>ta σ H fun x H1=>tb σ H1 fun y H2=>r x y H2 Q
def tUn(r:V→Hp→VK→Prop)(ta:TE):TE:=fun σ H Q=>ta σ H fun x H1=>r x H1 Q
def rI(C:Int→Int→Prop)(g:Int→Int→V):R2:=fun x y H Q=>∃i j,x=.int i∧y=.int j∧C i j∧Q (g i j) H
def rI0(g:Int→Int→V):R2:=fun x y H Q=>∃i j,x=.int i∧y=.int j∧Q (g i j) H
def rU(g:Int→V):V→Hp→VK→Prop:=fun x H Q=>∃i,x=.int i∧Q (g i) H
section
variable {X:Cx} {a b c:Expr} {ta tb tc:TE} {pos:Pos}
theorem Zjd(ha:PE X a ta)(hb:PE X b tb){pins:List (Addr×Obj)}{s:Shared}{σ:St}{H:Hp}{R:V→V→Hp→Prop}(I:Inv X pins σ H s)
  (h:ta σ H fun x H1=>tb σ H1 fun y H2=>R x y H2) {Q:Value→Shared→Prop} {f:Value→Value→Sem Value}
  (hf:∀v u s2 x y H2,Inv X pins σ H2 s2→ZA x v→ZA y u→R x y H2→wpAny (model X.prog X.w) X.A (f v u) Q X.xe s2) :
  wpAny (model X.prog X.w) X.A (eval a X.env) (fun v s₁=>wpAny (model X.prog X.w) X.A (eval b X.env) (fun u s₂=>wpAny (model X.prog X.w) X.A (f v u) Q X.xe s₂) X.xe s₁) X.xe s:=by
 refine thn (ha pins s σ H _ I h) ?_
 rintro v s1 ⟨x,H1,I1,r1,q1⟩
 refine thn (hb pins s1 σ H1 _ I1 q1) ?_
 rintro u s2 ⟨y,H2,I2,r2,q2⟩
 exact hf v u s2 x y H2 I2 r1 r2 q2
theorem ZF{op:Operator}{r:R2}(ho:OpR X (binaryOp op) r)(ha:PE X a ta)(hb:PE X b tb):PE X (.BinOp a op b pos) (tOp r ta tb):=by
 intro pins s σ H Q I h
 exact wpAny_BinOp (Zjd ha hb I h fun v u s2 x y H2 I2 rx ry q=>ho pins s2 σ H2 x y v u Q I2 rx ry q)
theorem ZgW{op:UnaryOp}{r:V→Hp→VK→Prop}(ho:UnR X (unaryOp op) r)(ha:PE X a ta):PE X (.UnaryOp op a pos) (tUn r ta):=by
 intro pins s σ H Q I h
 exact UnaryOp_ (thn (ha pins s σ H _ I h) fun v s1 ⟨x,H1,I1,r1,q1⟩=>ho pins s1 σ H1 x v Q I1 r1 q1)
theorem opI{f:Value→Value→Sem Value}{C:Int→Int→Prop}{g:Int→Int→Int}
  (rule:∀ (i j:Int) (t u:Tok) (s:Shared) (Q:Value→Shared→Prop) (E:Value→Shared→Prop),C i j→Q (.int (g i j) s.toks) { s with toks:=s.toks+1 }→wpAny (model X.prog X.w) X.A (f (.int i t) (.int j u)) Q E s) :
  OpR X f (rI C fun i j=>.int (g i j)):=by
 intro pins s σ H x y v u Q I rx ry h
 obtain⟨i,j,rfl,rfl,hc,q⟩:=h
 obtain⟨t,rfl⟩:=rx
 obtain⟨t',rfl⟩:=ry
 exact rule i j t t' s _ _ hc ⟨.int (g i j),H,I.tok _,⟨_,rfl⟩,q⟩
theorem Zj6{f:Value→Value→Sem Value}{g:Int→Int→Int}
  (rule:∀ (i j:Int) (t u:Tok) (s:Shared) (Q:Value→Shared→Prop) (E:Value→Shared→Prop),Q (.int (g i j) s.toks) { s with toks:=s.toks+1 }→wpAny (model X.prog X.w) X.A (f (.int i t) (.int j u)) Q E s) :
  OpR X f (rI0 fun i j=>.int (g i j)):=by
 intro pins s σ H x y v u Q I rx ry h
 obtain⟨i,j,rfl,rfl,q⟩:=h
 obtain⟨t,rfl⟩:=rx
 obtain⟨t',rfl⟩:=ry
 exact rule i j t t' s _ _ ⟨.int (g i j),H,I.tok _,⟨_,rfl⟩,q⟩
theorem ZiZ{f:Value→Value→Sem Value}{g:Int→Int→Bool}
  (rule:∀ (i j:Int) (t u:Tok) (s:Shared) (Q:Value→Shared→Prop) (E:Value→Shared→Prop),Q (.bool (g i j)) s→wpAny (model X.prog X.w) X.A (f (.int i t) (.int j u)) Q E s) :
  OpR X f (rI0 fun i j=>.bl (g i j)):=by
 intro pins s σ H x y v u Q I rx ry h
 obtain⟨i,j,rfl,rfl,q⟩:=h
 obtain⟨t,rfl⟩:=rx
 obtain⟨t',rfl⟩:=ry
 exact rule i j t t' s _ _ ⟨.bl (g i j),H,I,rfl,q⟩
def Zk4(i j:Int):Prop:=0<j∧j<1073741824
def ZjS(i j:Int):Prop:=0≤j∧j≤1000000∧i.natAbs<2 ^ 64
def ZjH(i j:Int):Prop:=(-(2 ^ 64)<i∧i<2 ^ 64)∨(-(2 ^ 64)<j∧j<2 ^ 64)
theorem ZjH.ok{i j:Int}(h:ZjH i j):IntMulOk i j:=by
 rcases h with⟨h1,h2⟩|⟨h1,h2⟩
 ·exact .of_left (intBits_le_64 h1 h2)
 ·exact .of_right (intBits_le_64 h1 h2)
theorem ZaN:OpR X (binaryOp .Add) (rI0 fun i j=>.int (i+j)):=Zj6 fun _ _ _ _ _ _ _ q=>add_int q
theorem Zda:OpR X (binaryOp .Sub) (rI0 fun i j=>.int (i-j)):=Zj6 fun _ _ _ _ _ _ _ q=>sub_int q
theorem Zch:OpR X (binaryOp .Mult) (rI ZjH fun i j=>.int (i*j)):=opI fun _ _ _ _ _ _ _ hc q=>mul_int q hc.ok
theorem ZdY:OpR X (binaryOp .FloorDiv) (rI Zk4 fun i j=>.int (i / j)):=opI fun i j _ _ _ _ _ hc q=>by
 have h1:(0:Int)<j:=hc.1
 have h2:j<1073741824:=hc.2
 exact floordiv_int (by omega) (by rw[Int.fdiv_eq_ediv_of_nonneg i (by omega)];exact q) (.inl (PyProof.noPylong_small (by omega)))
theorem ZcM:OpR X (binaryOp .Mod) (rI (fun _ j=>0<j) fun i j=>.int (i % j)):=opI fun i j _ _ _ _ _ hc q=>by
 have h1:(0:Int)<j:=hc
 exact mod_int' (by omega) (by rw[Int.fmod_eq_emod_of_nonneg i (by omega)];exact q)
theorem Zi5:OpR X (binaryOp .Pow) (rI ZjS fun i j=>.int (i ^ j.toNat)):=opI fun _ _ _ _ _ _ _ hc q=>pow_int_small hc.1 hc.2.1 hc.2.2 q
theorem unI{f:Value→Sem Value}{g:Int→Int}
  (rule:∀ (i:Int) (t:Tok) (s:Shared) (Q:Value→Shared→Prop) (E:Value→Shared→Prop),Q (.int (g i) s.toks) { s with toks:=s.toks+1 }→wpAny (model X.prog X.w) X.A (f (.int i t)) Q E s) :
  UnR X f (rU fun i=>.int (g i)):=by
 intro pins s σ H x v Q I rx h
 obtain⟨i,rfl,q⟩:=h
 obtain⟨t,rfl⟩:=rx
 exact rule i t s _ _ ⟨.int (g i),H,I.tok _,⟨_,rfl⟩,q⟩
theorem ZeS:UnR X (unaryOp .USub) (rU fun i=>.int (-i)):=unI fun _ _ _ _ _ q=>neg_int q
end
def Zkq:V→V→Bool
 | .non,.non=>true|.non,.int _=>true|.int _,.non=>true|.non,.bl _=>true|.bl _,.non=>true|.non,.str _=>true|.str _,.non=>true
 | .int _,.int _=>true|.bl _,.bl _=>true|.str _,.str _=>true|.byt _,.byt _=>true
 | .int _,.str _=>true|.str _,.int _=>true|.bl _,.str _=>true|.str _,.bl _=>true
 | _,_=>false
def rEq:R2:=fun x y H Q=>Zkq x y=true∧Q (.bl (decide (x=y))) H
def rNe:R2:=fun x y H Q=>Zkq x y=true∧Q (.bl (!decide (x=y))) H
theorem ZfS{i j:Int}:decide (V.int i=V.int j)=(i == j):=by
 rw[Bool.eq_iff_iff]
 simp
theorem ZgM{i j:Bool}:decide (V.bl i=V.bl j)=(i == j):=by
 rw[Bool.eq_iff_iff]
 simp
theorem ZfR{i j:Str}:decide (V.str i=V.str j)=(i == j):=by
 rw[Bool.eq_iff_iff]
 simp
theorem Zfz{i j:Array UInt8}:decide (V.byt i=V.byt j)=(i.toList == j.toList):=by
 rw[Bool.eq_iff_iff]
 cases i
 cases j
 simp
section
variable {X:Cx} {a b c:Expr} {ta tb tc:TE} {pos:Pos}
theorem Zx{pins:List (Addr×Obj)}{σ:St}{H:Hp}{s:Shared}{Q:VK}{k k':Bool}(I:Inv X pins σ H s)(q:Q (.bl k) H)(e:k=k'):EP X pins σ Q (.bool k') s:=by
 subst e
 exact⟨.bl k,H,I,rfl,q⟩
theorem Zbl:OpR X (compareOp .Eq) rEq:=by
 intro pins s σ H x y v u Q I rx ry h
 obtain⟨hs,q⟩:=h
 cases x with
 | non =>
  cases rx
  cases y with
  | non=>cases ry;exact PySem.EqNone.eq_none_none (Zx I q (by simp))
  | bl j=>cases ry;exact PySem.EqNone.eq_none_bool (Zx I q (by simp))
  | int j=>obtain⟨t',rfl⟩:=ry;exact PySem.EqNone.eq_none_int (Zx I q (by simp))
  | str j=>obtain⟨t',rfl⟩:=ry;exact PySem.EqNone.eq_none_str (Zx I q (by simp))
  | _=>exact absurd (show false=true from hs) Qi
 | bl i =>
  cases rx
  cases y with
  | non=>cases ry;exact PySem.EqNone.eq_bool_none (Zx I q (by simp))
  | bl j=>cases ry;exact eq_bool (Zx I q ZgM)
  | str j=>obtain⟨t',rfl⟩:=ry;exact PySem.EqMixed.eq_bool_str (Zx I q (by simp))
  | _=>exact absurd (show false=true from hs) Qi
 | int i =>
  obtain⟨t,rfl⟩:=rx
  cases y with
  | non=>cases ry;exact PySem.EqNone.eq_int_none (Zx I q (by simp))
  | int j=>obtain⟨t',rfl⟩:=ry;exact eq_int (Zx I q ZfS)
  | str j=>obtain⟨t',rfl⟩:=ry;exact PySem.EqMixed.eq_int_str (Zx I q (by simp))
  | _=>exact absurd (show false=true from hs) Qi
 | str i =>
  obtain⟨t,rfl⟩:=rx
  cases y with
  | non=>cases ry;exact PySem.EqNone.eq_str_none (Zx I q (by simp))
  | bl j=>cases ry;exact PySem.EqMixed.eq_str_bool (Zx I q (by simp))
  | int j=>obtain⟨t',rfl⟩:=ry;exact PySem.EqMixed.eq_str_int (Zx I q (by simp))
  | str j=>obtain⟨t',rfl⟩:=ry;exact eq_str (Zx I q ZfR)
  | _=>exact absurd (show false=true from hs) Qi
 | byt i =>
  obtain⟨t,rfl⟩:=rx
  cases y with
  | byt j=>obtain⟨t',rfl⟩:=ry;exact PySem.W.eq_bytes (Zx I q Zfz)
  | _=>exact absurd (show false=true from hs) Qi
 | _=>cases y<;>exact absurd (show false=true from hs) Qi
theorem ZiU:OpR X (compareOp .NotEq) rNe:=by
 intro pins s σ H x y v u Q I rx ry h
 obtain⟨hs,q⟩:=h
 cases x with
 | non =>
  cases rx
  cases y with
  | non=>cases ry;exact PySem.EqNone.ne_none_none (Zx I q (by simp))
  | bl j=>cases ry;exact PySem.EqNone.ne_none_bool (Zx I q (by simp))
  | int j=>obtain⟨t',rfl⟩:=ry;exact PySem.EqNone.ne_none_int (Zx I q (by simp))
  | str j=>obtain⟨t',rfl⟩:=ry;exact PySem.EqNone.ne_none_str (Zx I q (by simp))
  | _=>exact absurd (show false=true from hs) Qi
 | bl i =>
  cases rx
  cases y with
  | non=>cases ry;exact PySem.EqNone.ne_bool_none (Zx I q (by simp))
  | bl j=>cases ry;exact ne_bool (Zx I q (congrArg not ZgM))
  | str j=>obtain⟨t',rfl⟩:=ry;exact PySem.EqMixed.ne_bool_str (Zx I q (by simp))
  | _=>exact absurd (show false=true from hs) Qi
 | int i =>
  obtain⟨t,rfl⟩:=rx
  cases y with
  | non=>cases ry;exact PySem.EqNone.ne_int_none (Zx I q (by simp))
  | int j=>obtain⟨t',rfl⟩:=ry;exact ne_int (Zx I q (congrArg not ZfS))
  | str j=>obtain⟨t',rfl⟩:=ry;exact PySem.EqMixed.ne_int_str (Zx I q (by simp))
  | _=>exact absurd (show false=true from hs) Qi
 | str i =>
  obtain⟨t,rfl⟩:=rx
  cases y with
  | non=>cases ry;exact PySem.EqNone.ne_str_none (Zx I q (by simp))
  | bl j=>cases ry;exact PySem.EqMixed.ne_str_bool (Zx I q (by simp))
  | int j=>obtain⟨t',rfl⟩:=ry;exact PySem.EqMixed.ne_str_int (Zx I q (by simp))
  | str j=>obtain⟨t',rfl⟩:=ry;exact ne_str (Zx I q (congrArg not ZfR))
  | _=>exact absurd (show false=true from hs) Qi
 | byt i =>
  obtain⟨t,rfl⟩:=rx
  cases y with
  | byt j=>obtain⟨t',rfl⟩:=ry;exact PySem.W.ne_bytes (Zx I q (congrArg not Zfz))
  | _=>exact absurd (show false=true from hs) Qi
 | _=>cases y<;>exact absurd (show false=true from hs) Qi
theorem ZdP:OpR X (compareOp .Lt) (rI0 fun i j=>.bl (decide (i<j))):=ZiZ fun _ _ _ _ _ _ _ q=>lt_int q
theorem ZgL:OpR X (compareOp .Gt) (rI0 fun i j=>.bl (decide (j<i))):=ZiZ fun _ _ _ _ _ _ _ q=>gt_int q
theorem ZkG:OpR X (compareOp .GtE) (rI0 fun i j=>.bl (decide (j≤i))):=ZiZ fun _ _ _ _ _ _ _ q=>ge_int q
theorem ZdB:OpR X (compareOp .Lt) (fun x y H Q=>∃i j,x=.str i∧y=.str j∧Q (.bl (decide (i.cps.toList<j.cps.toList))) H):=by
 intro pins s σ H x y v u Q I rx ry h
 obtain⟨i,j,rfl,rfl,q⟩:=h
 obtain⟨t,rfl⟩:=rx
 obtain⟨t',rfl⟩:=ry
 exact lt_str (Zx I q rfl)
theorem ZcT:OpR X (compareOp .Is) (fun x y H Q=>y=.non∧Q (.bl (decide (x=.non))) H):=by
 intro pins s σ H x y v u Q I rx ry h
 obtain⟨rfl,q⟩:=h
 cases ry
 refine is_none_gen (Zx I q ?_)
 cases x<;>first
  | (cases rx;rfl)
  | (obtain⟨t,rfl⟩:=rx;rfl)
theorem Zec:OpR X (compareOp .IsNot) (fun x y H Q=>y=.non∧Q (.bl (!decide (x=.non))) H):=by
 intro pins s σ H x y v u Q I rx ry h
 obtain⟨rfl,q⟩:=h
 cases ry
 refine isnot_none_gen (Zx I q ?_)
 cases x<;>first
  | (cases rx;rfl)
  | (obtain⟨t,rfl⟩:=rx;rfl)
theorem Zw(b:Expr){op:CmpOp}(h:op≠.In:=by decide)(h2:op≠.NotIn:=by decide):behindInMarks op b=false:=by
 have e1:(op == CmpOp.In)=false:=by cases op<;>first|rfl|exact absurd rfl h
 have e2:(op == CmpOp.NotIn)=false:=by cases op<;>first|rfl|exact absurd rfl h2
 cases b<;>simp[behindInMarks,e1,e2]
theorem Zil{op:CmpOp}{r:R2}(ho:OpR X (compareOp op) r)(ha:PE X a ta)(hb:PE X b tb)(hm:behindInMarks op b=false):PE X (.Compare a [op] [b] pos) (tOp r ta tb):=by
 intro pins s σ H Q I h
 exact wpAny_Compare1 (Zjd ha hb I h fun v u s2 x y H2 I2 rx ry q=>ho pins s2 σ H2 x y v u Q I2 rx ry q) hm
def ZkH(t:TE):TT:=fun σ H Q=>t σ H fun x H'=>∃k,x=.bl k∧Q k H'
theorem Zr{op:CmpOp}{r:R2}(ho:OpR X (compareOp op) r)(ha:PE X a ta)(hb:PE X b tb)(hm:behindInMarks op b=false):PT X (.Compare a [op] [b] pos) (ZkH (tOp r ta tb)):=by
 intro pins s σ H Q I h
 refine wpAny_isTrue_Compare1 (thn (ha pins s σ H _ I h) fun v s1 ⟨x,H1,I1,r1,q1⟩=>thn (hb pins s1 σ H1 _ I1 q1) fun u s2 ⟨y,H2,I2,r2,q2⟩=>
  thn (ho pins s2 σ H2 x y v u _ I2 r1 r2 q2) fun c s3 ⟨z,H3,I3,r3,k,e,q3⟩=>?_) hm
 subst e
 cases r3
 exact wpAny_truthy_bool ⟨H3,I3,q3⟩
theorem Zc9:(sizeLine:Nat)<2 ^ 63:=by rw[sizeLine_eq];decide
theorem Ze7:OpR X (binaryOp .Add) (fun x y H Q=>∃i j,x=.str i∧y=.str j∧i.length+j.length≤sizeLine∧Q (.str (i++j)) H):=by
 intro pins s σ H x y v u Q I rx ry h
 obtain⟨i,j,rfl,rfl,hz,q⟩:=h
 obtain⟨t,rfl⟩:=rx
 obtain⟨t',rfl⟩:=ry
 exact add_str (fun t' tk=>⟨.str (i++j),H,I.tok _,⟨_,rfl⟩,q⟩) hz
theorem ZbO{x:V}{us:List Value}(r:Zv [x] us):∃u,us=[u]∧ZA x u:=by
 cases r with
 | cons r1 r2=>cases r2;exact⟨_,rfl,r1⟩
theorem ZeL:Zau X (.builtin "abs") (fun xs H Q=>∃i,xs=[.int i]∧Q (.int (if i<0 then -i else i)) H):=by
 intro pins s σ H xs us Q I r h
 obtain⟨i,rfl,q⟩:=h
 obtain⟨u,rfl,t,rfl⟩:=ZbO r
 exact call_abs_int fun u tk=>⟨.int (if i<0 then -i else i),H,I.tok _,⟨_,rfl⟩,q⟩
theorem Zgt:Zau X (.type "int") (fun xs H Q=>(∃i,xs=[.int i]∧Q (.int i) H)∨∃k,xs=[.bl k]∧Q (.int (if k then 1 else 0)) H):=by
 intro pins s σ H xs us Q I r h
 rcases h with⟨i,rfl,q⟩|⟨k,rfl,q⟩
 ·obtain⟨u,rfl,t,rfl⟩:=ZbO r
  exact call_int_int ⟨.int i,H,I,⟨_,rfl⟩,q⟩
 ·obtain⟨u,rfl,r1⟩:=ZbO r
  cases r1
  exact call_int_bool ⟨.int (if k then 1 else 0),H,I.tok _,⟨_,rfl⟩,q⟩
end
structure Zfk (h:Heap) (x dx C:Addr) (mA:Str→Option Value):Prop where
 obj:h.get? x=some (PySem.W.instObj C dx)
 ns:h.Ns1 dx mA
 ne:dx≠x
theorem Zdu{h:Heap}{dx:Addr}{mA:Str→Option Value}(n:h.Ns1 dx mA):∃od,h.get? dx=some od∧∀name,PySem.W.lookIn name od=some (mA name):=by
 obtain⟨o,es,ep,ho,hd,hk,_,hm⟩:=n
 refine⟨o,ho,fun name=>?_⟩
 have e:=hm name
 unfold nsFind findBy at e
 rw[← Array.find?_toList]at e
 unfold PySem.W.lookIn
 rw[hd]
 dsimp only
 split
 ·rename_i y q
  rw[q]at e
  exact congrArg some e
 ·rename_i q
  rw[q]at e
  have a:es.toList.any (·.refKey)=false:=by
   rw[List.any_eq_false]
   intro y hy
   obtain⟨z,t,hkey⟩:=hk y (Array.mem_toList_iff.mp hy)
   simp[DictEntry.refKey,hkey]
  have a':¬ es.toList.any (·.refKey)=true:=by rw[a];exact Qi
  rw[if_neg a']
  exact congrArg some e
theorem Zfk.look{h:Heap}{x dx C:Addr}{mA:Str→Option Value}(I:Zfk h x dx C mA):∃od,PySem.W.InstAt h x (PySem.W.instObj C dx) C (some od)∧∀name,PySem.W.lookIn name od=some (mA name) :=
 let ⟨od,ho,hl⟩:=Zdu I.ns
 ⟨od,⟨I.obj,rfl,rfl,ho⟩,hl⟩
section
variable {prog:Program} {w:World} {A:Around} {E:Value→Shared→Prop} {s:Shared} {K:PySem.W.Frag} {x dx C f:Addr} {mA:Str→Option Value} {name:Str} {v:Value}
theorem Zii{expr:Bool}{Q:Value→Shared→Prop}(X:K.In s.heap)(I:Zfk s.heap x dx C mA)(hg:PySem.W.plainGet K C name=true)(hh:PySem.W.hasDictIn K C=true)
  (ha:PySem.W.findIn K (.ref C) name=some none) (hv:mA name=some v) (hv':PySem.W.handedIn v=true) (h:Q v { s with toks:=s.toks+1 }) :
  wpAny (model prog w) A (getAttr (.ref x) name expr) Q E s:=by
 obtain⟨od,J,hl⟩:=I.look
 exact PySem.W.get_value X J (PySem.W.plainGet_of hg).1 (PySem.W.findObj_own hh ha rfl (by rw[hl,hv])) hv' h
theorem Zha{pl:Sem Bool}{Q:Value×List Value→Shared→Prop}(X:K.In s.heap)(I:Zfk s.heap x dx C mA)(hg:PySem.W.plainGet K C name=true)
  (hf:PySem.W.findIn K (.ref C) name=some (some (.ref f))) (ht:PySem.W.isFn K (.ref f)=true) (hv:mA name=none) (h:Q (.ref f,[.ref x]) s) :
  wpAny (model prog w) A (getMethod (.ref x) name pl) Q E s:=by
 obtain⟨od,J,hl⟩:=I.look
 exact PySem.W.method_fn X J (PySem.W.plainGet_of hg).1 (PySem.W.plainGet_of hg).2 hf (beq_iff_eq.mp ht) (by show (PySem.W.lookIn name od).map (·.isSome)=some false;rw[hl,hv];rfl) h
theorem Zim{ns:List Str}{Q:Unit→Shared→Prop}(X:K.In s.heap)(I:Zfk s.heap x dx C mA)
  (hs:PySem.W.findIn K (.ref C) "__setattr__" = some (some (.builtin "object.__setattr__"))) (hp:PySem.W.plainOver K C=true) (ht:PySem.W.takerIn K C name=some none) (hh:PySem.W.hasDictIn K C=true)
  (hw:PySem.Within mA ns) (hsz:ns.length≤sizeLine)
  (h:∀h',Zfk h' x dx C (fun y=>if y=name then some v else mA y)→Heap.SameBut dx s.heap h'→Q () { s with heap:=h',toks:=s.toks+2 }) :
  wpAny (model prog w) A (setAttr (.ref x) name v) Q E s:=by
 obtain⟨od,J,hl⟩:=I.look
 refine PySem.W.set_plain X J hs (PySem.W.osa_open (s:={ s with toks:=s.toks+1 }) (r:=none) X J hp ht fun b=>?_)
 obtain⟨cd,hc,hd'⟩:=Qai hh
 have hx:s.heap.get? x=some ⟨.ref C,some dx,.plain,#[]⟩:=I.obj
 refine wpAny_bind (wpAny_pure (wpAny_bind (wpAny_bind (wpAny_loadPart hx (wpAny_bind (PySem.W.Looks.here (s:={ s with toks:=s.toks+1 }) (PySem.W.looks_clsIn X hc) ?_))))))
 rw[hd']
 refine wpAny_pure (a:=some dx) (wpAny_bind (wpAny_pure (wpAny_bind ?_)))
 refine wpAny_nsSet1 (s:={ s with toks:=s.toks+1 }) I.ns fun h' hn2 hs2=>?_
 obtain⟨oD,esD,epD,hoD,hdD,hcD⟩:=hn2.count (PySem.Within.cons name v hw)
 refine wpAny_bind (wpAny_lookBehind hoD (by rw[hdD];exact pastItsLine_dict (Qq hcD (by rw[QB];omega))) ?_)
 exact wpAny_pure (h _ ⟨(hs2.2 _ (Ne.symm I.ne)).trans I.obj,hn2,I.ne⟩ hs2)
theorem Zep{R:Result→Shared→Prop}{vs:List Value}{kw:List (Str×Value)}(X:K.In s.heap)(hm:PySem.W.makesIn K C=true)
  (hi:PySem.W.findIn K (.ref C) "__init__" = some (some (.ref f))) (hf:PySem.W.typeIn K (.ref f)=some (.type "function"))
  (h:codeAny (model prog w) (A.under (.builtin "type.__call__" ⟨.ref C::vs,kw⟩)) (.call (.ref f) ⟨.ref (s.heap.objs.size+1)::vs,kw⟩) (PySem.W.InitBack (s.heap.objs.size+1) R)
   { s with heap:=(s.heap.push PySem.W.emptyDict).push (PySem.W.instObj C s.heap.objs.size) }) :
  codeAny (model prog w) A (.call (.ref C) ⟨vs,kw⟩) R s:=by
 obtain⟨hh,g,d,t,os⟩:=s
 exact PySem.W.make_core (PySem.W.makes_of X hm) (QI X hi) (fun self=>PySem.W.bind_fn X self hf) (.inl rfl) h
end
def Zl(f:Str)(v:V):List (Str×V)→List (Str×V)
 | []=>[(f,v)]
 | (g,x)::r=>if g=f then (g,v)::r else (g,x)::Zl f v r
theorem Zj(f g:Str)(v:V):∀fs:List (Str×V),(Zl f v fs).lookup g=if g=f then some v else fs.lookup g
 | []=>by
  show List.lookup g [(f,v)]=_
  by_cases h:g=f
  ·have hb:(g == f)=true:=beq_iff_eq.mpr h
   simp only[List.lookup,hb,if_pos h]
  ·have hb:(g == f)=false:=beq_eq_false_iff_ne.mpr h
   simp only[List.lookup,hb,if_neg h]
 | (k,x)::r=>by
  have ih:=Zj f g v r
  rw[show Zl f v ((k,x)::r)=(if k=f then (k,v)::r else (k,x)::Zl f v r) from rfl]
  by_cases hk:k=f
  ·rw[if_pos hk]
   by_cases h:g=k
   ·have hb:(g == k)=true:=beq_iff_eq.mpr h
    simp only[List.lookup,hb,if_pos (h.trans hk)]
   ·have hb:(g == k)=false:=beq_eq_false_iff_ne.mpr h
    simp only[List.lookup,hb,if_neg (fun e:g=f=>h (e.trans hk.symm))]
  ·rw[if_neg hk]
   by_cases h:g=k
   ·have hb:(g == k)=true:=beq_iff_eq.mpr h
    simp only[List.lookup,hb,if_neg (fun e:g=f=>hk (h.symm.trans e))]
   ·have hb:(g == k)=false:=beq_eq_false_iff_ne.mpr h
    simp only[List.lookup,hb]
    exact ih
theorem Za1(f:Str)(v:V):∀fs:List (Str×V),f∈(Zl f v fs).map (·.1)∧∀g,g∈fs.map (·.1)→g∈(Zl f v fs).map (·.1)
 | []=>⟨by simp[Zl],fun g h=>by simp at h⟩
 | (k,x)::r=>by
  obtain⟨i1,i2⟩:=Za1 f v r
  rw[show Zl f v ((k,x)::r)=(if k=f then (k,v)::r else (k,x)::Zl f v r) from rfl]
  by_cases hk:k=f
  ·rw[if_pos hk]
   subst hk
   exact⟨by simp,fun g h=>by simpa using h⟩
  ·rw[if_neg hk]
   refine⟨?_,fun g h=>?_⟩
   ·rw[Qx]
    exact Qo _ i1
   ·rw[Qx]at h ⊢
    rcases QE.mp h with e|e
    ·exact List.mem_cons.mpr (.inl e)
    ·exact Qo _ (i2 g e)
theorem Zco(f:Str)(v:V):∀fs:List (Str×V),(Zl f v fs).length≤fs.length+1
 | []=>by simp[Zl]
 | (k,x)::r=>by
  have ih:=Zco f v r
  rw[show Zl f v ((k,x)::r)=(if k=f then (k,v)::r else (k,x)::Zl f v r) from rfl]
  by_cases hk:k=f
  ·rw[if_pos hk,QB,QB];omega
  ·rw[if_neg hk,QB,QB];omega
theorem Za0.some_of{v:V}{o:Option Value}(r:Za0 (some v) o):∃u,o=some u∧ZA v u:=by
 cases o with
 | none=>exact(show False from r).elim
 | some u=>exact⟨u,rfl,r⟩
theorem Za0.none_of{o:Option Value}(r:Za0 none o):o=none:=by
 cases o with
 | none=>rfl
 | some u=>exact(show False from r).elim
theorem ZdF{v:V}{u:Value}(r:ZA v u):PySem.W.handedIn u=true:=by
 cases v with
 | non=>cases (show u=Value.none from r);rfl
 | bl b=>cases (show u=Value.bool b from r);rfl
 | int i=>obtain⟨t,e⟩:=(show ∃t,u=Value.int i t from r);cases e;rfl
 | str x=>obtain⟨t,e⟩:=(show ∃t,u=Value.str x t from r);cases e;rfl
 | byt b=>obtain⟨t,e⟩:=(show ∃t,u=Value.bytes b t from r);cases e;rfl
 | flt b=>obtain⟨t,e⟩:=(show ∃t,u=Value.float b t from r);cases e;rfl
 | ref a=>cases (show u=Value.ref a from r);rfl
 | ty n=>cases (show u=Value.type n from r);rfl
section
variable {P:Program} {w:World} {H H':Hp} {h h':Heap} {a C dx:Addr} {fs fs':List (Str×V)}
theorem Zed(hok:HOk P w H h)(e:H a=some (.ins C dx fs)):∃mA,Zfk h a dx C mA∧(∀f,Za0 (fs.lookup f) (mA f))∧PySem.Within mA (fs.map (·.1))∧fs.length≤1000∧H dx=some (.own a):=by
 obtain⟨d,z,ne,ob,mA,n,r,q⟩:=(show Z6 P w H h a (.ins C dx fs) from hok a _ e)
 exact⟨mA,⟨ob,n,ne⟩,r,q,z,d⟩
end
structure Cls (K:PySem.W.Frag) (C:Addr):Prop where
 pg:PySem.W.plainGet K C Str.empty=true
 hd:PySem.W.hasDictIn K C=true
 po:PySem.W.plainOver K C=true
 sa:PySem.W.findIn K (.ref C) "__setattr__" = some (some (.builtin "object.__setattr__"))
theorem Cls.get{K:PySem.W.Frag}{C:Addr}(c:Cls K C)(f:Str):PySem.W.plainGet K C f=true:=c.pg
def ZP(K:PySem.W.Frag)(C:Addr)(f:Str):Prop:=PySem.W.findIn K (.ref C) f=some none
theorem ZP.taker{K:PySem.W.Frag}{C:Addr}{f:Str}(n:ZP K C f):PySem.W.takerIn K C f=some none:=by
 unfold PySem.W.takerIn
 rw[show PySem.W.findIn K (.ref C) f=some none from n]
 rfl
structure Con (K:PySem.W.Frag) (C:Addr) (f:Str) (v:V) (u:Value):Prop where
 at_:PySem.W.findIn K (.ref C) f=some (some u)
 rel:ZA v u
 get:PySem.W.specialIn K u "__get__" = some none
 cp:PySem.W.copiedNames.contains f=false
structure Zg5 (K:PySem.W.Frag) (C:Addr) (m:Str) (f:Addr):Prop where
 at_:PySem.W.findIn K (.ref C) m=some (some (.ref f))
 fn:PySem.W.isFn K (.ref f)=true
 kp:PySem.W.keepIn K (.ref f)=true
section
variable {X:Cx} {pins:List (Addr×Obj)} {σ:St} {H:Hp} {s:Shared} {a C dx:Addr} {fs:List (Str×V)} {f:Str} {v:V} {A:Around} {E:Value→Shared→Prop}
theorem ZcF{b:Bool}{Q:Value→Shared→Prop}(I:Inv X pins σ H s)(e:H a=some (.ins C dx fs))(c:Cls X.K C)(n:ZP X.K C f)(l:fs.lookup f=some v)
  (h:∀u s',Inv X pins σ H s'→ZA v u→Q u s'):wpAny (model X.prog X.w) A (getAttr (.ref a) f b) Q E s:=by
 obtain⟨mA,O,r,_,_,_⟩:=Zed I.hok e
 obtain⟨u,hu,ru⟩:=Za0.some_of (v:=v) (o:=mA f) (by rw[← l];exact r f)
 exact Zii I.kIn O (c.get f) c.hd n hu (ZdF ru) (h u _ (I.tok _) ru)
theorem ZcI{m:Str}{g:Addr}{pl:Sem Bool}{Q:Value×List Value→Shared→Prop}(I:Inv X pins σ H s)(e:H a=some (.ins C dx fs))(c:Cls X.K C)(k:Zg5 X.K C m g)(l:fs.lookup m=none)
  (h:Q (.ref g,[.ref a]) s):wpAny (model X.prog X.w) A (getMethod (.ref a) m pl) Q E s:=by
 obtain⟨mA,O,r,_,_,_⟩:=Zed I.hok e
 have hn:mA m=none:=Za0.none_of (by rw[← l];exact r m)
 exact Zha I.kIn O (c.get m) k.at_ k.fn hn h
theorem Zde{y:V}{u:Value}{Q:Unit→Shared→Prop}(I:Inv X pins σ H s)(e:H a=some (.ins C dx fs))(c:Cls X.K C)(n:ZP X.K C f)(hl:fs.length<1000)(ry:ZA y u)
  (h:∀s',Inv X pins σ (upd H a (.ins C dx (Zl f y fs))) s'→Q () s'):wpAny (model X.prog X.w) A (setAttr (.ref a) f u) Q E s:=by
 obtain⟨mA,O,r,wi,_,ho⟩:=Zed I.hok e
 have hz:(fs.map (·.1)).length≤sizeLine:=by rw[Qb,sizeLine_eq];omega
 refine Zim I.kIn O c.sa c.po n.taker c.hd wi hz fun h' O' sb=>h _ ?_
 have hd:∃o,h'.get? dx=some o:=let ⟨o,_,_,e',_⟩:=O'.ns;⟨o,e'⟩
 refine I.write (x:=a) (e:=dx) (by rw[e];exact True.intro) (.inr ho) (fun b q hb z=>(sb.2 b hb).trans z) hd ?_
 refine⟨by rw[Zc O.ne];exact ho,?_,O.ne,O'.obj,_,O'.ns,fun g=>?_,fun g hg=>?_⟩
 ·have:=Zco f y fs;omega
 ·show Za0 ((Zl f y fs).lookup g) (if g=f then some u else mA g)
  rw[Zj]
  by_cases q:g=f
  ·rw[if_pos q,if_pos q];exact ry
  ·rw[if_neg q,if_neg q];exact r g
 ·by_cases q:g=f
  ·rw[q];exact(Za1 f y fs).1
  ·refine(Za1 f y fs).2 g (wi g fun z=>hg ?_)
   show (if g=f then some u else mA g)=none
   rw[if_neg q];exact z
theorem Inv.made(I:Inv X pins σ H s):Inv X pins σ (upd (upd H s.heap.objs.size (.own (s.heap.objs.size+1))) (s.heap.objs.size+1) (.ins C s.heap.objs.size []))
  { s with heap:=(s.heap.push PySem.W.emptyDict).push (PySem.W.instObj C s.heap.objs.size) }:=by
 have e1:(s.heap.push PySem.W.emptyDict).get? s.heap.objs.size=some PySem.W.emptyDict:=Qy s.heap rfl
 have e2:((s.heap.push PySem.W.emptyDict).push (PySem.W.instObj C s.heap.objs.size)).get? (s.heap.objs.size+1)=some (PySem.W.instObj C s.heap.objs.size):=by
  have:=Qy (s.heap.push PySem.W.emptyDict) (o:=PySem.W.instObj C s.heap.objs.size) rfl
  rwa [Qae]at this
 have e3:(s.heap.push PySem.W.emptyDict).Ns s.heap.objs.size (fun _=>none):=⟨PySem.W.emptyDict,#[],_,e1,rfl,(fun e he=>absurd he (by simp)),fun _=>rfl⟩
 have I1:=I.laid (a:=s.heap.objs.size) (o:=.own (s.heap.objs.size+1)) (h':=s.heap.push PySem.W.emptyDict) (t':=s.toks) (fun b u q=>Qc _ q) (Qe _) ⟨_,e1⟩
 refine I1.laid (a:=s.heap.objs.size+1) (o:=.ins C s.heap.objs.size []) (t':=s.toks) (fun b u q=>Qc _ q) (Nat.le_of_eq (Qae _ _)) ?_
 have ne:s.heap.objs.size≠s.heap.objs.size+1:=Qp (Q4 _)
 refine⟨by rw[Zc ne,Ze],Qu _,ne,e2,fun _=>none,(Heap.Ns1.of_empty e3).at fun o q=>Qc _ q,fun _=>True.intro,fun y hy=>absurd rfl hy⟩
theorem ZfQ{prog:Program}{w:World}{env:Env}{e:Expr}{f:Str}{pos:Pos}{s:Shared}{Q:Value→Shared→Prop}(hb:attributeBase e f env (eval e env)=eval e env)
  (h:wpAny (model prog w) A (eval e env) (fun o s₁=>wpAny (model prog w) A (getAttr o f true) Q E s₁) E s):wpAny (model prog w) A (eval (.Attribute e f pos) env) Q E s :=
 Attribute_any_ h (by rw[arm_eval_Attribute,hb])
end
def Zlf(K:PySem.W.Frag)(ta:TE)(f:Str):TE:=fun σ H Q=>ta σ H fun x H1=>∃a C dx fs v,x=.ref a∧H1 a=some (.ins C dx fs)∧Cls K C∧ZP K C f∧fs.lookup f=some v∧Q v H1
def ZkW(K:PySem.W.Frag)(ta tv:TE)(f:Str):TS:=fun D σ H=>tv σ H fun y H1=>ta σ H1 fun x H2=>∃a C dx fs,x=.ref a∧H2 a=some (.ins C dx fs)∧Cls K C∧ZP K C f∧fs.length<1000 ∧
 D.nx σ (upd H2 a (.ins C dx (Zl f y fs)))
def ZkN(X:Cx)(op:Operator)(rd:V→V→Hp→VK→Prop):Prop :=
 ∀ (pins:List (Addr×Obj)) (s:Shared) (σ:St) (H:Hp) (x y:V) (u v:Value) (Q:VK),Inv X pins σ H s→ZA x u→ZA y v→rd x y H Q→wpAny (model X.prog X.w) X.A (inplaceOp op u v) (EP X pins σ Q) X.xe s
def Zix(K:PySem.W.Frag)(ta tv:TE)(rd:V→V→Hp→VK→Prop)(f:Str):TS:=fun D σ H=>ta σ H fun x H1=>∃a C dx fs v,x=.ref a∧H1 a=some (.ins C dx fs)∧Cls K C∧ZP K C f∧fs.lookup f=some v ∧
 tv σ H1 fun y H2=>rd v y H2 fun z H3=>∃dx' fs',H3 a=some (.ins C dx' fs')∧fs'.length<1000∧D.nx σ (upd H3 a (.ins C dx' (Zl f z fs')))
section
variable {X:Cx} {o e value:Expr} {f:Str} {pos pos' tpos:Pos} {ta tv:TE}
theorem Zax(he:PE X e ta)(hb:attributeBase e f X.env (eval e X.env)=eval e X.env):PE X (.Attribute e f pos) (Zlf X.K ta f):=by
 intro pins s σ H Q I h
 refine ZfQ hb (thn (he pins s σ H _ I h) ?_)
 rintro u s1 ⟨x,H1,I1,rx,a,C,dx,fs,v,ex,ea,c,n,l,q⟩
 subst ex
 obtain rfl:u=Value.ref a:=rx
 exact ZcF I1 ea c n l fun u' s2 I2 ru=>⟨v,H1,I2,ru,q⟩
theorem ZaE(ha:PE X o ta)(hv:PE X value tv)(hs:swapsWith value (some (.Attribute o f pos')) pos.line X.env=pure false):PS X (.Assign [.Attribute o f pos'] value pos) (ZkW X.K ta tv f):=by
 intro pins s σ H D I h
 refine plainObj_wpAny_Assign_Attribute (thn (hv pins s σ H _ I h) fun u s1 ⟨y,H1,I1,ry,q⟩=>thn (ha pins s1 σ H1 _ I1 q) ?_) hs
 rintro ov s2 ⟨x,H2,I2,rx,a,C,dx,fs,ex,ea,c,n,l,q2⟩
 subst ex
 obtain rfl:ov=Value.ref a:=rx
 exact Zde I2 ea c n l ry fun s3 I3=>⟨σ,_,I3,q2⟩
theorem ZdQ{op:Operator}{rd:V→V→Hp→VK→Prop}(ha:PE X o ta)(hv:PE X value tv)(hop:ZkN X op rd):PS X (.AugAssign (.Attribute o f tpos) op value pos) (Zix X.K ta tv rd f):=by
 intro pins s σ H D I h
 refine wpAny_AugAssign_AttributeAny (thn (ha pins s σ H _ I h) ?_)
 rintro ov s1 ⟨x,H1,I1,rx,a,C,dx,fs,v,ex,ea,c,n,l,q⟩
 subst ex
 obtain rfl:ov=Value.ref a:=rx
 refine ZcF I1 ea c n l fun u s2 I2 ru=>thn (hv pins s2 σ H1 _ I2 q) fun w3 s3 ⟨y,H2,I3,ry,q3⟩=>thn (hop pins s3 σ H2 v y u w3 _ I3 ru ry q3) ?_
 rintro w4 s4 ⟨z,H3,I4,rz,dx',fs',ea',l',q4⟩
 exact Zde I4 ea' c n l' rz fun s5 I5=>⟨σ,_,I5,q4⟩
def Zk0:V→V→Hp→VK→Prop:=fun x y H Q=>∃i j,x=.int i∧y=.int j∧Q (.int (i+j)) H
theorem Zhk:ZkN X .Add Zk0:=by
 rintro pins s σ H x y u v Q I rx ry ⟨i,j,rfl,rfl,q⟩
 obtain⟨t,rfl⟩:=(show ∃t,u=Value.int i t from rx)
 obtain⟨t',rfl⟩:=(show ∃t',v=Value.int j t' from ry)
 exact PyProof.Rows.iadd_int ⟨.int (i+j),H,I.tok _,⟨_,rfl⟩,q⟩
end
section
variable {X:Cx} {pins:List (Addr×Obj)} {σ:St} {H:Hp} {s:Shared} {A:Around} {E:Value→Shared→Prop} {Q:Value→Shared→Prop} {c:Value} {b:Bool}
inductive Zdi (K:PySem.W.Frag) (H:Hp):V→Value→Prop where
 | non:Zdi K H .non (.type "NoneType")
 | bl (x:Bool):Zdi K H (.bl x) (.type "bool")
 | int (i:Int):Zdi K H (.int i) (.type "int")
 | str (x:Str):Zdi K H (.str x) (.type "str")
 | flt (x:UInt64):Zdi K H (.flt x) (.type "float")
 | lst {a:Addr} {xs:List V} (e:H a=some (.lst xs)):Zdi K H (.ref a) (.type "list")
 | frz {a:Addr} {o:Obj} {xs:List V} (e:H a=some (.frz o (.lst xs))):Zdi K H (.ref a) (.type "list")
 | tup {a:Addr} {xs:List V} (e:H a=some (.tup xs)):Zdi K H (.ref a) (.type "tuple")
 | dK {a:Addr} {kvs:List (Key×V)} (e:H a=some (.dK kvs)):Zdi K H (.ref a) (.type "dict")
 | dT {a:Addr} {kvs:List (List Key×V)} (e:H a=some (.dT kvs)):Zdi K H (.ref a) (.type "dict")
 | ins {a C dx:Addr} {fs:List (Str×V)} (e:H a=some (.ins C dx fs)) (cl:Cls K C) (ha:PySem.W.findIn K (.ref C) "__class__" = some (some (.builtin "object.__class__")))
   (hn:PySem.W.specialIn K (.builtin "object.__class__") "__get__" = some (some (.builtin "getset_descriptor.__get__"))) (htk:PySem.W.takesIn K (.builtin "object.__class__")=some true)
   (hm:PySem.W.mroIn K C (.type "object")=some true):Zdi K H (.ref a) (.ref C)
end
structure ZM (k:Nat) (A:Around):Prop where
 hd:A.handled=none
 dp:A.depth+3*k+5<recursionLimit
 un:A.units+16*k+200<cLine
 gd:A.guards=some []
theorem ZM.mono{j k:Nat}{A:Around}(r:ZM k A)(h:j≤k):ZM j A:=⟨r.hd,by have:=r.dp;omega,by have:=r.un;omega,r.gd⟩
theorem ZM.deeper{k:Nat}{A:Around}(r:ZM (k+1) A)(env:Env):ZM k (A.deeper env) :=
 ⟨r.hd,by have:=r.dp;show A.depth+1+3*k+5<_;omega,by have:=r.un;show A.units+3+16*k+200<_;omega,r.gd⟩
theorem Zfd{A:Around}{C:Addr}{us:List Value}{kw:List (Str×Value)}:(A.under (.builtin "type.__call__" ⟨.ref C::us,kw⟩)).depth=A.depth+1:=by
 first|rfl|simp[Around.under,Code.weight,Code.isCreation,Code.isGuard,Code.isCaller,Code.frames,Code.isFrame,guardIds]
theorem Zfj{A:Around}{C:Addr}{us:List Value}{kw:List (Str×Value)}:(A.under (.builtin "type.__call__" ⟨.ref C::us,kw⟩)).units=A.units+1:=by
 first|rfl|simp[Around.under,Code.cUnits,Code.frames,Code.isFrame]
theorem ZM.make{k:Nat}{A:Around}(r:ZM (k+1) A)(C:Addr)(us:List Value)(kw:List (Str×Value)):ZM k (A.under (.builtin "type.__call__" ⟨.ref C::us,kw⟩)) :=
 ⟨r.hd,by have:=r.dp;rw[Zfd];omega,by have:=r.un;rw[Zfj];omega,by rw[show (A.under (.builtin "type.__call__" ⟨.ref C::us,kw⟩)).guards=A.guards from by first|rfl|simp[Around.under,pushGuards,Code.guards,Code.isGuard,guardIds]];exact r.gd⟩
theorem ZM.depth{k:Nat}{A:Around}(r:ZM k A):A.depth<recursionLimit:=by have:=r.dp;omega
theorem ZM.units{k:Nat}{A:Around}(r:ZM k A):A.units+64<cLine:=by have:=r.un;omega
def ZjA:TA:=fun _ H Q=>Q [] H
def ZjZ(ta:TE)(tr:TA):TA:=fun σ H Q=>ta σ H fun x H1=>tr σ H1 fun xs H2=>Q (x::xs) H2
section
variable {X:Cx} {e:Expr} {es:List Expr} {te:TE} {t:TA} {pos:Pos}
theorem Zg:PA X [] ZjA:=fun _ _ _ _ H Q I h=>Calls.spliced_nil ⟨[],H,I,.nil,h⟩
theorem Za(ha:PE X e te)(hr:PA X es t)(hs:starEach (e::es) X.env=(false,eval e X.env)::starEach es X.env:=by rfl):PA X (e::es) (ZjZ te t):=by
 intro pos pins s σ H Q I h
 rw[hs]
 show wpAny _ _ (spliced ((false,eval e X.env)::backTo pos (starEach es X.env))) _ _ s
 refine Calls.spliced_cons (thn (ha pins s σ H _ I h) ?_)
 rintro u s1 ⟨x,H1,I1,r1,q1⟩
 exact thn (hr pos pins s1 σ H1 _ I1 q1) fun us s2 ⟨xs,H2,I2,r2,q2⟩=>⟨x::xs,H2,I2,.cons r1 r2,q2⟩
def Zlj(t:TA):TE:=fun σ H Q=>t σ H fun xs H1=>xs.length≤sizeLine∧∀p,H1 p=none→Q (.ref p) (upd H1 p (.tup xs))
def Zlm(t:TA):TE:=fun σ H Q=>t σ H fun xs H1=>xs.length≤sizeLine∧∀p,H1 p=none→Q (.ref p) (upd H1 p (.lst xs))
theorem Zbh{x1}(h:PA X es t):PE X (.Tuple es x1 pos) (Zlj t):=by
 intro pins s σ H Q I hq
 refine wpAny_Tuple_spliced (thn (h pos pins s σ H _ I hq) fun us s1 ⟨xs,H1,I1,r,z,q⟩=>⟨by rw[← r.length];exact z,?_⟩)
 have hf:H1 s1.heap.objs.size=none:=I1.hok.fresh (Qe _)
 refine⟨.ref s1.heap.objs.size,upd H1 s1.heap.objs.size (.tup xs),I1.laid (t':=s1.toks) (fun b u e=>Qc _ e) (Qe _) ?_,rfl,q _ hf⟩
 exact⟨z,us,r,⟨_,Qy _ rfl,rfl,_,rfl⟩⟩
theorem Zas(h:PA X es t):PE X (.List es pos) (Zlm t):=by
 intro pins s σ H Q I hq
 refine wpAny_List_spliced (thn (h pos pins s σ H _ I hq) fun us s1 ⟨xs,H1,I1,r,z,q⟩=>⟨by rw[← r.length];exact z,?_⟩)
 have hf:H1 s1.heap.objs.size=none:=I1.hok.fresh (Qe _)
 refine⟨.ref s1.heap.objs.size,upd H1 s1.heap.objs.size (.lst xs),I1.laid (t':=s1.toks) (fun b u e=>Qc _ e) (Qe _) ?_,rfl,q _ hf⟩
 exact⟨z,us,0,r,Qy _ rfl⟩
end
abbrev Sp:=List V→Hp→VK→XK→Prop
abbrev CXT:=List Env→Hp→Shared→XK→Value→Shared→Prop
structure Ze9 (P:Program) (w:World) (K:PySem.W.Frag) (mg:Str→Option Value) (base:Heap) (A:Around) (outer:List Env) (s:Shared) (H:Hp):Prop where
 frames:A.frames=some outer
 mod:Mod K mg base
 bs:∀b o,base.get? b=some o→s.heap.get? b=some o∧H b=none
 bsz:base.objs.size≤s.heap.objs.size
 funs:s.heap.FunFrames base outer
 frf:∀b∈frs outer,H b=none
 hok:HOk P w H s.heap
 bare:AllBare s.gens
def CE(outer:List Env)(P:Program)(w:World)(H:Hp)(s:Shared)(Q:VK)(u:Value)(s':Shared):Prop :=
 ∃v H',s'.os=s.os∧AllBare s'.gens∧Un (frs outer) [] H H' s.heap s'.heap∧HOk P w H' s'.heap∧ZA v u∧Q v H'
def CR(CX:CXT)(outer:List Env)(P:Program)(w:World)(H:Hp)(s:Shared)(Q:VK)(E:XK)(r:Result)(s':Shared):Prop :=
 match r with
 | .ok (.ret u)=>CE outer P w H s Q u s'
 | .ok _=>False
 | .error e=>CX outer H s E e s'
structure ZaA (P:Program) (w:World) (K:PySem.W.Frag) (mg:Str→Option Value) (base:Heap) (CX:CXT) (k:Nat) (f:Addr) (fd:FuncData) (ps:List Str) (sp:Sp):Prop where
 len:∀vs H Q E,sp vs H Q E→vs.length=ps.length
 run:∀ (A:Around) (outer:List Env) (s:Shared) (H:Hp) (args:Args) (us:List Value) (vs:List V) (Q:VK) (E:XK),ZM k A→Ze9 P w K mg base A outer s H→BindsTo s fd args (ps.zip us)→Zv vs us→sp vs H Q E →
  codeAny (model P w) A (.call (.ref f) args) (CR CX outer P w H s Q E) s
theorem Ze9.make{P:Program}{w:World}{K:PySem.W.Frag}{mg:Str→Option Value}{base:Heap}{A:Around}{outer:List Env}{s:Shared}{H:Hp}(e:Ze9 P w K mg base A outer s H)(C:Addr)(us:List Value)(kw:List (Str×Value)) :
  Ze9 P w K mg base (A.under (.builtin "type.__call__" ⟨.ref C::us,kw⟩)) outer s H:=⟨by first|exact e.frames|(simpa [Around.under,Code.envs,Code.isFrame,pushEnvs] using e.frames),e.mod,e.bs,e.bsz,e.funs,e.frf,e.hok,e.bare⟩
section
variable {X:Cx} {pins:List (Addr×Obj)} {σ:St} {H:Hp} {s s':Shared}
theorem Inv.env0(I:Inv X pins σ H s):Ze9 X.prog X.w X.K X.mg X.base X.A X.stack s H :=
 ⟨I.ok.frames,I.ok.mod,I.bs,Qq I.ok.bsz I.sz,I.stack,I.stkFree,I.hok,I.bare⟩
theorem Inv.after{Q:VK}{u:Value}(I:Inv X pins σ H s)(h:CE X.stack X.prog X.w H s Q u s'):EP X pins σ Q u s':=by
 obtain⟨v,H',os,bare,un,hok,r,q⟩:=h
 obtain⟨hh,g,d,t,os'⟩:=s'
 obtain rfl:os'=s.os:=os
 exact⟨v,H',I.call (h':=hh) (g':=g) (d':=d) (t':=t) (ch:=[]) un hok bare (fun b z=>absurd z (by simp)),r,q⟩
end
def ZiP(sp:Sp)(dvs:List V)(E:XK)(t:TA):TE:=fun σ H Q=>t σ H fun vs H1=>sp (vs++dvs) H1 Q E
def ZfM(C:Addr)(m:Str)(sp:Sp)(dvs:List V)(E:XK)(ta:TE)(t:TA):TE:=fun σ H Q=>ta σ H fun x H1=>∃a dx fs,x=.ref a∧H1 a=some (.ins C dx fs)∧fs.lookup m=none ∧
 t σ H1 fun vs H2=>sp (x::(vs++dvs)) H2 Q E
def ZiL(C:Addr)(sp:Sp)(dvs:List V)(E:XK)(t:TA):TE:=fun σ H Q=>t σ H fun vs H1=>∀x dx,H1 x=none→H1 dx=none→dx≠x →
 sp (.ref x::(vs++dvs)) (upd (upd H1 dx (.own x)) x (.ins C dx [])) (fun v H2=>v=.non∧Q (.ref x) H2) E
def Z7(K:PySem.W.Frag)(fd:FuncData)(ps:List Str)(ds:List Value):Prop :=
 ∀ (s:Shared) (us:List Value),K.In s.heap→(us++ds).length=ps.length→BindsTo s fd ⟨us,[]⟩ (ps.zip (us++ds))
theorem Z7.all{K:PySem.W.Frag}{fd:FuncData}{ps:List Str}(h:∀us:List Value,us.length=ps.length→bindArgs fd ⟨us,[]⟩=pure (ps.zip us)):Z7 K fd ps []:=fun s us _ hl=>by
 rw[QU]at hl ⊢
 exact .of_eq (h us hl)
def ZbU(CX:CXT)(X:Cx)(E:XK):Prop:=∀ (pins:List (Addr×Obj)) (σ:St) (H:Hp) (s:Shared) (e:Value) (s':Shared),Inv X pins σ H s→CX X.stack H s E e s'→X.xe e s'
section
variable {X:Cx} {CX:CXT} {k:Nat} {f C:Addr} {fd:FuncData} {ps:List Str} {sp:Sp} {dvs:List V} {ds:List Value} {E:XK} {x m:Str} {p pos apos:Pos} {e o:Expr} {es:List Expr} {ta:TE} {t:TA}
theorem Ze3{pins:List (Addr×Obj)}{σ:St}{H:Hp}{s:Shared}{Q:VK}{us:List Value}{vs:List V}(F:ZaA X.prog X.w X.K X.mg X.base CX k f fd ps sp)(hr:ZM k X.A)(hb:Z7 X.K fd ps ds)(hd:Zv dvs ds)(hx:ZbU CX X E)
  (I:Inv X pins σ H s) (r:Zv vs us) (h:sp (vs++dvs) H Q E):wpAny (model X.prog X.w) X.A (call (.ref f) us) (EP X pins σ Q) X.xe s:=by
 have r2:Zv (vs++dvs) (us++ds):=r.append hd
 have hl:(us++ds).length=ps.length:=by rw[← r2.length];exact F.len _ _ _ _ h
 refine wpAny_call (codeAny_mono (F.run X.A X.stack s H ⟨us,[]⟩ (us++ds) (vs++dvs) Q E hr I.env0 (hb s us I.kIn hl) r2 h) fun r s' hq=>?_)
 cases r with
 | error e=>exact hx pins σ H s e s' I hq
 | ok fl =>
  cases fl with
  | ret u=>exact I.after hq
  | next=>exact False.elim hq
  | brk=>exact False.elim hq
  | cont=>exact False.elim hq
theorem Zh0(F:ZaA X.prog X.w X.K X.mg X.base CX k f fd ps sp)(hr:ZM k X.A)(hg:Gl X x)(hm:X.mg x=some (.ref f))(hk:PySem.W.keepIn X.K (.ref f)=true)(hb:Z7 X.K fd ps ds)(hd:Zv dvs ds)(hx:ZbU CX X E)
  (ha:PA X (e::es) t) (hdb:(x == ("__debug__" : Str))=false:=by decide) (he:starEach (e::es) X.env=(false,eval e X.env)::starEach es X.env:=by rfl) (hpl:(backTo pos (starEach es X.env)).any (·.1)=false:=by rfl) :
  PE X (.Call (.Name x p) (e::es) [] pos) (ZiP sp dvs E t):=by
 intro pins s σ H Q I h
 refine wpAny_Call_Name_kw (ZaS I hg hm ?_ hdb)
 refine QO (h₀:=X.base) I.ok.mod.kin hk (thn (ha pos pins s σ H _ I h) fun us s1 ⟨vs,H1,I1,r,q⟩=>⟨I1.kIn,?_⟩) he hpl
 exact Ze3 F hr hb hd hx I1 r q
theorem ZiD{pl:Sem Bool}(he:PE X o ta)(c:Cls X.K C)(hm:Zg5 X.K C m f)(F:ZaA X.prog X.w X.K X.mg X.base CX k f fd ps sp)(hr:ZM k X.A)(hb:Z7 X.K fd ps ds)(hd:Zv dvs ds)(hx:ZbU CX X E)(ha:PA X (e::es) t)
  (hst:starEach (e::es) X.env=(false,eval e X.env)::starEach es X.env:=by rfl) (hpl:(backTo pos (starEach es X.env)).any (·.1)=false:=by rfl)
  (ht:eval (.Call (.Attribute o m apos) (e::es) [] pos) X.env=(do
   let ov ← eval o X.env
   standAt apos.atName
   let (f,first) ← holding [ov] (getMethod ov m pl)
   callWith pos f first (backTo pos (starEach (e::es) X.env)) (backToKw pos (keywordEach [] X.env))):=by rfl) :
  PE X (.Call (.Attribute o m apos) (e::es) [] pos) (ZfM C m sp dvs E ta t):=by
 intro pins s σ H Q I h
 refine PySem.W.methodCall_KW (pl:=pl) (thn (he pins s σ H _ I h) ?_) ht
 rintro u s1 ⟨x,H1,I1,rx,a,dx,fs,ex,ea,l,q⟩
 subst ex
 obtain rfl:u=Value.ref a:=rx
 refine ZcI I1 ea c hm l ?_
 refine QO (first:=[.ref a]) (h₀:=X.base) I.ok.mod.kin hm.kp (thn (ha pos pins s1 σ H1 _ I1 q) fun us s2 ⟨vs,H2,I2,r,q2⟩=>⟨I2.kIn,?_⟩) hst hpl
 exact Ze3 (us:=.ref a::us) (vs:=.ref a::vs) F hr hb hd hx I2 (.cons rfl r) q2
theorem Zhs{pl:Sem Bool}(he:PE X o ta)(c:Cls X.K C)(hm:Zg5 X.K C m f)(F:ZaA X.prog X.w X.K X.mg X.base CX k f fd ps sp)(hr:ZM k X.A)(hb:Z7 X.K fd ps ds)(hd:Zv dvs ds)(hx:ZbU CX X E)
  (ht:eval (.Call (.Attribute o m apos) [] [] pos) X.env=(do
   let ov ← eval o X.env
   standAt apos.atName
   let (f,first) ← holding [ov] (getMethod ov m pl)
   callWith pos f first (backTo pos (starEach [] X.env)) (backToKw pos (keywordEach [] X.env))):=by rfl) :
  PE X (.Call (.Attribute o m apos) [] [] pos) (ZfM C m sp dvs E ta ZjA):=by
 intro pins s σ H Q I h
 refine PySem.W.methodCall_KW (pl:=pl) (thn (he pins s σ H _ I h) ?_) ht
 rintro u s1 ⟨x,H1,I1,rx,a,dx,fs,ex,ea,l,q⟩
 subst ex
 obtain rfl:u=Value.ref a:=rx
 refine ZcI I1 ea c hm l ?_
 exact PySem.W.callWith_K0 (first:=[.ref a]) I1.kIn hm.kp (Ze3 (us:=[.ref a]) (vs:=[.ref a]) F hr hb hd hx I1 (.cons rfl .nil) q)
structure Mk (K:PySem.W.Frag) (C f:Addr):Prop where
 makes:PySem.W.makesIn K C=true
 init:PySem.W.findIn K (.ref C) "__init__" = some (some (.ref f))
 fn:PySem.W.isFn K (.ref f)=true
 kp:PySem.W.keepIn K (.ref C)=true
theorem ZhI{pins:List (Addr×Obj)}{σ:St}{H:Hp}{s:Shared}{Q:VK}{us:List Value}{vs:List V}(M:Mk X.K C f)(F:ZaA X.prog X.w X.K X.mg X.base CX k f fd ps sp)(hr:ZM (k+1) X.A)(hb:Z7 X.K fd ps ds)(hd:Zv dvs ds)
  (hx:ZbU CX X E) (I:Inv X pins σ H s) (r:Zv vs us)
  (h:∀x dx,H x=none→H dx=none→dx≠x→sp (.ref x::(vs++dvs)) (upd (upd H dx (.own x)) x (.ins C dx [])) (fun v H2=>v=.non∧Q (.ref x) H2) E) :
  wpAny (model X.prog X.w) X.A (call (.ref C) us) (EP X pins σ Q) X.xe s:=by
 have hq:=h (s.heap.objs.size+1) s.heap.objs.size (I.hok.fresh (QZ _)) (I.hok.fresh (Qe _)) (Qp (Q4 _))
 have I2:=Inv.made (C:=C) I
 have r2:Zv (V.ref (s.heap.objs.size+1)::(vs++dvs)) (Value.ref (s.heap.objs.size+1)::(us++ds)):=.cons rfl (r.append hd)
 have hl:(Value.ref (s.heap.objs.size+1)::us++ds).length=ps.length:=by
  have e:=r2.length
  rw[F.len _ _ _ _ hq]at e
  exact e.symm
 refine wpAny_call (Zep (f:=f) I.kIn M.makes M.init (beq_iff_eq.mp M.fn) (codeAny_mono (F.run _ X.stack _ _ ⟨Value.ref (s.heap.objs.size+1)::us,[]⟩ (Value.ref (s.heap.objs.size+1)::(us++ds)) _ _ E (hr.make C us [])
  (I2.env0.make C us []) (hb _ (Value.ref (s.heap.objs.size+1)::us) I2.kIn hl) r2 hq) fun r s' hq'=>?_))
 cases r with
 | error e=>exact hx pins σ _ _ e s' I2 hq'
 | ok fl =>
  cases fl with
  | ret u =>
   obtain⟨v,H',I3,rv,ev,q3⟩:=I2.after hq'
   subst ev
   exact⟨rv,⟨V.ref (s.heap.objs.size+1),H',I3,rfl,q3⟩⟩
  | next=>exact False.elim hq'
  | brk=>exact False.elim hq'
  | cont=>exact False.elim hq'
theorem ZhV(M:Mk X.K C f)(F:ZaA X.prog X.w X.K X.mg X.base CX k f fd ps sp)(hr:ZM (k+1) X.A)(hg:Gl X x)(hm:X.mg x=some (.ref C))(hb:Z7 X.K fd ps ds)(hd:Zv dvs ds)(hx:ZbU CX X E)
  (ha:PA X (e::es) t) (hdb:(x == ("__debug__" : Str))=false:=by decide) (he:starEach (e::es) X.env=(false,eval e X.env)::starEach es X.env:=by rfl) (hpl:(backTo pos (starEach es X.env)).any (·.1)=false:=by rfl) :
  PE X (.Call (.Name x p) (e::es) [] pos) (ZiL C sp dvs E t):=by
 intro pins s σ H Q I h
 refine wpAny_Call_Name_kw (ZaS I hg hm ?_ hdb)
 refine QO (h₀:=X.base) I.ok.mod.kin M.kp (thn (ha pos pins s σ H _ I h) fun us s1 ⟨vs,H1,I1,r,q⟩=>⟨I1.kIn,?_⟩) he hpl
 exact ZhI M F hr hb hd hx I1 r q
end
section
variable {X:Cx} {CX:CXT} {k:Nat} {f C:Addr} {fd:FuncData} {ps ks:List Str} {sp:Sp} {E:XK} {x m:Str} {p pos apos kpos:Pos} {e o:Expr} {es:List Expr} {kws:List Keyword} {te ta:TE} {t tk:TA} {nm:Option Str}
structure KBinds (K:PySem.W.Frag) (fd:FuncData) (ps ks:List Str) (g:List Value→List Value→List Value) (gV:List V→List V→List V):Prop where
 to:∀ (s:Shared) (us ws:List Value),K.In s.heap→(g us ws).length=ps.length→BindsTo s fd ⟨us,ks.zip ws⟩ (ps.zip (g us ws))
 rel:∀ {vs:List V} {us:List Value} {zs:List V} {ws:List Value},Zv vs us→Zv zs ws→Zv (gV vs zs) (g us ws)
variable {g:List Value→List Value→List Value} {gV:List V→List V→List V}
end
structure Zo (N P:List Str) (sc:Scope):Prop where
 kind:sc.kind=.function
 co:sc.isCoroutine=false
 gen:sc.isGenerator=false
 nd:N.Nodup
 pre:N.take P.length=P
 par:∀x∈P,sc.names.lookup x=some .local∨sc.names.lookup x=some .cell
 nofree:∀y∈sc.names,y.2≠.free
theorem ZdI{kindOf:Str→Option NameKind}{x:Str}:∀ {binds:List (Str×Value)} {m:Str→Option Value},(∀v,(x,v) ∉ binds)→bindL kindOf binds m x=m x
 | [],_,_=>rfl
 | (n,v)::r,m,h=>by
  unfold bindL
  rw[ZdI fun w hw=>h w (Qo _ hw)]
  split
  ·have:x≠n:=by rintro rfl;exact h v QN
   simp[this]
  ·rfl
theorem Zds{kindOf:Str→Option NameKind}{x:Str}:∀ {binds:List (Str×Value)} {m:Str→Option Value},(∀v,(x,v) ∉ binds)→bindC kindOf binds m x=m x
 | [],_,_=>rfl
 | (n,v)::r,m,h=>by
  unfold bindC
  rw[Zds fun w hw=>h w (Qo _ hw)]
  split
  ·rfl
  ·have:x≠n:=by rintro rfl;exact h v QN
   simp[this]
theorem ZdS{kindOf:Str→Option NameKind}{x:Str}{v:Value}:∀ {P:List Str} {vs:List Value} {i:Nat} {m:Str→Option Value},P.Nodup→P[i]? = some x→vs[i]? = some v→kindOf x=some .local →
  bindL kindOf (P.zip vs) m x=some v
 | [],_,_,_,_,h,_,_=>by simp at h
 | _::_,[],_,_,_,_,h,_=>by simp at h
 | p::P,w::vs,0,m,nd,h1,h2,hk=>by
  simp at h1 h2;subst h1;subst h2
  show bindL kindOf ((p,w)::P.zip vs) m p=_
  unfold bindL
  rw[ZdI fun v hv=>(Qab.mp nd).1 (List.of_mem_zip hv).1,if_pos hk]
  simp
 | p::P,w::vs,i+1,m,nd,h1,h2,hk=>by
  show bindL kindOf ((p,w)::P.zip vs) m x=_
  unfold bindL
  exact ZdS (i:=i) (Qab.mp nd).2 (by simpa using h1) (by simpa using h2) hk
theorem ZdA{kindOf:Str→Option NameKind}{x:Str}{v:Value}:∀ {P:List Str} {vs:List Value} {i:Nat} {m:Str→Option Value},P.Nodup→P[i]? = some x→vs[i]? = some v→kindOf x≠some .local →
  bindC kindOf (P.zip vs) m x=some v
 | [],_,_,_,_,h,_,_=>by simp at h
 | _::_,[],_,_,_,_,h,_=>by simp at h
 | p::P,w::vs,0,m,nd,h1,h2,hk=>by
  simp at h1 h2;subst h1;subst h2
  show bindC kindOf ((p,w)::P.zip vs) m p=_
  unfold bindC
  rw[Zds fun v hv=>(Qab.mp nd).1 (List.of_mem_zip hv).1,if_neg hk]
  simp
 | p::P,w::vs,i+1,m,nd,h1,h2,hk=>by
  show bindC kindOf ((p,w)::P.zip vs) m x=_
  unfold bindC
  exact ZdA (i:=i) (Qab.mp nd).2 (by simpa using h1) (by simpa using h2) hk
def ZaR(N:List Str)(vs:List V):St:=vs.map some++List.replicate (N.length-vs.length) none
def ZbJ(CX:CXT)(P:Program)(w:World)(K:PySem.W.Frag)(mg:Str→Option Value)(base:Heap)(N:List Str)(qual:Str)(scope:Scope)(f:Addr)(cd:Value)(A:Around)(outer:List Env)(s:Shared)(H:Hp)(E:XK):Cx where
 prog:=P
 w:=w
 K:=K
 mg:=mg
 base:=base
 A:=A.deeper (envOfC qual scope s.heap.objs.size f cd)
 N:=N
 s₀:=s
 H₀:=H
 env:=envOfC qual scope s.heap.objs.size f cd
 outer:=outer
 stack:=envOfC qual scope s.heap.objs.size f cd::outer
 ex:=[]
 calm:=true
 fn:=fun _=>true
 pn:=[]
 xe:=fun e s'=>wpAny (model P w) (A.deeper (envOfC qual scope s.heap.objs.size f cd)) (leaving (envOfC qual scope s.heap.objs.size f cd) e) (fun _ s''=>CX outer H s E e s'') (fun e' s''=>CX outer H s E e' s'') s'
theorem ZeP{sc:Scope}{n:Nat}{x:Str}(h:sc.names.lookup x=some .cell):∃c,(cellsFrom n sc.names []).lookup x=some c:=by
 have q:=PySem.W.cellsFrom_some sc.names n [] (.inl h)
 exact Option.isSome_iff_exists.mp q
theorem ZgB{CX:CXT}{P:Program}{w:World}{K:PySem.W.Frag}{mg:Str→Option Value}{base:Heap}{N ps:List Str}{qual:Str}{scope:Scope}{f:Addr}{cd:Value}{A:Around}{outer:List Env}{s s1:Shared}{H:Hp}{E:XK}{us:List Value}{vs:List V}
  (S:Zo N ps scope) (hd:A.handled=none) (e0:Ze9 P w K mg base A outer s H) (hl:vs.length=ps.length) (r:Zv vs us)
  (x:InCallC s s.heap.objs.size (bindL (envOfC qual scope s.heap.objs.size f cd).kindOf (ps.zip us) fun _=>none) (cellsFrom (s.heap.objs.size+1) scope.names []) (bindC (envOfC qual scope s.heap.objs.size f cd).kindOf (ps.zip us) fun _=>none) s1) :
  Inv (ZbJ CX P w K mg base N qual scope f cd A outer s H E) [] (ZaR N vs) H s1:=by
 have hpl:ps.length≤N.length:=by have:=congrArg List.length S.pre;rw[QC]at this;omega
 obtain⟨h1,tk,rfl,hk⟩:=x.done
 have noA:∀b:Addr,b ∉ (ZbJ CX P w K mg base N qual scope f cd A outer s H E).ex:=fun b z=>absurd (show b∈([]:List Addr) from z) (by simp)
 refine⟨⟨e0.mod,S.kind,rfl,rfl,Qe _,fun y z c h1 h2=>?_,fun y hy=>?_,fun y c _ h=>?_,fun _=>hd,Around.frames_deeper e0.frames,.inr ⟨rfl,rfl⟩,fun b z=>absurd z (noA b),e0.bs,e0.bsz,fun b _ _=>noA b,fun b z=>absurd z (noA b),e0.funs,e0.frf⟩,
  rfl,e0.bare,Un.kept hk,⟨_,x.toInCall.ns,fun i y v h1 h2 h3=>?_⟩,fun y c h=>⟨_,x.cell y c h⟩,e0.hok.fresh (Qe _),fun y c h=>?_,fun p hp=>absurd (show p∈([]:List (Addr×Obj)) from hp) (by simp),e0.hok.kept hk,?_⟩
 ·exact name_of_addr x.apart (QJ h1) (QJ h2)
 ·have hy:scope.names.lookup y=some .cell∨scope.names.lookup y=some .free:=hy
  rcases hy with hy|hy
  ·exact ZeP hy
  ·exact absurd rfl (S.nofree _ (QJ hy))
 ·exact QV (x.above y c (QJ h))
 ·have hi:i<vs.length:=by
   unfold ZaR at h2
   by_cases hi:i<vs.length
   ·exact hi
   ·rw[QP (by simpa using hi)]at h2
    rw[List.getElem?_replicate]at h2
    split at h2<;>cases h2
  have ha:vs[i]? = some v:=by
   unfold ZaR at h2
   rw[QS (by simpa using hi),Qt]at h2
   cases e:vs[i]? with
   | none=>rw[e]at h2;cases h2
   | some a=>rw[e]at h2;cases h2;rfl
  obtain⟨u,hu,rv⟩:=r.get ha
  have hp:ps[i]? = some y:=by
   rw[← S.pre,List.getElem?_take_of_lt (by omega)];exact h1
  have ndP:ps.Nodup:=by rw[← S.pre];exact S.nd.sublist (List.take_sublist _ _)
  refine⟨u,rv,?_⟩
  rcases S.par y (Qs hp) with k|k
  ·exact .inl ⟨k,ZdS ndP hp hu k⟩
  ·obtain⟨c,e⟩:=ZeP (n:=s.heap.objs.size+1) k
   refine .inr ⟨.inl k,c,e,?_⟩
   have q:=x.cell y c e
   rw[ZdA ndP hp hu (by show scope.names.lookup y≠_;rw[k];decide)]at q
   exact q
 ·exact e0.hok.fresh (QV (x.above y c (QJ h)))
 ·unfold ZaR
  show _=N.length
  rw[Qm,Qb,List.length_replicate]
  omega
theorem ZiO{CX:CXT}{P:Program}{w:World}{K:PySem.W.Frag}{mg:Str→Option Value}{base:Heap}{k:Nat}{f:Addr}{name qual:Str}{params:Arguments}{body:List Stmt}{scope:Scope}{dV kV doc pm cdv ct oc:Value}{an od:Option Addr}
  {osl:Array (Option Value)} {N ps:List Str} {sp:Sp} (lk:K.lookup f=some ⟨oc,od,.func (PySem.W.fnOf name qual params body scope dV kV doc pm an cdv ct),osl⟩) (hcd:PySem.W.codeIn K cdv qual=true) (S:Zo N ps scope)
  (len:∀vs H Q E,sp vs H Q E→vs.length=ps.length)
  (hbody:∀ (A:Around) (outer:List Env) (s:Shared) (H:Hp) (vs:List V) (Q:VK) (E:XK),ZM k (A.deeper (envOfC qual scope s.heap.objs.size f cdv))→sp vs H Q E →
   ∃t,PSs (ZbJ CX P w K mg base N qual scope f cdv A outer s H E) body t∧t { nx:=fun _ H'=>Q .non H',rt:=Q } (ZaR N vs) H) :
  ZaA P w K mg base CX (k+1) f (PySem.W.fnOf name qual params body scope dV kV doc pm an cdv ct) ps sp:=by
 refine⟨len,fun A outer s H args us vs Q E hr e0 hb r hsp=>?_⟩
 have hl:=len _ _ _ _ hsp
 have KX:K.In s.heap:=e0.mod.kin.keeps fun b o e=>(e0.bs b o e).1
 have lim:s.heap.NoLimit:=e0.mod.nolimit.keeps fun b o e=>(e0.bs b o e).1
 have hkind:∀y∈ps.zip us,scope.names.lookup y.1=some .local∨(scope.names.lookup y.1=some .cell∧((cellsFrom (s.heap.objs.size+1) scope.names []).lookup y.1).isSome=true):=fun ⟨n,v⟩ hy=>by
  rcases S.par n (List.of_mem_zip hy).1 with q|q
  ·exact .inl q
  ·exact .inr ⟨q,PySem.W.cellsFrom_some _ _ _ (.inl q)⟩
 refine codeAny_call_function hr.depth (KX _ _ lk) rfl S.co S.gen rfl (PySem.W.codeRec_of KX hcd) (hb _ _ _ _ ?_)
 refine wpAny_newFunctionEnv_cells S.kind hkind fun env he s1 x=>?_
 subst he
 refine⟨lim.keeps x.toInCall.keep,codeAny_func ?_⟩
 obtain⟨t,ht,hq⟩:=hbody A outer s H vs Q E (hr.deeper _) hsp
 have I:Inv (ZbJ CX P w K mg base N qual scope f cdv A outer s H E) [] (ZaR N vs) H s1:=ZgB S hr.hd e0 hl r x
 refine wpAny_mono (ht [] s1 (ZaR N vs) H _ I hq) (fun fl s' hs=>?_) fun e s' hs=>hs
 have fin:∀ {σ':St} {H':Hp} {v:V} {u:Value},Inv (ZbJ CX P w K mg base N qual scope f cdv A outer s H E) [] σ' H' s'→ZA v u→Q v H'→CE outer P w H s Q u s' :=
  fun {σ' H' v u} J rv q=>⟨v,H',J.os,J.bare,J.base,J.hok,rv,q⟩
 cases fl with
 | ret u =>
  obtain⟨v,σ',H',J,rv,q⟩:=hs
  exact fin J rv q
 | next =>
  obtain⟨σ',H',J,q⟩:=hs
  exact fin (v:=V.non) (u:=Value.none) J rfl q
 | brk =>
  obtain⟨_,_,_,q⟩:=hs
  exact False.elim q
 | cont =>
  obtain⟨_,_,_,q⟩:=hs
  exact False.elim q
section
variable {X:Cx} {x:Str} {p pos:Pos} {e:Expr} {es:List Expr} {t:TA} {id T:String} {r:List V→Hp→VK→Prop}
def tCB(r:List V→Hp→VK→Prop)(t:TA):TE:=fun σ H Q=>t σ H fun vs H1=>r vs H1 Q
theorem Zs(hc:Zau X (.builtin id) r)(hg:Gl X x)(hm:X.mg x=none)(hv:bootBuiltins x=some (.builtin id))(ha:PA X (e::es) t)(hn:x ≠ "__name__":=by decide)(hdb:(x == ("__debug__" : Str))=false:=by decide)
  (he:starEach (e::es) X.env=(false,eval e X.env)::starEach es X.env:=by rfl) (hpl:(backTo pos (starEach es X.env)).any (·.1)=false:=by rfl):PE X (.Call (.Name x p) (e::es) [] pos) (tCB r t):=by
 intro pins s σ H Q I h
 refine wpAny_Call_Name_kw (Zcd I hg hm hv ?_ hn hdb)
 exact PyProof.Rows.callWith_builtin1 (thn (ha pos pins s σ H _ I h) fun us s1 ⟨vs,H1,I1,r1,q1⟩=>hc pins s1 σ H1 vs us Q I1 r1 q1) he hpl
theorem Zao(hc:Zau X (.type T) r)(hg:Gl X x)(hm:X.mg x=none)(hv:bootBuiltins x=some (.type T))(ha:PA X (e::es) t)(hn:x ≠ "__name__":=by decide)(hdb:(x == ("__debug__" : Str))=false:=by decide)
  (he:starEach (e::es) X.env=(false,eval e X.env)::starEach es X.env:=by rfl) (hpl:(backTo pos (starEach es X.env)).any (·.1)=false:=by rfl):PE X (.Call (.Name x p) (e::es) [] pos) (tCB r t):=by
 intro pins s σ H Q I h
 refine wpAny_Call_Name_kw (Zcd I hg hm hv ?_ hn hdb)
 exact QL (thn (ha pos pins s σ H _ I h) fun us s1 ⟨vs,H1,I1,r1,q1⟩=>hc pins s1 σ H1 vs us Q I1 r1 q1) he hpl
end
end L2
namespace HT
open PySem PyProof.Rows
section
open PySem.SeqAt
open PySem.AutoSeq1 (wpAny_loadPart')
open PySem.MeetsSeq PySem.MeetsSeq2 PySem.MeetsSeq3
end
section
variable {prog:Program} {w:World} {A:Around} {E:Value→Shared→Prop} {s:Shared}
def sIx(n d:Nat):Option Int→Nat
 | none=>d
 | some v=>if v<0 then (v+(n:Int)).toNat else min v.toNat n
end
end HT
namespace L2
open PySem PySem.Spec PyProof.Rows
abbrev TO:=St→Hp→(Option Int→Hp→Prop)→Prop
def PO(X:Cx)(e:Option Expr)(t:TO):Prop :=
 ∀ (pins:List (Addr×Obj)) (s:Shared) (σ:St) (H:Hp) (Q:Option Int→Hp→Prop),Inv X pins σ H s→t σ H Q →
  wpAny (model X.prog X.w) X.A (evalPart e X.env) (fun u s'=>∃o H',Inv X pins σ H' s'∧IsPart u o∧Q o H') X.xe s
def Ziu:TO:=fun _ H Q=>Q none H
def ZkC(t:TE):TO:=fun σ H Q=>t σ H fun x H1=>∃i,x=.int i∧Q (some i) H1
section
variable {X:Cx} {e:Expr} {te:TE} {lo hi:Option Expr} {tl th:TO} {pos p2:Pos}
theorem ZbZ:PO X none Ziu:=by
 intro pins s σ H Q I h
 rw[evalPart_none]
 exact wpAny_pure ⟨none,H,I,.none,h⟩
theorem Zb0(h:PE X e te):PO X (some e) (ZkC te):=by
 intro pins s σ H Q I hw
 rw[evalPart_some]
 refine thn (h pins s σ H _ I hw) ?_
 rintro u s1 ⟨x,H1,I1,r1,q1⟩
 obtain⟨i,rfl,q⟩:=q1
 obtain⟨t,rfl⟩:=r1
 exact⟨some i,H1,I1,.int i t,q⟩
def SlR(X:Cx)(r:V→Option Int→Option Int→Hp→VK→Prop):Prop :=
 ∀ (pins:List (Addr×Obj)) (s:Shared) (σ:St) (H:Hp) (x:V) (v vl vu:Value) (lo hi:Option Int) (sl:Addr) (Q:VK),Inv X pins σ H s→ZA x v→s.heap.IsSliceOf sl vl vu .none→IsPart vl lo→IsPart vu hi→r x lo hi H Q →
  ∃T id,typeLookup (.type T) "__getitem__" = pure (some (.builtin id))∧s.TypeIs v T∧wpAny (model X.prog X.w) X.A (getItem v (.ref sl)) (EP X pins σ Q) X.xe s
def tSl(r:V→Option Int→Option Int→Hp→VK→Prop)(te:TE)(tl th:TO):TE:=fun σ H Q=>te σ H fun x H1=>tl σ H1 fun l H2=>th σ H2 fun u H3=>r x l u H3 Q
theorem Zbr{r:V→Option Int→Option Int→Hp→VK→Prop}(hr:SlR X r)(he:PE X e te)(hl:PO X lo tl)(hu:PO X hi th):PE X (.Subscript e (.Slice lo hi none p2) pos) (tSl r te tl th):=by
 intro pins s σ H Q I h
 refine Subscript_ (thn (he pins s σ H _ I h) ?_)
 rintro v s1 ⟨x,H1,I1,r1,q1⟩
 refine wpAny_Slice (thn (hl pins s1 σ H1 _ I1 q1) fun vl s2 ⟨l,H2,I2,pl,q2⟩=>thn (hu pins s2 σ H2 _ I2 q2) ?_)
 rintro vu s3 ⟨u,H3,I3,pu,q3⟩
 rw[evalPart_none]
 refine wpAny_pure ?_
 have I4:Inv X pins σ H3 { s3 with heap:=s3.heap.push { cls:=.type "slice",data:=.fields #[vl,vu,.none] } }:=I3.kept (t':=s3.toks) fun b ob q=>Qc _ q
 obtain⟨T,id,hT,ht,hg⟩:=hr pins { s3 with heap:=s3.heap.push { cls:=.type "slice",data:=.fields #[vl,vu,.none] } } σ H3 x v vl vu l u s3.heap.objs.size Q I4 r1 (Heap.IsSliceOf.new ..) pl pu q3
 show wpAny (model X.prog X.w) X.A (subscriptTail e (.Slice lo hi none p2) v (.ref s3.heap.objs.size)) (EP X pins σ Q) X.xe { s3 with heap:=s3.heap.push { cls:=.type "slice",data:=.fields #[vl,vu,.none] } }
 exact tail_any (ops:=[.ref s3.heap.objs.size,v]) ht hT hg (by with_unfolding_all rfl)
def Zcc(xs:List V)(lo hi:Option Int):List V:=(xs.drop (HT.sIx xs.length 0 lo)).take (HT.sIx xs.length xs.length hi-HT.sIx xs.length 0 lo)
theorem Zcn(xs:List V)(lo hi:Option Int):(Zcc xs lo hi).length≤xs.length:=by
 unfold Zcc
 rw[QC,QX]
 omega
end
def ixN(n:Nat)(i:Int):Option Nat:=if 0≤i then (if i<n then some i.toNat else none) else if -(n:Int)≤i then some (i+n).toNat else none
def atI{α:Type}(xs:List α)(i:Int):Option α:=(ixN xs.length i).bind fun j=>xs[j]?
theorem ZfK{n:Nat}{i:Int}{j:Nat}(h:ixN n i=some j):seqIndex? i n=some j∧j<n ∧ -(n:Int)≤i∧i<n:=by
 unfold ixN at h
 by_cases h0:0≤i
 ·rw[if_pos h0]at h
  by_cases h1:i<n
  ·rw[if_pos h1]at h
   have e:i.toNat=j:=Ql h
   exact⟨by rw[seqIndex_of h0 h1,e],by omega,by omega,h1⟩
  ·rw[if_neg h1]at h;cases h
 ·rw[if_neg h0]at h
  by_cases h1:-(n:Int)≤i
  ·rw[if_pos h1]at h
   have e:(i+n).toNat=j:=Ql h
   exact⟨by rw[seqIndex_neg (by omega) h1,e],by omega,h1,by omega⟩
  ·rw[if_neg h1]at h;cases h
theorem ZfV{α:Type}{xs:List α}{i:Int}{v:α}(h:atI xs i=some v):∃j,seqIndex? i xs.length=some j∧xs[j]? = some v∧j<xs.length ∧ -(xs.length:Int)≤i∧i<xs.length:=by
 unfold atI at h
 cases e:ixN xs.length i with
 | none=>rw[e]at h;cases h
 | some j =>
  rw[e]at h
  obtain⟨h1,h2,h3,h4⟩:=ZfK e
  exact⟨j,h1,h,h2,h3,h4⟩
theorem Zar{α:Type}{xs:List α}{j:Nat}{v:α}(h:xs[j]? = some v):atI xs (j:Int)=some v:=by
 have hj:j<xs.length:=(Qk.mp h).1
 have e:ixN xs.length (j:Int)=some j:=by
  unfold ixN
  rw[if_pos (by omega),if_pos (by omega)];simp
 unfold atI;rw[e];exact h
theorem Zhm{α:Type}(xs:List α)(v:α):atI (xs++[v]) (-1)=some v:=by
 have hl:(xs++[v]).length=xs.length+1:=by simp
 have e:ixN (xs++[v]).length (-1)=some xs.length:=by
  unfold ixN
  rw[hl,if_neg (by decide),if_pos (by omega)]
  congr 1
  omega
 unfold atI
 rw[e]
 show (xs++[v])[xs.length]? = some v
 simp
def Zih(b:Expr):Prop:=∀o i,subscripted b false o i=operate [o,i] (getItem o i)
def IxR(X:Cx)(r:R2):Prop :=
 ∀ (value slice:Expr) (pins:List (Addr×Obj)) (s:Shared) (σ:St) (H:Hp) (x y:V) (v u:Value) (Q:VK),Inv X pins σ H s→ZA x v→ZA y u→r x y H Q →
  subscripted slice false v u=operate [v,u] (getItem v u)→wpAny (model X.prog X.w) X.A (subscriptTail value slice v u) (EP X pins σ Q) X.xe s
def MtR(X:Cx)(id:String)(r:V→List V→Hp→VK→Prop):Prop :=
 ∀ (pins:List (Addr×Obj)) (s:Shared) (σ:St) (H:Hp) (x:V) (xs:List V) (v:Value) (us:List Value) (Q:VK),Inv X pins σ H s→ZA x v→Zv xs us→r x xs H Q →
  wpAny (model X.prog X.w) X.A (call (.builtin id) (v::us)) (EP X pins σ Q) X.xe s
section
variable {X:Cx} {a b:Expr} {ta tb:TE} {pos:Pos}
theorem ZI{r:R2}(hr:IxR X r)(ha:PE X a ta)(hb:PE X b tb)(hs:Zih b):PE X (.Subscript a b pos) (tOp r ta tb):=by
 intro pins s σ H Q I h
 exact Subscript_ (Zjd ha hb I h fun v u s2 x y H2 I2 rx ry q=>hr a b pins s2 σ H2 x y v u Q I2 rx ry q (hs _ _))
def Zj4(K:PySem.W.Frag):R2:=fun x y H Q=>∃p xs i v,x=.ref p∧y=.int i∧SqL K H p xs∧atI xs i=some v∧Q v H
def Zk5:R2:=fun x y H Q=>∃z i c,x=.str z∧y=.int i∧z.length≤sizeLine∧atI z.cps.toList i=some c∧Q (.str ⟨#[c]⟩) H
theorem Zik:IxR X (Zj4 X.K):=by
 intro value slice pins s σ H x y v u Q I rx ry h hs
 obtain⟨p,xs,i,z,rfl,rfl,hq,he,q⟩:=h
 cases rx
 obtain⟨t,rfl⟩:=ry
 obtain⟨its,r,pl,hz⟩:=I.list hq
 obtain⟨j,h1,h2,h3,h4,h5⟩:=ZfV he
 obtain⟨w,ew,rw'⟩:=r.get h2
 have hl:=r.length
 have hn:=Zc9
 have fin:EP X pins σ Q w s:=⟨z,H,I,rw',q⟩
 by_cases h0:0≤i
 ·have hj:i.toNat=j:=by
   rw[seqIndex_of h0 h5]at h1
   exact Ql h1
  exact item_listR pl.isList h0 (by omega) (by rw[hj];simpa using ew) fin hs
 ·have hj:(i+(its.toArray.size:Int)).toNat=j:=by
   rw[seqIndex_neg (by omega) h4]at h1
   rw[Qw,← hl]
   exact Ql h1
  exact subscriptTail_builtinR (x:=w) pl.isList.typeIs slot_list_getitem.lookup
   (wpAny_getItem_list_neg (Q:=fun r s'=>r=w∧EP X pins σ Q r s') pl.isList (by omega) (by rw[Qw]<;>omega) (by omega) (by rw[hj];simpa using ew) ⟨rfl,fin⟩) hs
theorem ZcX:IxR X Zk5:=by
 intro value slice pins s σ H x y v u Q I rx ry h hs
 obtain⟨z,i,c,rfl,rfl,hz,he,q⟩:=h
 obtain⟨t,rfl⟩:=rx
 obtain⟨t',rfl⟩:=ry
 obtain⟨j,h1,h2,h3,h4,h5⟩:=ZfV he
 have hl:z.cps.toList.length=z.length:=by simp[Str.length]
 rw[hl]at h1 h4 h5
 have hn:=Zc9
 exact tail_any (typeIs_str s z t) slot_str_getitem.lookup (getItem_str (c:=c) (by
  have e1:decide (i < -(2 ^ 63:Int))=false:=decide_eq_false (by omega)
  have e2:decide (i≥2 ^ 63)=false:=decide_eq_false (by omega)
  rw[e1,e2,Bool.or_false]) (by rw[h1];simpa using h2) ⟨.str ⟨#[c]⟩,H,I.tok _,⟨_,rfl⟩,q⟩) hs
theorem ZeY(its:List Value)(n j:Nat)(u:Value):Obj.mapSeq (·.setIfInBounds j u) { cls:=.type "list",data:=.seq its.toArray n }={ cls:=.type "list",data:=.seq (its.set j u).toArray n }:=by
 simp[Obj.mapSeq]
theorem Inv.lst{pins:List (Addr×Obj)}{σ:St}{H:Hp}{s:Shared}{p:Addr}{xs:List V}(I:Inv X pins σ H s)(h:H p=some (.lst xs)) :
  ∃ (its:List Value) (n:Nat),Zv xs its∧s.heap.get? p=some { cls:=.type "list",data:=.seq its.toArray n }∧xs.length≤sizeLine:=by
 obtain⟨z,its,n,r,e⟩:=I.hok p _ h
 exact⟨its,n,r,e,z⟩
theorem Inv.lstUpd{pins:List (Addr×Obj)}{σ:St}{H:Hp}{s:Shared}{p:Addr}{xs ys:List V}{its its':List Value}{n n':Nat}{f:Obj→Obj}(I:Inv X pins σ H s)(h:H p=some (.lst xs))
  (ho:s.heap.get? p=some { cls:=.type "list",data:=.seq its.toArray n }) (hf:f { cls:=.type "list",data:=.seq its.toArray n }={ cls:=.type "list",data:=.seq its'.toArray n' }) (r:Zv ys its') (hz:ys.length≤sizeLine) (t:Nat) :
  Inv X pins σ (upd H p (.lst ys)) { s with heap:=s.heap.update p f,toks:=t }:=by
 have e:(s.heap.update p f).get? p=some { cls:=.type "list",data:=.seq its'.toArray n' }:=by
  rw[QD f ho (by rw[hf]<;>rfl),hf]
 refine I.write (x:=p) (e:=p) (by rw[h];trivial) (.inl rfl) (fun b u hb q=>(QG _ _ (Ne.symm hb)).trans q) ⟨_,e⟩ ?_
 exact⟨hz,its',n',r,e⟩
def ZjV:V→V→V→Hp→(Hp→Prop)→Prop:=fun o i v H Q=>∃p xs k j,o=.ref p∧i=.int k∧H p=some (.lst xs)∧ixN xs.length k=some j∧Q (upd H p (.lst (xs.set j v)))
theorem Zdf:ZiX X ZjV:=by
 intro pins s σ H o i v ov iv u Q I ro ri rv h
 obtain⟨p,xs,k,j,rfl,rfl,hp,hj,q⟩:=h
 cases ro
 obtain⟨t,rfl⟩:=ri
 obtain⟨its,n,r,ho,hz⟩:=I.lst hp
 obtain⟨h1,h2,h3,h4⟩:=ZfK hj
 have hl:=r.length
 have hn:=Zc9
 have I':Inv X pins σ (upd H p (.lst (xs.set j v))) { s with heap:=s.heap.update p (Obj.mapSeq (·.setIfInBounds j u)) } :=
  I.lstUpd hp ho (ZeY its n j u) (r.set rv j) (by rw[List.length_set];exact hz) s.toks
 by_cases h0:0≤k
 ·have hk:k.toNat=j:=by
   rw[seqIndex_of h0 h4]at h1
   exact Ql h1
  exact PySem.W.ki_setAt ho h0 (by omega) (by rw[Qw,← hl];exact h4) (by rw[hk];exact⟨_,I',q⟩)
 ·have hk:(k+(its.toArray.size:Int)).toNat=j:=by
   rw[seqIndex_neg (by omega) h3]at h1
   rw[Qw,← hl]
   exact Ql h1
  exact PySem.W.ki_setBack ho (by omega) (by rw[Qw,← hl];exact h3) (by omega) (by rw[hk];exact⟨_,I',q⟩)
theorem Zd6(lo hi:Option Int)(n:Nat):(sliceBounds lo hi none n).1=((HT.sIx n 0 lo:Nat):Int)∧(sliceBounds lo hi none n).2.1=((HT.sIx n n hi:Nat):Int)∧(sliceBounds lo hi none n).2.2=1:=by
 refine⟨?_,?_,rfl⟩
 ·cases lo with
  | none=>simp[sliceBounds,HT.sIx]
  | some i =>
   simp only[sliceBounds,HT.sIx,Option.getD_none,show (1:Int)>0 by decide,if_true]
   by_cases h:i<0
   ·simp only[h,if_true]<;>omega
   ·simp only[h,if_false]<;>omega
 ·cases hi with
  | none=>simp[sliceBounds,HT.sIx]
  | some i =>
   simp only[sliceBounds,HT.sIx,Option.getD_none,show (1:Int)>0 by decide,if_true]
   by_cases h:i<0
   ·simp only[h,if_true]<;>omega
   ·simp only[h,if_false]<;>omega
theorem Zdl(its:List Value)(lo hi:Option Int):slicePick its.toArray lo hi none=((its.drop (HT.sIx its.length 0 lo)).take (HT.sIx its.length its.length hi-HT.sIx its.length 0 lo)).toArray:=by
 obtain⟨h1,h2,h3⟩:=Zd6 lo hi its.toArray.size
 unfold slicePick
 rw[h1,h2,h3]
 simp only[sliceRange_one,pick_run,List.size_toArray]<;>rfl
def ZjU(K:PySem.W.Frag):V→Option Int→Option Int→Hp→VK→Prop:=fun x lo hi H Q=>∃a xs,x=.ref a∧SqL K H a xs∧∀p,H p=none→Q (.ref p) (upd H p (.lst (Zcc xs lo hi)))
theorem Zh1:SlR X (ZjU X.K):=by
 intro pins s σ H x v vl vu lo hi sl Q I rx hs pl pu h
 obtain⟨a,xs,rfl,hx,q⟩:=h
 cases rx
 obtain⟨its,r,ht,hz⟩:=I.list hx
 have hlen:=r.length
 refine⟨"list",_,slot_list_getitem.lookup,ht.isList.typeIs,?_⟩
 refine wpAny_getItem_list_slice ht.isList hs pl pu .none (by simp) ?_ (by rw[Qw]<;>omega)
 rw[Zdl,← hlen]
 refine⟨.ref s.heap.objs.size,_,I.laid (t':=s.toks) (o:=.lst (Zcc xs lo hi)) (fun b ob q=>Qc _ q) (Qe _) ?_,rfl,q _ (I.hok.fresh (Qe _))⟩
 exact⟨Qq (Zcn xs lo hi) hz,_,0,(r.drop (HT.sIx xs.length 0 lo)).take (HT.sIx xs.length xs.length hi-HT.sIx xs.length 0 lo),Qy _ rfl⟩
theorem Zee:Zau X (.builtin "len") (fun xs H Q=>∃p ys,xs=[.ref p]∧(SqL X.K H p ys∨SqT X.K H p ys)∧Q (.int ys.length) H):=by
 intro pins s σ H xs us Q I r h
 obtain⟨p,ys,rfl,hq,q⟩:=h
 obtain⟨u,rfl,rx⟩:=ZbO r
 cases rx
 have hn:=Zc9
 rcases hq with hq|hq
 ·obtain⟨its,r',pl,hz⟩:=I.list hq
  have hlen:=r'.length
  exact Calls.call_len_list pl.isList (by simp only[List.size_toArray]<;>omega) ⟨.int ys.length,H,I.tok _,⟨s.toks+1,by rw[Qw,hlen]⟩,q⟩
 ·obtain⟨its,r',pl,hz⟩:=I.tuple hq
  have hlen:=r'.length
  exact len_tuple pl (by simp only[List.size_toArray]<;>omega) ⟨.int ys.length,H,I.tok _,⟨s.toks+1,by rw[Qw,hlen]⟩,q⟩
theorem Zae:Zau X (.builtin "len") (fun xs H Q=>∃z,xs=[.str z]∧z.length≤sizeLine∧Q (.int z.length) H):=by
 intro pins s σ H xs us Q I r h
 obtain⟨z,rfl,hz,q⟩:=h
 obtain⟨u,rfl,t,rfl⟩:=ZbO r
 have hn:=Zc9
 exact len_str (by omega) ⟨.int z.length,H,I.tok _,⟨_,rfl⟩,q⟩
theorem Zd0:Zau X (.type "list") (fun xs H Q=>∃p ys,xs=[.ref p]∧(SqL X.K H p ys∨SqT X.K H p ys)∧∀l,H l=none→Q (.ref l) (upd H l (.lst ys))):=by
 intro pins s σ H xs us Q I r h
 obtain⟨p,ys,rfl,hq,q⟩:=h
 obtain⟨u,rfl,rx⟩:=ZbO r
 cases rx
 have fin:∀ (its:List Value),Zv ys its→ys.length≤sizeLine→∀ (h':Heap) (c':Nat),(∀b o',s.heap.get? b=some o'→h'.get? b=some o') →
   h'.get? s.heap.objs.size=some { cls:=.type "list",dict:=none,data:=.seq its.toArray c',slots:=#[] }→EP X pins σ Q (.ref s.heap.objs.size) { s with heap:=h' }:=fun its r' hz h' c' kp e =>
  ⟨.ref s.heap.objs.size,_,I.laid (t':=s.toks) kp (Qe _) (show Z6 X.prog X.w _ h' _ (.lst ys) from⟨hz,its,c',r',e⟩),rfl,q _ (I.hok.fresh (Qe _))⟩
 rcases hq with hq|hq
 ·obtain⟨its,r',pl,hz⟩:=I.list hq
  have hlen:=r'.length
  obtain⟨o,ho,hc,n,hd⟩:=pl.isList
  exact call_list_seq p (.inl rfl) ho hc hd (fun h' c' kp e=>fin its r' hz h' c' kp e) (by simp only[List.size_toArray]<;>omega)
 ·obtain⟨its,r',pl,hz⟩:=I.tuple hq
  have hlen:=r'.length
  obtain⟨o,ho,hc,n,hd⟩:=pl
  exact call_list_seq p (.inr rfl) ho hc hd (fun h' c' kp e=>fin its r' hz h' c' kp e) (by simp only[List.size_toArray]<;>omega)
def tyV(K:PySem.W.Frag)(T:String)(x:V)(H:Hp):Prop:=match x with
 | .str _=>T = "str"
 | .int _=>T = "int"
 | .ref p=>(T = "list"∧∃xs,SqL K H p xs)∨(T = "tuple"∧∃o,K.lookup p=some o∧o.cls=.type "tuple"∧o.dict=none) ∨
   (T = "dict"∧((∃kvs,H p=some (.dK kvs))∨∃kvs,H p=some (.dT kvs)))∨(T = "set"∧∃S n,H p=some (.set S n))
 | _=>False
theorem Zi2{pins:List (Addr×Obj)}{σ:St}{H:Hp}{s:Shared}{T:String}{x:V}{v:Value}(I:Inv X pins σ H s)(r:ZA x v)(ty:tyV X.K T x H) :
  s.TypeIs v T∧∀a,v=.ref a→∃ob,s.heap.get? a=some ob∧ob.dict=none:=by
 cases x with
 | str z =>
  obtain⟨t,rfl⟩:=r
  cases (show T = "str" from ty)
  exact⟨typeIs_str s z t,fun _ e=>nomatch e⟩
 | int i =>
  obtain⟨t,rfl⟩:=r
  cases (show T = "int" from ty)
  exact⟨typeIs_int s i t,fun _ e=>nomatch e⟩
 | ref p =>
  cases r
  rcases ty with⟨rfl,xs,hq⟩|⟨rfl,o,hk,hc,hd⟩|⟨rfl,hk⟩|⟨rfl,S,n,hk⟩
  ·obtain⟨its,_,pl,_⟩:=I.list hq
   refine⟨pl.isList.typeIs,fun a e=>?_⟩
   cases e
   obtain⟨o,n,e,c,hd,_⟩:=pl
   exact⟨o,e,hd⟩
  ·refine⟨⟨o,I.kIn p o hk,hc⟩,fun a e=>?_⟩
   cases e
   exact⟨o,I.kIn _ o hk,hd⟩
  ·have z:∃o,s.heap.get? p=some o∧o.ExactDict:=by
    rcases hk with⟨kvs,hk⟩|⟨kvs,hk⟩
    ·obtain⟨_,_,_,_,o,_,_,e,ex,_⟩:=I.hok p _ hk
     exact⟨o,e,ex⟩
    ·obtain⟨_,_,_,_,o,_,_,e,ex,_⟩:=I.hok p _ hk
     exact⟨o,e,ex⟩
   obtain⟨o,e,ex⟩:=z
   refine⟨⟨o,e,ex.1⟩,fun a e2=>?_⟩
   cases e2
   exact⟨o,e,ex.2.1⟩
  ·obtain⟨o,_,_,_,e,ex,_⟩:=I.hok p _ hk
   refine⟨⟨o,e,ex.1⟩,fun a e2=>?_⟩
   cases e2
   exact⟨o,e,ex.2.1⟩
 | _=>exact False.elim ty
def tBM(K:PySem.W.Frag)(T:String)(r:V→List V→Hp→VK→Prop)(to:TE)(t:TA):TE:=fun σ H Q=>to σ H fun x H1=>tyV K T x H1∧t σ H1 fun xs H2=>r x xs H2 Q
variable {o e:Expr} {es:List Expr} {to:TE} {t:TA} {name:Str} {apos cpos:Pos} {T id:String} {r:V→List V→Hp→VK→Prop}
theorem Zel(pa:PlainAttrs T)(slot:Slot T name id)(hty:typeOf (.builtin id)=pure (.type "method_descriptor"))(hm:MtR X id r)(ho:PE X o to)(ha:PA X (e::es) t)
  (hbase:attributeBase o name X.env (eval o X.env)=eval o X.env:=by rfl)
  (hfew:((backTo cpos (starEach (e::es) X.env)).all (fun x=>!x.1)&&(backToKw cpos (keywordEach [] X.env)).all (fun x=>x.1.isSome)
   && decide ((e::es).length+([]:List Keyword).length+(if ([]:List Keyword).isEmpty then 0 else 1)<30))=true:=by rfl)
  (hline:(apos.endLine == cpos.line)=true:=by rfl) (hs:starEach (e::es) X.env=(false,eval e X.env)::starEach es X.env:=by rfl) (hplain:(backTo cpos (starEach es X.env)).any (·.1)=false:=by rfl) :
  PE X (.Call (.Attribute o name apos) (e::es) [] cpos) (tBM X.K T r to t):=by
 intro pins s σ H Q I h
 refine wpAny_Call_method_late hbase hfew hline rfl (thn (ho pins s σ H _ I h) ?_)
 rintro v s1 ⟨x,H1,I1,r1,ty,q1⟩
 obtain⟨h1,h2⟩:=Zi2 I1 r1 ty
 refine⟨T,id,pa,slot,hty,h1,h2,?_⟩
 have hA:=ha cpos pins s1 σ H1 _ I1 q1
 rw[hs]at hA ⊢
 refine Calls.callWith_builtin (by show (false||(backTo cpos (starEach es X.env)).any (·.1))=false;rw[hplain]<;>rfl) (Calls.evalArgs_plain ?_)
 exact thn hA fun us s2 ⟨vs,H2,I2,r2,q2⟩=>hm pins s2 σ H2 x vs v us Q I2 r1 r2 q2
end
def MtM(X:Cx)(id:String)(r:V→List V→Hp→VK→Prop):Prop :=
 ∀ (pins:List (Addr×Obj)) (s:Shared) (σ:St) (H:Hp) (x:V) (xs:List V) (v:Value) (us:List Value) (Q:VK),Inv X pins σ H s→ZA x v→Zv xs us→r x xs H Q →
  wpAny (model X.prog X.w) X.A (call (.builtin id) (v::us)) (EP X pins σ Q) X.xe s
theorem Zv.one:∀ {x:V} {us:List Value},Zv [x] us→∃u,us=[u]∧ZA x u
 | _,_,.cons r .nil=>⟨_,rfl,r⟩
section
variable {X:Cx} {pins:List (Addr×Obj)} {σ:St} {H:Hp} {s:Shared} {l b:Addr} {xs ys zs:List V}
theorem Inv.lset{its its':List Value}{n:Nat}{f:Array Value→Array Value}{t':Nat}(I:Inv X pins σ H s)(hH:H l=some (.lst xs))
  (e:s.heap.get? l=some { cls:=.type "list",data:=.seq its.toArray n }) (hf:f its.toArray=its'.toArray) (hv:Zv ys its') (hz:ys.length≤sizeLine) :
  Inv X pins σ (upd H l (.lst ys)) { s with heap:=s.heap.update l (Obj.mapSeq f),toks:=t' }:=by
 have q:=PySem.IsL.update e f
 rw[hf]at q
 refine I.write (x:=l) (e:=l) (by rw[hH];exact trivial) (.inl rfl) (fun b' u hb hu=>(QG s.heap (Obj.mapSeq f) (Ne.symm hb)).trans hu) ⟨_,q⟩ ?_
 exact⟨hz,its',_,hv,q⟩
theorem Inv.lnew{its:List Value}{t':Nat}(I:Inv X pins σ H s)(hv:Zv ys its)(hz:ys.length≤sizeLine) :
  Inv X pins σ (upd H s.heap.objs.size (.lst ys)) { s with heap:=s.heap.push { cls:=.type "list",data:=.seq its.toArray },toks:=t' } :=
 I.laid (fun _ _ q=>Qc _ q) (Qe _) ⟨hz,its,0,hv,Qy _ rfl⟩
theorem Inv.fresh(I:Inv X pins σ H s):H s.heap.objs.size=none:=I.hok.fresh (Qe _)
theorem Inv.lstM(I:Inv X pins σ H s)(hH:H l=some (.lst xs)):xs.length≤sizeLine∧∃ (its:List Value) (n:Nat),Zv xs its∧xs.length=its.length∧s.heap.get? l=some { cls:=.type "list",data:=.seq its.toArray n }:=by
 obtain⟨z,its,n,r,e⟩:=I.hok l _ hH
 exact⟨z,its,n,r,r.length,e⟩
end
section
variable {X:Cx}
def Ziq:V→List V→Hp→VK→Prop:=fun x vs H Q=>∃l xs y,x=.ref l∧vs=[y]∧H l=some (.lst xs)∧xs.length<sizeLine∧Q .non (upd H l (.lst (xs++[y])))
theorem ZbE:MtM X "list.append" Ziq:=by
 intro pins s σ H x vs v us Q I rx rv h
 obtain⟨l,xs,y,rfl,rfl,hH,hz,q⟩:=h
 cases rx
 obtain⟨u,rfl,ru⟩:=rv.one
 obtain⟨z,its,n,r,hl,e⟩:=I.lstM hH
 refine call_meets F.slot_list_append ⟨_,e,rfl⟩ F.entry_list_append (F.args_list_append_2 _ _) (PySem.list_append l its.toArray n u (by rw[Qw];omega)) ⟨e,?_⟩
 refine⟨.non,_,I.lset (its':=its++[u]) hH e (by simp) (r.append (.cons ru .nil)) ?_,rfl,q⟩
 rw[Qm,List.length_singleton]
 omega
def ZkV:R2:=fun x y H Q=>∃l b xs zs,x=.ref l∧y=.ref b∧H l=some (.lst xs)∧H b=some (.lst zs)∧xs.length+zs.length≤sizeLine∧∀p,H p=none→Q (.ref p) (upd H p (.lst (xs++zs)))
theorem ZcH:OpR X (binaryOp .Add) ZkV:=by
 intro pins s σ H x y v u Q I rx ry h
 obtain⟨l,b,xs,zs,rfl,rfl,hH,hB,hz,q⟩:=h
 cases rx
 cases ry
 obtain⟨z,its,n,r,hl,e⟩:=I.lstM hH
 obtain⟨z2,its2,n2,r2,hl2,e2⟩:=I.lstM hB
 refine PySem.P.add_list e e2 ?_ (by rw[Qw,Qw];omega)
 have ea:its.toArray++its2.toArray=(its++its2).toArray:=by simp
 rw[ea]
 exact⟨.ref _,_,I.lnew (t':=s.toks) (r.append r2) (by rw[Qm];omega),rfl,q _ I.fresh⟩
end
section
variable {prog:Program} {w:World} {A:Around} {E:Value→Shared→Prop} {s:Shared}
end
section
variable {X:Cx}
end
end L2
namespace Att
open PySem PySem.W PySem.Calls PyProof.Rows
theorem Zcw{P:Params}{h:Heap}:∀ (ns:List Int) (vs:List Value),WellAll P h vs (ns.map WData.int)→IntsAre vs ns:=by
 intro ns
 induction ns with
 | nil =>
  intro vs w
  rw[List.map_nil]at w
  cases w
  exact .nil
 | cons n ns ih =>
  intro vs w
  rw[Qx]at w
  cases w with
  | cons a b =>
   cases a
   exact .cons _ _ (ih _ b)
theorem Zgi{l:OpenLaw}{n:Nat}(hn:l.most=some n){P:Params}{h:Heap}{args:List WData}{vals:List Value}
  (hpre:l.row.toRowW.claim.pre args=true) (hwl:WellAll P h vals args) :
  ∃a vs ns,vals=[Value.ref a]∧args=[WData.list (ns.map WData.int)]∧h.get? a=some { cls:=.type "list",data:=.seq vs.toArray }∧IntsAre vs ns∧ns.length≤n:=by
 have hsh:WShape.hasAll [] args [.list .int]=true:=(pre_splitW hpre).1
 have hc:l.pre.holds [] { args:=args }=true:=(pre_splitW hpre).2
 obtain⟨d,r,rfl,h1,h2⟩:=hasAllW_cons hsh
 obtain rfl:=hasAllW_nil h2
 obtain⟨xs,rfl,h3⟩:=hasW_list h1
 obtain⟨ns,rfl⟩:=items_int h3
 have hlen:ns.length≤n:=by
  unfold OpenLaw.pre at hc
  have h4:(WTm.not (.lt (.lit (.int (n:Int))) (.len (.arg 0)))).holds [] { args:=[.list (ns.map .int)] }=true:=by
   have h4:=(holds_andW hc).1
   rw[hn]at h4
   exact h4
  have h5:=condW_of h4 (w_not (w_lt w_lit (w_len_list (w_arg rfl))))
  rw[Qb]at h5
  refine Nat.le_of_not_lt fun q=>?_
  have q':(n:Int)<((ns.length:Nat):Int):=by omega
  first
   | (rw[decide_eq_true q']at h5;exact absurd h5 (by decide))
   | (simp at h5;omega)
 cases hwl with
 | cons w1 w2 =>
  cases w2
  cases w1 with
  | list ho hall=>exact⟨_,_,ns,rfl,rfl,ho,Zcw ns _ hall,hlen⟩
theorem Zgv(l:OpenLaw)(args:List WData):l.row.toRowW.claim.post args (.bool true) args=true :=
 postW_of (r:=l.row.toRowW) (X:=(true == true))
  (show WShape.has [] (.bool true) .bool=true by first|rfl|decide|simp[WShape.has,WShape.arms,WShape.armsAll])
  (show (WTm.eq .res (.lit (.bool true))).value [] { args:=args,res:=some (.bool true),after:=args }=some (.bool (true == true)) from w_eq_bool (w_res rfl) w_lit) rfl
theorem attach_call{l:OpenLaw}{n:Nat}{q:Program}{loose:List Str}{XP:(Str→Option Value)→Heap→Prop}{YP:World→Heap→Prop}{d:DefRec}
  (hn:l.most=some n) (hdf:d.params.defaults=[])
  (call:∀ (w:World) (s₀ s₁:Shared) (mg mb:Str→Option Value) (fa:Addr) (o:Obj) (pm cd doc:Value) (a:Addr) (vs:List Value) (ns:List Int),
   Ground q loose [] XP w s₀ mg mb s₁.heap→YP w s₁.heap →
   s₁.heap.get? fa=some o→o.data=.func (docDef d.name d.params d.body d.scope pm cd doc)→s₁.heap.CodeRec cd d.name→mg d.name=some (.ref fa) →
   s₁.heap.get? a=some { cls:=.type "list",data:=.seq vs.toArray }→IntsAre vs ns→ns.length≤n→s₁.gens = #[] →
   codeAny (model l.prog w) callerA (.call (.ref fa) ⟨[.ref a],[]⟩) (fun r s'=>r=.ok (.ret (.bool true))∧OldK s₁.heap s'.heap∧s'.os=s₁.os∧AllBare s'.gens) s₁) :
  WalkO q loose XP YP l.row.toRowW d [] (fun f vs=>PySem.call f vs):=by
 intro w s₀ s₁ mg mb G Y fa o pm cd doc dV kV ho hd hcd hD hmg hg args vals as hpre hlay hrd hwl hlo
 obtain rfl:dV=.none:=Dflts.none hD hdf
 obtain rfl:kV=.none:=Dflts.noKw hD
 obtain⟨a,vs,ns,rfl,rfl,hobj,hints,hlen⟩:=Zgi hn hpre hwl
 refine enter_call (codeAny_mono (call w s₀ s₁ mg mb fa o pm cd doc a vs ns G Y ho (fd_plain hd) hcd hmg hobj hints hlen hg) fun r s' hq=>?_)
 obtain⟨rfl,h2,h3,h4⟩:=hq
 exact⟨.inl ⟨.bool true,.bool true,[],rfl,fun _=>rfl,.bool true,Zgv l _,fun _=>⟨List.Pairwise.nil,fun _ hm=>(nomatch hm)⟩⟩,h2,h3,h4⟩
section
variable {prog:Program} {w:World} {A:Around} {E:Value→Shared→Prop} {s:Shared} {K:Frag}
end
end Att
namespace L2
open PySem PySem.Spec PyProof.Rows
theorem ZdO:∀ {vs:List Value} {ns:List Int},IntsAre vs ns→Zv (ns.map V.int) vs
 | _,_,.nil=>.nil
 | _,_,.cons n t h=>.cons ⟨t,rfl⟩ (ZdO h)
def Zi7(H:Hp):Prop:=∀b,H b=none∨∃o xs,H b=some (.frz o (.lst xs))
theorem ZhG{P:Program}{w:World}{K:PySem.W.Frag}{mg mb:Str→Option Value}{CX:CXT}{k:Nat}{fa a:Addr}{fd:FuncData}{x:Str}{sp:Sp}{s₁:Shared}{vs:List Value}{ns:List Int}
  (KX:K.In s₁.heap) (hns:s₁.heap.Ns mainGlobals mg) (hb:s₁.heap.Ns builtinsNs mb) (hbb:∀x:Str,x ≠ "__name__"→mb x=bootBuiltins x) (hlim:s₁.heap.NoLimit) (hg:s₁.gens = #[])
  (ha:s₁.heap.get? a=some { cls:=.type "list",data:=.seq vs.toArray }) (hi:IntsAre vs ns) (hl:ns.length≤sizeLine) (hr:ZM k callerA)
  (F:∀base:Heap,K.In base→base.Ns mainGlobals mg→ZaA P w K mg base CX k fa fd [x] sp) (hbind:∀ (s:Shared) (u:Value),BindsTo s fd ⟨[u],[]⟩ [(x,u)])
  (hsp:∀H:Hp,Zi7 H→SqL K H a (ns.map V.int)→sp [.ref a] H (fun v _=>v=.bl true) fun _ _ _=>False)
  (hCX:∀H e s',CX [] H s₁ (fun _ _ _=>False) e s'→False) :
  codeAny (model P w) callerA (.call (.ref fa) ⟨[.ref a],[]⟩) (fun r s'=>r=.ok (.ret (.bool true))∧OldK s₁.heap s'.heap∧s'.os=s₁.os∧AllBare s'.gens) s₁:=by
 have rv:=ZdO hi
 have lenV:=hi.length
 have core:∀H:Hp,Zi7 H→SqL K H a (ns.map V.int)→HOk P w H s₁.heap→(∀b,H b≠none→b=a)→(H a≠none→K.lookup a=none) →
   codeAny (model P w) callerA (.call (.ref fa) ⟨[.ref a],[]⟩) (fun r s'=>r=.ok (.ret (.bool true))∧OldK s₁.heap s'.heap∧s'.os=s₁.os∧AllBare s'.gens) s₁:=by
  intro H hO hS hok hA hK
  have base_of:∀ {b:Addr} {o:Obj},s₁.heap.get? b=some o→H b=none→(Zd5 s₁.heap H).get? b=some o:=fun e n=>Zg9 e n
  have noA:∀ {b:Addr} {o:Obj} {es:Array DictEntry} {ep:Nat},s₁.heap.get? b=some o→o.data=.dict es ep→H b=none:=fun {b o es ep} e d=>by
   cases q:H b with
   | none=>rfl
   | some u =>
    have e':b=a:=hA b (by rw[q];simp)
    subst e'
    rw[ha]at e;cases e
    have d':Data.seq vs.toArray _=Data.dict es ep:=d
    cases d'
  have nsK:∀ {b:Addr} {m:Str→Option Value},s₁.heap.Ns b m→(Zd5 s₁.heap H).Ns b m:=fun {b m} ⟨o,es,ep,e,d,r⟩=>⟨o,es,ep,base_of e (noA e d),d,r⟩
  have hKb:K.In (Zd5 s₁.heap H):=fun b o e=>base_of (KX b o e) (by
   cases q:H b with
   | none=>rfl
   | some u =>
    have e':b=a:=hA b (by rw[q];simp)
    subst e'
    rw[hK (by rw[q];simp)]at e;cases e)
  have hM:Mod K mg (Zd5 s₁.heap H):=⟨hKb,nsK hns,⟨mb,nsK hb,hbb⟩,let ⟨mc,h1,h2⟩:=hlim;⟨mc,nsK h1,h2⟩⟩
  have e0:Ze9 P w K mg (Zd5 s₁.heap H) callerA [] s₁ H:=⟨rfl,hM,fun b o e=>Zh8 e,Nat.le_of_eq (Zgc _ _),trivial,fun b hb=>absurd (show b∈([]:List Addr) from hb) (by simp),hok,.of_eq hg⟩
  refine codeAny_mono ((F _ hKb (nsK hns)).run callerA [] s₁ H ⟨[.ref a],[]⟩ [.ref a] [.ref a] _ _ hr e0 (hbind s₁ (.ref a)) (.cons rfl .nil) (hsp H hO hS)) fun r s' h=>?_
  cases r with
  | error e=>exact(hCX H e s' h).elim
  | ok fl =>
   cases fl with
   | next=>exact False.elim h
   | brk=>exact False.elim h
   | cont=>exact False.elim h
   | ret u =>
    obtain⟨v,H',os,bare,un,hok',r',q⟩:=h
    have q':v=.bl true:=q
    subst q'
    obtain rfl:u=Value.bool true:=r'
    refine⟨rfl,OldK.of_keep fun b o e=>?_,os,bare⟩
    cases q:H b with
    | none=>exact un.keep b o e q (by intro z;exact absurd (show b∈([]:List Addr) from z) (by simp)) (by simp)
    | some u =>
     rcases hO b with z|⟨ob,xs,z⟩
     ·rw[q]at z;cases z
     ·have z2:=un.frzs b ob _ z
      obtain⟨e1,_⟩:=hok b _ z
      obtain⟨e2,_⟩:=hok' b _ z2
      rw[e]at e1;cases e1
      exact e2
 cases hk:K.lookup a with
 | some o =>
  have e:=KX a o hk
  rw[ha]at e
  cases e
  refine core (fun _=>none) (fun _=>.inl rfl) (.inr ⟨_,vs.toArray,_,hk,rfl,rfl,rfl,by rw[Qw,lenV];exact hl,by simpa using rv⟩) (fun b u z=>by have z':(none:Option HO)=some u:=z;cases z') (fun b z=>absurd rfl z) fun z=>absurd rfl z
 | none =>
  refine core (fun b=>if b=a then some (.frz { cls:=.type "list",data:=.seq vs.toArray } (.lst (ns.map V.int))) else none) (fun b=>?_) (.inl (.inr ⟨{ cls:=.type "list",data:=.seq vs.toArray },if_pos rfl⟩)) (fun b u z=>?_) (fun b z=>?_) fun _=>hk
  ·by_cases hb:b=a
   ·exact .inr ⟨_,_,if_pos hb⟩
   ·exact .inl (if_neg hb)
  ·by_cases hb:b=a
   ·have z':=(if_pos hb).symm.trans z
    cases z'
    subst hb
    exact⟨ha,by rw[Qb];exact hl,vs,_,rv,ha⟩
   ·have z':=(if_neg hb).symm.trans z
    cases z'
  ·by_cases hb:b=a
   ·exact hb
   ·exact absurd (if_neg hb) z
theorem walk_of{l:PySem.W.OpenLaw}{n k:Nat}{q:Program}{loose:List Str}{XP:(Str→Option Value)→Heap→Prop}{YP:World→Heap→Prop}{d:DefRec}{K:Params→PySem.W.Frag}{CX:World→CXT}{sp:World→Sp}{x:Str}
  (hn:l.most=some n) (hn2:n≤sizeLine) (hdf:d.params.defaults=[]) (hr:ZM k callerA)
  (hY:∀ (w:World) (h:Heap),YP w h→(K w.params).In h)
  (F:∀ (w:World) (mg:Str→Option Value) (fa:Addr) (h:Heap),(K w.params).In h→h.Ns mainGlobals mg→mg d.name=some (.ref fa) →
   ∃fd:FuncData,(∀ (s:Shared) (u:Value),BindsTo s fd ⟨[u],[]⟩ [(x,u)]) ∧
    ∀base:Heap,(K w.params).In base→base.Ns mainGlobals mg→ZaA l.prog w (K w.params) mg base (CX w) k fa fd [x] (sp w))
  (hsp:∀ (w:World) (H:Hp) (a:Addr) (ns:List Int),ns.length≤n→Zi7 H→SqL (K w.params) H a (ns.map V.int)→sp w [.ref a] H (fun v _=>v=.bl true) fun _ _ _=>False)
  (hCX:∀ (w:World) (H:Hp) (s:Shared) (e:Value) (s':Shared),CX w [] H s (fun _ _ _=>False) e s'→False) :
  PySem.W.WalkO q loose XP YP l.row.toRowW d [] (fun f vs=>PySem.call f vs):=by
 refine Att.attach_call hn hdf fun w s₀ s₁ mg mb fa o pm cd doc a vs ns G Y ho hd hcd hmg hobj hints hlen hg=>?_
 have KX:=hY w _ Y
 obtain⟨fd,hb,hF⟩:=F w mg fa _ KX G.T.g hmg
 exact ZhG KX G.T.g G.T.b G.T.builtins G.T.nolimit hg hobj hints (Qq hlen hn2) hr hF hb (fun H hO hS=>hsp w H a ns hlen hO hS) fun H e s'=>hCX w H s₁ e s'
def ZaH(s:Stmt)(j:Nat):Stmt:=match s with
 | .ClassDef _ _ _ body _ _ _ _ _ _ _=>body.getD j (.Pass ⟨0,0,0,0⟩)
 | _=>.Pass ⟨0,0,0,0⟩
def Zq(s:Stmt):Arguments:=match s with
 | .FunctionDef _ a _ _ _ _ _ _ _ _=>a
 | _=>{ posonlyargs:=[],args:=[],vararg:=none,kwonlyargs:=[],kw_defaults:=[],kwarg:=none,defaults:=[] }
def Zm(s:Stmt):List Stmt:=match s with
 | .FunctionDef _ _ b _ _ _ _ _ _ _=>b
 | _=>[]
def Zd(s:Stmt):Scope:=match s with
 | .FunctionDef _ _ _ _ _ _ sc _ _ _=>sc
 | _=>{ kind:=.function,names:=[],isGenerator:=false,isCoroutine:=false }
abbrev CX0:CXT:=fun _ _ _ _ _ _=>False
abbrev E0:XK:=fun _ _ _=>False
theorem Zf0{X:Cx}:ZbU CX0 X E0:=fun _ _ _ _ _ _ _ h=>h.elim
structure Fun (K:PySem.W.Frag) (x qual:Str) (st:Stmt) (f:Addr) (fd:FuncData):Prop where
 ex:∃ (oc:Value) (od:Option Addr) (kV doc pm:Value) (an:Option Addr) (cdv ct:Value) (osl:Array (Option Value)),
  fd=PySem.W.fnOf x qual (Zq st) (Zm st) (Zd st) .none kV doc pm an cdv ct∧K.lookup f=some ⟨oc,od,.func fd,osl⟩∧PySem.W.codeIn K cdv qual=true
 kp:PySem.W.keepIn K (.ref f)=true
section
variable {P:Program} {w:World} {K:PySem.W.Frag} {mg:Str→Option Value} {base:Heap}
theorem Fun.ok{x qual:Str}{st:Stmt}{f:Addr}{fd:FuncData}{N ps:List Str}{k:Nat}{sp:Sp}(F:Fun K x qual st f fd)(S:Zo N ps (Zd st))(len:∀vs H Q E,sp vs H Q E→vs.length=ps.length)
  (hbody:∀ (cdv:Value) (A:Around) (outer:List Env) (s:Shared) (H:Hp) (vs:List V) (Q:VK) (E:XK),ZM k (A.deeper (envOfC qual (Zd st) s.heap.objs.size f cdv))→sp vs H Q E →
   ∃t,PSs (ZbJ CX0 P w K mg base N qual (Zd st) f cdv A outer s H E).nox (Zm st) t∧t { nx:=fun _ H'=>Q .non H',rt:=Q } (ZaR N vs) H):ZaA P w K mg base CX0 (k+1) f fd ps sp:=by
 obtain⟨oc,od,kV,doc,pm,an,cdv,ct,osl,rfl,lk,hcd⟩:=F.ex
 refine ZiO lk hcd S len fun A outer s H vs Q E hr hsp=>?_
 obtain⟨t,h,q⟩:=hbody cdv A outer s H vs Q E hr hsp
 exact⟨t,h.nox,q⟩
theorem Fun.binds{x qual:Str}{st:Stmt}{f:Addr}{fd:FuncData}{ps:List Str}(F:Fun K x qual st f fd)
  (h:∀ (kV doc pm:Value) (an:Option Addr) (cdv ct:Value) (us:List Value),us.length=ps.length→bindArgs (PySem.W.fnOf x qual (Zq st) (Zm st) (Zd st) .none kV doc pm an cdv ct) ⟨us,[]⟩=pure (ps.zip us)):Z7 K fd ps []:=by
 obtain⟨oc,od,kV,doc,pm,an,cdv,ct,osl,rfl,lk,hcd⟩:=F.ex
 exact .all (h kV doc pm an cdv ct)
theorem ZU{x qual:Str}{st:Stmt}{f:Addr}{oc:Value}{od an:Option Addr}{osl:Array (Option Value)}{kV doc pm cdv ct:Value}(l:K.lookup f=some ⟨oc,od,.func (PySem.W.fnOf x qual (Zq st) (Zm st) (Zd st) .none kV doc pm an cdv ct),osl⟩)
  (c:PySem.W.codeIn K cdv qual=true) (k:PySem.W.keepIn K (.ref f)=true):Fun K x qual st f (PySem.W.fnOf x qual (Zq st) (Zm st) (Zd st) .none kV doc pm an cdv ct):=⟨⟨oc,od,kV,doc,pm,an,cdv,ct,osl,rfl,l,c⟩,k⟩
end
theorem ZiK{A:Around}{k:Nat}(hr:ZM k A):A.units+1<cLine:=Nat.lt_of_le_of_lt (Nat.add_le_add_left (by decide:1≤64) _) hr.units
theorem Zp{n:Nat}(h:n≤1000):n<sizeLine:=Nat.lt_of_le_of_lt h (by decide)
section
variable {X:Cx}
theorem pv(i:Nat){x:Str}{pos:Pos}(hN:X.N[i]? = some x:=by rfl)(hv:Vis X.env.scope x:=by first|exact Or.inl rfl|exact Or.inr (Or.inl rfl)|exact Or.inr (Or.inr rfl))(hd:(x == ("__debug__" : Str))=false:=by decide)
  (hcd:(x == ("__classdict__" : Str))=false:=by decide):PE X (.Name x pos) (ZiA i):=ZeR hN hv hd hcd
end
theorem Zcu{A B:Prop}(h:B):if false=true then A else B:=by
 rw[if_neg Qi]
 exact h
theorem Zh6{A B:Prop}(h:A):if true=true then A else B:=by
 rw[if_pos rfl]
 exact h
theorem Zbi{c A B:Prop}[Decidable c](h1:c→A)(h2:¬ c→B):if c then A else B:=by
 by_cases h:c
 ·rw[if_pos h]
  exact h1 h
 ·rw[if_neg h]
  exact h2 h
theorem Zg0{c A B:Prop}[Decidable c](hc:c)(h:B):if (!decide c)=true then A else B:=by
 rw[decide_eq_true hc]
 exact Zcu h
def ZH(H H':Hp):Prop:=∀b o,H b=some o→H' b=some o
theorem ZH.refl(H:Hp):ZH H H:=fun _ _ h=>h
theorem ZH.trans{H H1 H2:Hp}(a:ZH H H1)(b:ZH H1 H2):ZH H H2:=fun c o h=>b c o (a c o h)
theorem ZH.free{H H':Hp}(e:ZH H H'){l:Addr}(h:H' l=Option.none):H l=Option.none:=by
 cases q:H l with
 | none=>rfl
 | some o =>
  rw[e l o q]at h
  cases h
theorem ZH.seq{K:PySem.W.Frag}{H H':Hp}{a:Addr}{xs:List V}(e:ZH H H')(h:SqL K H a xs):SqL K H' a xs:=by
 rcases h with(h|⟨o,h⟩)|h
 ·exact .inl (.inl (e _ _ h))
 ·exact .inl (.inr ⟨o,e _ _ h⟩)
 ·exact .inr h
def Z4(cells:List (Str×Addr)):List (Str×NameKind)→List (Str×Addr)→List (Str×Addr)
 | [],acc=>acc
 | (n,k)::r,acc=>if k == .free then Z4 cells r ((n,(cells.lookup n).getD 0)::acc) else Z4 cells r acc
theorem Zdn{sc:Scope}{env:Env}(h:∀y∈sc.names,y.2=.free→∃c,env.cells.lookup y.1=some c) :
  closureFor sc env=pure (Z4 env.cells sc.names []):=by
 have go:∀ (names:List (Str×NameKind)) (acc:List (Str×Addr)),(∀y∈names,y.2=.free→∃c,env.cells.lookup y.1=some c) →
   (forIn names acc fun (x:Str×NameKind) (r:List (Str×Addr))=>if (x.2 == NameKind.free)=true then (do let c ← cellOf env x.1;pure (ForInStep.yield ((x.1,c)::r))) else pure (ForInStep.yield r):Sem (List (Str×Addr)))=pure (Z4 env.cells names acc):=by
  intro names
  induction names with
  | nil=>intro acc _;rfl
  | cons y r ih =>
   intro acc hy
   obtain⟨n,k⟩:=y
   rw[List.forIn_cons]
   cases hk:(k == NameKind.free) with
   | false =>
    have e1:Z4 env.cells ((n,k)::r) acc=Z4 env.cells r acc:=by
     show (if (k == NameKind.free)=true then _ else _)=_
     rw[hk];rfl
    rw[e1,← ih acc fun z hz=>hy z (Qo _ hz)]
    simp only[hk,Bool.false_eq_true,if_false,pure_bind]
   | true =>
    have hk':k=.free:=by simpa using hk
    obtain⟨c,hc⟩:=hy (n,k) QN hk'
    have e1:Z4 env.cells ((n,k)::r) acc=Z4 env.cells r ((n,c)::acc):=by
     show (if (k == NameKind.free)=true then _ else _)=_
     rw[hk,hc];rfl
    have e2:cellOf env n=pure c:=by
     unfold cellOf
     rw[hc]
    rw[e1,← ih ((n,c)::acc) fun z hz=>hy z (Qo _ hz)]
    simp only[hk,if_true,e2,pure_bind]
 have q:=go sc.names [] h
 unfold closureFor
 first
  | (rw[show (forIn sc.names ([]:List (Str×Addr)) _:Sem (List (Str×Addr)))=pure (Z4 env.cells sc.names []) from q];rfl)
  | (simp only[bind_pure];exact q)
  | exact q
theorem Zbt(cells:List (Str×Addr)):∀ (names:List (Str×NameKind)) (acc:List (Str×Addr)) (x:Str) (c:Addr),(Z4 cells names acc).lookup x=some c →
  (∃y∈names,y.1=x∧y.2=.free∧c=(cells.lookup x).getD 0)∨acc.lookup x=some c
 | [],acc,x,c,h=>.inr h
 | (n,k)::r,acc,x,c,h=>by
  by_cases hk:(k == NameKind.free)=true
  ·have e:Z4 cells ((n,k)::r) acc=Z4 cells r ((n,(cells.lookup n).getD 0)::acc):=by
    show (if (k == NameKind.free)=true then _ else _)=_
    rw[if_pos hk]
   rw[e]at h
   rcases Zbt cells r _ x c h with⟨y,hy,q⟩|q
   ·exact .inl ⟨y,Qo _ hy,q⟩
   ·rw[Q5]at q
    by_cases hx:(x == n)=true
    ·rw[hx]at q
     have hx':x=n:=by simpa using hx
     subst hx'
     exact .inl ⟨(x,k),QN,rfl,by simpa using hk,(Ql q).symm⟩
    ·have hx':(x == n)=false:=by simpa using hx
     rw[hx']at q
     exact .inr q
  ·have e:Z4 cells ((n,k)::r) acc=Z4 cells r acc:=by
    show (if (k == NameKind.free)=true then _ else _)=_
    rw[if_neg hk]
   rw[e]at h
   rcases Zbt cells r _ x c h with⟨y,hy,q⟩|q
   ·exact .inl ⟨y,Qo _ hy,q⟩
   ·exact .inr q
theorem ZcP(cells:List (Str×Addr)):∀ (names:List (Str×NameKind)) (acc:List (Str×Addr)) (x:Str),((∃y∈names,y.1=x∧y.2=.free)∨∃c,acc.lookup x=some c) →
  ∃c,(Z4 cells names acc).lookup x=some c
 | [],acc,x,h=>by
  rcases h with⟨y,hy,_⟩|h
  ·cases hy
  ·exact h
 | (n,k)::r,acc,x,h=>by
  by_cases hk:(k == NameKind.free)=true
  ·have e:Z4 cells ((n,k)::r) acc=Z4 cells r ((n,(cells.lookup n).getD 0)::acc):=by
    show (if (k == NameKind.free)=true then _ else _)=_
    rw[if_pos hk]
   rw[e]
   refine ZcP cells r _ x ?_
   by_cases hx:(x == n)=true
   ·exact .inr ⟨_,by rw[Q5,hx]⟩
   ·have hx':(x == n)=false:=by simpa using hx
    rcases h with⟨y,hy,q⟩|⟨c,q⟩
    ·rcases QE.mp hy with rfl|hy
     ·exact absurd (by simpa using q.1.symm) hx
     ·exact .inl ⟨y,hy,q⟩
    ·exact .inr ⟨c,by rw[Q5,hx'];exact q⟩
  ·have e:Z4 cells ((n,k)::r) acc=Z4 cells r acc:=by
    show (if (k == NameKind.free)=true then _ else _)=_
    rw[if_neg hk]
   rw[e]
   refine ZcP cells r _ x ?_
   rcases h with⟨y,hy,q⟩|h
   ·rcases QE.mp hy with rfl|hy
    ·exact absurd (by simpa using q.2) hk
    ·exact .inl ⟨y,hy,q⟩
   ·exact .inr h
structure Z0 (N N':List Str) (o c:Scope):Prop where
 kind:c.kind=.function
 okind:o.kind=.function
 nocell:∀y∈c.names,y.2≠.cell
 loc:∀y∈c.names,y.2=.local→c.names.lookup y.1=some .local
 free:∀y∈c.names,y.2=.free→c.names.lookup y.1=some .free∧(o.names.lookup y.1=some .cell∨o.names.lookup y.1=some .free)
 len:N.length≤N'.length
 same:∀i∈List.range N.length,∀x∈N'[i]?,c.names.lookup x=some .local∨c.names.lookup x=some .free→c.names.lookup x=some .free∧N[i]? = some x
 nd:N'.Nodup
def Z2(X:Cx)(c:Scope)(N':List Str)(C:Addr)(s:Shared)(H:Hp)(fp:List Addr):Cx :=
 { X with N:=N',s₀:=s,H₀:=H,env:=compEnvC c (Z4 X.env.cells c.names []) C X.env,outer:=X.stack,stack:=X.stack,ex:=fp,fn:=fun _=>false,pn:=[],xe:=fun _ _=>False }
theorem ZbB{env:Env}(hf:env.scope.kind=.function):∀ (names:List (Str×NameKind)) (x:Str),
  (names.map fun (p:Str×NameKind)=>if (p.2 == NameKind.free&&env.scope.kind == .function&&env.kindOf p.1 == some .cell)=true then (p.1,NameKind.cell) else (p.1,p.2)).lookup x =
   match names.lookup x with
   | some .free=>if env.kindOf x=some .cell then some .cell else some .free
   | k=>k
 | [],x=>rfl
 | (n,k)::r,x=>by
  have ih:=ZbB hf r x
  rw[Qx]
  by_cases hx:(x == n)=true
  ·have hx':x=n:=by simpa using hx
   subst hx'
   have e2:List.lookup x ((x,k)::r)=some k:=by rw[Q5];simp
   rw[e2]
   by_cases hk:k=.free
   ·subst hk
    by_cases hc:env.kindOf x=some .cell
    ·simp[List.lookup_cons,hf,hc]
    ·simp[List.lookup_cons,hf,hc]
   ·have hk':(k == NameKind.free)=false:=by simpa using hk
    rw[hk']
    simp only[Bool.false_and,Bool.false_eq_true,if_false,List.lookup_cons,beq_self_eq_true]
    all_goals (cases k<;>first|rfl|exact absurd rfl hk)
  ·have hx':(x == n)=false:=by simpa using hx
   have e2:List.lookup x ((n,k)::r)=List.lookup x r:=by rw[Q5,hx']
   rw[e2,← ih]
   by_cases hc:(k == NameKind.free&&env.scope.kind == .function&&env.kindOf n == some .cell)=true
   ·simp only[hc,if_true,List.lookup_cons,hx']
   ·simp only[hc,if_false,List.lookup_cons,hx',Bool.false_eq_true]
section
variable {X:Cx} {N N':List Str} {o c:Scope}
theorem Za6(S:Z0 N N' o c)(ho:X.env.scope=o)(cl:List (Str×Addr))(C:Addr)(x:Str):(compEnvC c cl C X.env).kindOf x =
  match c.names.lookup x with
  | some .free=>if X.env.kindOf x=some .cell then some .cell else some .free
  | k=>k:=ZbB (env:=X.env) (by rw[ho];exact S.okind) c.names x
theorem Zbj{names:List (Str×NameKind)}{x:Str}{k:NameKind}(h:names.lookup x=some k):(x,k)∈names:=QJ h
theorem ZaM(S:Z0 N N' o c)(ho:X.env.scope=o)(ok:X.Ok){x:Str}{a:Addr}(h:(Z4 X.env.cells c.names []).lookup x=some a) :
  X.env.cells.lookup x=some a∧c.names.lookup x=some .free:=by
 rcases Zbt _ _ _ _ _ h with⟨y,hy,rfl,hf,e⟩|q
 ·have hk:=S.free y hy hf
  have hv:X.env.kindOf y.1=some .cell∨X.env.kindOf y.1=some .free:=by
   show X.env.scope.names.lookup y.1=_∨X.env.scope.names.lookup y.1=_
   rw[ho];exact hk.2
  obtain⟨b,hb⟩:=ok.has y.1 hv
  rw[hb]at e
  exact⟨by rw[hb,e];rfl,hk.1⟩
 ·cases q
theorem ZeN(S:Z0 N N' o c)(ho:X.env.scope=o)(ok:X.Ok){x:Str}(h:c.names.lookup x=some .free):∃a,(Z4 X.env.cells c.names []).lookup x=some a∧X.env.cells.lookup x=some a:=by
 obtain⟨a,ha⟩:=ZcP X.env.cells c.names [] x (.inl ⟨(x,.free),Zbj h,rfl,rfl⟩)
 exact⟨a,ha,(ZaM S ho ok ha).1⟩
theorem Zir(S:Z0 N N' o c)(ho:X.env.scope=o){pins:List (Addr×Obj)}{σ:St}{H:Hp}{s:Shared}{fp:List Addr}(I:Inv X pins σ H s)
  (hf:∀b∈fp,Zc7 X pins H b) (ht:∀b∈fp,b<s.heap.objs.size):(Z2 X c N' s.heap.objs.size s H fp).Ok where
 mod:=I.ok.mod
 kind:=S.kind
 glob:=I.ok.glob
 blt:=I.ok.blt
 above:=Qe _
 inj:=fun x y a h1 h2=>I.ok.inj x y a (ZaM S ho I.ok h1).1 (ZaM S ho I.ok h2).1
 has:=fun x hx=>by
  have e:=Za6 (X:=X) S ho (Z4 X.env.cells c.names []) s.heap.objs.size x
  have hx':(compEnvC c (Z4 X.env.cells c.names []) s.heap.objs.size X.env).kindOf x=some .cell∨(compEnvC c (Z4 X.env.cells c.names []) s.heap.objs.size X.env).kindOf x=some .free:=hx
  rw[e]at hx'
  cases q:c.names.lookup x with
  | none=>rw[q]at hx';rcases hx' with z|z<;>cases z
  | some k =>
   by_cases hk:k=.free
   ·subst hk
    obtain⟨a,ha,_⟩:=ZeN S ho I.ok q
    exact⟨a,ha⟩
   ·rw[q]at hx'
    have hc:k=.cell:=by
     cases k<;>first|rfl|exact absurd rfl hk|(rcases hx' with z|z<;>cases z)
    subst hc
    exact absurd rfl (S.nocell _ (Zbj q))
 cab:=fun x a h=>by cases (show false=true from h)
 hd:=I.ok.hd
 frames:=I.ok.frames
 stk:=.inl rfl
 exf:=fun b hb=>⟨Qp (ht b hb),fun x a h=>(hf b hb).2.2.2.2.1 x a (ZaM S ho I.ok h).1⟩
 bs:=fun b ob e=>I.bs b ob e
 bsz:=Qq I.ok.bsz I.sz
 noex:=fun b ob e hb=>by
  rcases(hf b hb).2.2.2.1 with z|z
  ·exact I.ok.noex b ob e z
  ·exact absurd (Qf (Qd e) (Qq I.ok.bsz z)) (Q2 _)
 exfs:=fun b hb hb'=>by
  rcases QE.mp (I.stkSub b hb') with z|z
  ·exact(hf b hb).2.1 z
  ·exact(hf b hb).2.2.1 z
 funs:=I.stack
 frf:=I.stkFree
theorem ZgH(S:Z0 N N' o c)(hN:X.N=N)(ho:X.env.scope=o){pins:List (Addr×Obj)}{σ:St}{H:Hp}{s:Shared}{fp:List Addr}{h₁:Heap}{tk:Nat}{m₀:Str→Option Value}(I:Inv X pins σ H s)
  (hf:∀b∈fp,Zc7 X pins H b) (ht:∀b∈fp,b<s.heap.objs.size) (hns:h₁.Ns s.heap.objs.size m₀) (hk:∀b ob,s.heap.get? b=some ob→h₁.get? b=some ob) :
  Inv (Z2 X c N' s.heap.objs.size s H fp) [] (σ++List.replicate (N'.length-N.length) none) H { s with heap:=h₁,toks:=tk } where
 ok:=Zir S ho I hf ht
 os:=rfl
 bare:=I.bare
 base:=Un.kept hk
 loc:=by
  refine⟨m₀,hns,fun i x v e1 e2 e3=>?_⟩
  obtain⟨m,hn,hl⟩:=I.loc
  have hlen:σ.length=N.length:=by rw[I.len,hN]
  have hi:i<σ.length:=by
   by_cases hi:i<σ.length
   ·exact hi
   ·rw[QP (by omega),List.getElem?_replicate]at e2
    split at e2<;>cases e2
  have e2':σ[i]? = some (some v):=by rw[QS hi]at e2;exact e2
  have kd:=Za6 (X:=X) S ho (Z4 X.env.cells c.names []) s.heap.objs.size x
  have vis:c.names.lookup x=some .local∨c.names.lookup x=some .free:=by
   have e3':(compEnvC c (Z4 X.env.cells c.names []) s.heap.objs.size X.env).kindOf x=some .local∨(compEnvC c (Z4 X.env.cells c.names []) s.heap.objs.size X.env).kindOf x=some .cell∨(compEnvC c (Z4 X.env.cells c.names []) s.heap.objs.size X.env).kindOf x=some .free:=e3
   rw[kd]at e3'
   cases q:c.names.lookup x with
   | none=>rw[q]at e3';rcases e3' with z|z|z<;>cases z
   | some k =>
    cases k with
    | «local»=>exact .inl rfl
    | free=>exact .inr rfl
    | cell=>exact absurd rfl (S.nocell _ (Zbj q))
    | _=>rw[q]at e3';rcases e3' with z|z|z<;>cases z
  obtain⟨hfr,hNi⟩:=S.same i (List.mem_range.mpr (by omega)) x (by rw[show N'[i]? = some x from e1];rfl) vis
  have hok:X.env.kindOf x=some .cell∨X.env.kindOf x=some .free:=by
   show X.env.scope.names.lookup x=_∨X.env.scope.names.lookup x=_
   rw[ho];exact(S.free _ (Zbj hfr) rfl).2
  obtain⟨u,r,l⟩:=hl i x v (by rw[hN];exact hNi) e2' (.inr hok)
  refine⟨u,r,.inr ⟨?_,?_⟩⟩
  ·show (compEnvC c (Z4 X.env.cells c.names []) s.heap.objs.size X.env).kindOf x=some .cell∨(compEnvC c (Z4 X.env.cells c.names []) s.heap.objs.size X.env).kindOf x=some .free
   rw[kd,hfr]
   show (if X.env.kindOf x=some .cell then some NameKind.cell else some NameKind.free)=some .cell∨(if X.env.kindOf x=some .cell then some NameKind.cell else some NameKind.free)=some .free
   by_cases q:X.env.kindOf x=some .cell
   ·rw[if_pos q];exact .inl rfl
   ·rw[if_neg q];exact .inr rfl
  ·obtain⟨a,ha,ha'⟩:=ZeN S ho I.ok hfr
   refine⟨a,ha,?_⟩
   rcases l with⟨z,_⟩|⟨_,a',e,ob,hob,hd⟩
   ·rcases hok with q|q<;>rw[q]at z<;>cases z
   ·rw[ha']at e;cases e
    exact⟨ob,hk _ _ hob,hd⟩
 cell:=fun x a h=>by
  obtain⟨v,ob,e,d⟩:=I.cell x a (ZaM S ho I.ok h).1
  exact⟨v,ob,hk _ _ e,d⟩
 free:=I.hok.fresh (Qe _)
 freeC:=fun x a h=>I.freeC x a (ZaM S ho I.ok h).1
 pin:=fun p hp=>absurd (show p∈([]:List (Addr×Obj)) from hp) (by simp)
 hok:=I.hok.kept hk
 len:=by
  have hlen:σ.length=N.length:=by rw[I.len,hN]
  have:=S.len
  show (σ++List.replicate (N'.length-N.length) none).length=N'.length
  rw[Qm,List.length_replicate]
  omega
end
abbrev ZfH(ifs:List Expr)(env:Env):Sem Bool :=
 forIn ifs true fun k r=>if r=true then do let ok ← isTrue k env (eval k env);pure (ForInStep.yield ok) else pure (ForInStep.yield r)
def PTs(X:Cx)(ifs:List Expr)(t:TT):Prop :=
 ∀ (pins:List (Addr×Obj)) (s:Shared) (σ:St) (H:Hp) (Q:Bool→Hp→Prop),Inv X pins σ H s→t σ H Q→wpAny (model X.prog X.w) X.A (ZfH ifs X.env) (TP X pins σ Q) X.xe s
def ZhQ:TT:=fun _ H Q=>Q true H
theorem Zcb{X:Cx}:PTs X [] ZhQ:=fun _ _ _ H _ I h=>wpAny_tests_nil ⟨H,I,h⟩
theorem Zie{X:Cx}{e:Expr}{t:TT}(h:PT X e t):PTs X [e] t:=fun pins s σ H Q I q=>wpAny_tests_one (h pins s σ H Q I q)
section
variable {prog:Program} {w:World} {A:Around} {R:Result→Shared→Prop} {s:Shared}
theorem Zeb{elt target iter:Expr}{ifs:List Expr}{scope:Scope}{pos:Pos}{it acc:Value}{env:Env}{E:Value→Shared→Prop}(I:Nat→Shared→Prop)
  (hE:∀e s',E e s'→False)
  (turn:∀n s,I n s→wpAny (model prog w) A (pyNext it) (fun r s₁=>match r with
   | none=>R (.ok .next) s₁
   | some v=>wpAny (model prog w) A (letOwnedTupleGo target it v) (fun _ s₀=>wpAny (model prog w) A (assign target env v) (fun _ s₂ =>
     wpAny (model prog w) A (ZfH ifs env) (fun ok s₃ =>
      if ok=true then wpAny (model prog w) A (eval elt env) (fun x s₄ =>
       wpAny (model prog w) A (call (.builtin "list.append") [acc,x]) (fun _ s₅=>∃m,m<n∧I m s₅) E s₄) E s₃
      else ∃m,m<n∧I m s₃) E s₂) E s₀) E s₁) E s)
  (n:Nat) (h:I n s):codeAny (model prog w) A (.compLoop (.ListComp elt [⟨target,iter,ifs,0⟩] scope pos) 0 it acc env) R s:=by
 have go:∀ {α:Type} {t:Sem α} {Q:α→Shared→Prop} {s:Shared},wpAny (model prog w) A t Q E s→wpAny (model prog w) A t Q (notedBy (model prog w) A env fun e s'=>R (.error e) s') s :=
  fun {α t Q s} q=>wpAny_mono q (fun _ _ z=>z) fun e s' z=>(hE e s' z).elim
 refine codeAny_loop rfl I (fun n s hI=>?_) n h
 show wpAny _ A ((compTurn (.ListComp elt [⟨target,iter,ifs,0⟩] scope pos) 0 it acc env).onRaise (fun x=>do noteFrame x env;theTreesLotGoes x)) _ _ s
 refine wpAny_noted ?_
 rw[compTurn_list]
 refine wpAny_bind (wpAny_standAt (wpAny_bind (thn (go (turn n s hI)) fun r s₁ h₁=>?_)))
 cases r with
 | none=>exact wpAny_pure h₁
 | some v =>
  refine wpAny_bind (thn (go h₁) fun _ s₀ h₀=>wpAny_bind (thn (go h₀) fun _ s₂ h₂=>wpAny_bind (thn (go h₂) fun ok s₃ h₃=>?_)))
  cases ok with
  | false=>exact wpAny_pure ⟨rfl,h₃⟩
  | true =>
   exact wpAny_bind (wpAny_bind (thn (go h₃) fun x s₄ h₄=>wpAny_bind (thn (go h₄) fun _ s₅ h₅=>wpAny_pure (wpAny_pure ⟨rfl,h₅⟩))))
end
def Zd7(J:It)(D:Addr)(k:Nat)(σ:St)(H1:Hp)(g:TG)(tc:TT)(te:TE)(Q:VK):Prop :=
 ∃W:Nat→Nat→List V→St→Hp→Prop,(∃m,W 0 m [] (σ++List.replicate k none) (upd H1 D (.lst []))) ∧
  ∀i m ys σ2 H2,W i m ys σ2 H2→(J.stop i H2∧Q (.ref D) H2) ∨
   (J.go i H2∧∃N:List V→St→Hp→Prop,(∀ys' σ' H',N ys' σ' H'→∃m',m'<m∧W (i+1) m' ys' σ' H')∧∀x H3,J.yld i H2 x H3→g x σ2 H3 fun σ4 H4=>tc σ4 H4 fun b H5 =>
    if b=true then te σ4 H5 fun y H6=>H6 D=some (.lst ys)∧ys.length<sizeLine∧N (ys++[y]) σ4 (upd H6 D (.lst (ys++[y]))) else N ys σ4 H5)
def Zg3(n:Nat)(wi:TI)(g:TG)(tc:TT)(te:TE):TE:=fun σ H Q=>wi σ H fun J H1=>∀D,H1 D=none→Zd7 J D n σ H1 g tc te Q
section
variable {X:Cx} {N N':List Str} {o c:Scope}
theorem ZeA{elt tg iter:Expr}{ifs:List Expr}{pos pos':Pos}{wi:TI}{g:TG}{tc:TT}{te:TE}{use:Option (Value→Sem Unit)}{QQ:Value→Shared→Prop}(S:Z0 N N' o c)(hN:X.N=N)(ho:X.env.scope=o)(hc:X.calm=true)
  (hi:PI X tg iter wi) (hg:∀C s H fp,PG (Z2 X c N' C s H fp) tg g) (ht:∀C s H fp,PTs (Z2 X c N' C s H fp) ifs tc) (he:∀C s H fp,PE (Z2 X c N' C s H fp) elt te)
  (hs:∀x,foldedSetIterable iter X.env x=pure x) {pins:List (Addr×Obj)} {s:Shared} {σ:St} {H:Hp} {Q:VK} (I:Inv X pins σ H s) (h:Zg3 (N'.length-N.length) wi g tc te σ H Q)
  (post:∀ (D C:Addr) (s5:Shared) (H5:Hp) (m:Str→Option Value),Inv X pins σ H5 s5→H5 C=none→s5.heap.Ns C m→C≠X.env.locals→X.s₀.heap.objs.size≤C→(∀x a,X.env.cells.lookup x=some a→a≠C)→(∀p∈X.pn++pins,p.1≠C) →
   Q (.ref D) H5→compPost (model X.prog X.w) X.A X.xe use QQ (.ref D) C (.ok .next) s5) :
  wpAny (model X.prog X.w) X.A (comprehension (.ListComp elt [⟨tg,iter,ifs,0⟩] c pos) c X.env pos' (newList []) false (eval iter X.env) use) QQ X.xe s:=by
 have hclos:closureFor c X.env=pure (Z4 X.env.cells c.names []):=Zdn fun y hy hf=>by
  refine I.ok.has y.1 ?_
  show X.env.scope.names.lookup y.1=_∨X.env.scope.names.lookup y.1=_
  rw[ho];exact(S.free y hy hf).2
 refine wpAny_comprehension_free (use:=use) rfl hs hclos S.kind S.loc (thn (hi pins s σ H _ I h) fun v s1 h1=>thn h1 fun itv s2 h2=>?_)
 obtain⟨it,fp,tn,J,H2,e,I2,T,st2,f2,hR⟩:=h2
 subst e
 have hD:H2 s2.heap.objs.size=none:=I2.fresh
 have I3:Inv X pins σ (upd H2 s2.heap.objs.size (.lst [])) { s2 with heap:=s2.heap.push { cls:=.type "list",data:=.seq ([]:List Value).toArray } } :=
  I2.lnew (ys:=[]) (its:=[]) (t':=s2.toks) .nil (Qu _)
 have fpl:∀b∈fp,b<s2.heap.objs.size:=fun b hb=>by
  obtain⟨ob,e,_⟩:=T.obj 0 _ st2 b hb
  exact Qd e
 refine wpAny_newObj_type (wpAny_newFunctionEnv S.nocell (by intro y hy;simp at hy) (fun h₁ hns₁ hsb₁=>?_) S.kind)
 have e3:∃s3:Shared,s3={ s2 with heap:=s2.heap.push { cls:=.type "list",data:=.seq ([]:List Value).toArray } }:=⟨_,rfl⟩
 obtain⟨s3,hs3⟩:=e3
 have e3:s3.heap=s2.heap.push { cls:=.type "list",data:=.seq ([]:List Value).toArray }:=by rw[hs3]
 have sz3:s3.heap.objs.size=s2.heap.objs.size+1:=by rw[e3,Qae]
 have fpl3:∀b∈fp,b<s3.heap.objs.size:=fun b hb=>Qf (fpl b hb) (by rw[sz3];exact QZ _)
 have f3:∀b∈fp,Zc7 X pins (upd H2 s2.heap.objs.size (.lst [])) b:=fun b hb=>⟨by rw[Zc (Qp (fpl b hb))];exact(f2 b hb).1,(f2 b hb).2⟩
 have st3:tn 0 s3.heap:=T.keep 0 _ _ st2 fun b _ ob e=>by rw[e3];exact Qc _ e
 rw[← hs3]at I3
 show codeAny (model X.prog X.w) X.A (.compStart _ 0 (.ref it) (.ref s2.heap.objs.size) (compEnvC c (Z4 X.env.cells c.names []) (s2.heap.push { cls:=.type "list",data:=.seq ([]:List Value).toArray }).objs.size X.env))
  (compPost (model X.prog X.w) X.A X.xe use QQ (.ref s2.heap.objs.size) (s2.heap.push { cls:=.type "list",data:=.seq ([]:List Value).toArray }).objs.size)
  { s2 with heap:=h₁,toks:=s2.toks+([]:List (Str×Value)).length }
 have hns:h₁.Ns s3.heap.objs.size (fun x=>([]:List (Str×Value)).reverse.lookup x):=by rw[e3];exact hns₁
 have hk1:∀b ob,s3.heap.get? b=some ob→h₁.get? b=some ob:=fun b ob e=>by
  rw[e3]at e
  exact hsb₁.extBut b ob (Qp (Qd e)) (Qc _ e)
 rw[← e3]
 have es4:({ s2 with heap:=h₁,toks:=s2.toks+([]:List (Str×Value)).length }:Shared)={ s3 with heap:=h₁,toks:=s2.toks }:=by rw[hs3];rfl
 rw[es4]
 obtain⟨W,⟨m0,w0⟩,turn⟩:=hR s2.heap.objs.size hD
 have I4:=ZgH (tk:=s2.toks) S hN ho I3 f3 fpl3 hns hk1
 have st4:tn 0 h₁:=T.keep 0 _ _ st3 fun b _ ob e=>hk1 b ob e
 generalize hX:Z2 X c N' s3.heap.objs.size s3 (upd H2 s2.heap.objs.size (.lst [])) fp=Y at I4
 have Yp:Y.prog=X.prog:=by rw[← hX];rfl
 have Yw:Y.w=X.w:=by rw[← hX];rfl
 have YK:Y.K=X.K:=by rw[← hX];rfl
 have Yc:Y.calm=true:=by rw[← hX];exact hc
 have YA:Y.A=X.A:=by rw[← hX];rfl
 have Yenv:Y.env=compEnvC c (Z4 X.env.cells c.names []) s3.heap.objs.size X.env:=by rw[← hX];rfl
 have Yl:Y.env.locals=s3.heap.objs.size:=by rw[Yenv];rfl
 have Yxe:Y.xe=fun _ _=>False:=by rw[← hX];rfl
 have hg':=hg s3.heap.objs.size s3 (upd H2 s2.heap.objs.size (.lst [])) fp
 have ht':=ht s3.heap.objs.size s3 (upd H2 s2.heap.objs.size (.lst [])) fp
 have he':=he s3.heap.objs.size s3 (upd H2 s2.heap.objs.size (.lst [])) fp
 rw[hX]at hg' ht' he'
 have stat:∀ {H':Hp},(∀b∈fp,H' b=none)→∀b∈fp,Zc7 Y [] H' b:=fun {H'} hn b hb=>by
  obtain⟨_,q1,q2,q3,q4,_⟩:=f3 b hb
  have z1:=I4.ok.exf b (by rw[← hX];exact hb)
  refine⟨hn b hb,z1.1,I4.ok.exfs b (by rw[← hX];exact hb),.inl (by rw[← hX];exact hb),z1.2,fun p hp=>?_⟩
  have hp':p∈([]:List (Addr×Obj)):=by
   have:Y.pn=[]:=by rw[← hX];rfl
   rw[this]at hp;exact hp
  cases hp'
 have fin:∀ (s5:Shared) (σ5:St) (H5:Hp),Inv Y [] σ5 H5 s5→Q (.ref s2.heap.objs.size) H5→compPost (model X.prog X.w) X.A X.xe use QQ (.ref s2.heap.objs.size) s3.heap.objs.size (.ok .next) s5:=fun s5 σ5 H5 I5 q=>by
  obtain⟨m,hn,_⟩:=id I5.loc
  rw[Yl]at hn
  have hCn:H5 s3.heap.objs.size=none:=by have:=I5.free;rw[Yl]at this;exact this
  have un:Un (frs X.stack) fp (upd H2 s2.heap.objs.size (.lst [])) H5 s3.heap s5.heap:=by
   have:=I5.base
   rw[← hX]at this
   exact this
  have os5:s5.os=s3.os:=by have:=I5.os;rw[← hX]at this;exact this
  have hok5:HOk X.prog X.w H5 s5.heap:=by
   have:=I5.hok
   rw[Yp,Yw]at this
   exact this
  refine post _ _ s5 H5 m (I3.call' (s':=s5) (ch:=fp) os5 un hok5 I5.bare fun b hb=>?_) hCn hn (Qad I3.lt) I3.sz (fun x a e=>?_) (fun p hp=>?_) q
  ·obtain⟨_,q1,_,q3,q4,q5⟩:=f3 b hb
   exact⟨q3,q1,q4,q5⟩
  ·obtain⟨v,ob,e',_⟩:=I3.cell x a e
   exact Qp (Qd e')
  ·exact Qp (Qd (I3.pin p hp).1)
 have loop:codeAny (model X.prog X.w) X.A (.compLoop (.ListComp elt [⟨tg,iter,ifs,0⟩] c pos) 0 (.ref it) (.ref s2.heap.objs.size) (compEnvC c (Z4 X.env.cells c.names []) s3.heap.objs.size X.env))
   (compPost (model X.prog X.w) X.A X.xe use QQ (.ref s2.heap.objs.size) s3.heap.objs.size) { s3 with heap:=h₁,toks:=s2.toks }:=by
  rw[← Yenv,← YA]
  refine Zeb (E:=fun _ _=>False) (fun n s'=>∃i ys σ' H',Inv Y [] σ' H' s'∧tn i s'.heap∧(∀b∈fp,H' b=none)∧W i n ys σ' H') (fun _ _ z=>z) ?_ m0
   ⟨0,[],_,_,I4,st4,fun b hb=>(f3 b hb).1,?_⟩
  ·rintro n s5 ⟨i,ys,σ5,H5,I5,st5,fr5,w5⟩
   rcases turn i n ys σ5 H5 w5 with⟨stop,qn⟩|⟨go,Nn,hNn,step⟩
   ·refine thn (T.done Y Yp Yw YK Yc i [] s5 σ5 H5 _ I5 (stat fr5) st5 stop) ?_
    rintro r s6 ⟨hr,I6⟩
    subst hr
    have fq:=fin s6 σ5 H5 I6 qn
    rw[← YA]at fq
    exact fq
   ·refine thn (T.item Y Yp Yw YK Yc i [] s5 σ5 H5 _ I5 (stat fr5) st5 go) ?_
    rintro r s6 ⟨u,hr,h6⟩
    subst hr
    refine thn h6 ?_
    rintro _ s7 ⟨x,H7,I7,r7,y7,st7,fr7⟩
    have I7':=I7.pinned (stat fr7) (T.obj _ _ st7)
    have back:∀ {σ9:St} {H9:Hp} {s9:Shared},Inv Y ([]++ZcR fp s7.heap) σ9 H9 s9→Inv Y [] σ9 H9 s9∧tn (i+1) s9.heap∧∀b∈fp,H9 b=none:=fun {σ9 H9 s9} I9=>by
     refine⟨I9.unpinned,T.keep _ _ _ st7 fun b hb ob e=>(I9.pin (b,ob) (Qn _ (Qn _ (Zbd hb e)))).1,fun b hb=>?_⟩
     obtain⟨ob,e,d⟩:=T.obj _ _ st7 b hb
     exact(I9.pin (b,ob) (Qn _ (Qn _ (Zbd hb e)))).2.1
    have P1:=hg' _ s7 σ5 H7 x u _ I7' r7 (step x H7 y7)
    rw[Yp,Yw,Yxe]at P1
    refine thn P1 ?_
    rintro _ s8 ⟨σ8,H8,I8,q8⟩
    have P2:=ht' _ s8 σ8 H8 _ I8 q8
    rw[Yp,Yw,Yxe]at P2
    refine thn P2 ?_
    rintro ok s9 ⟨H9,I9,q9⟩
    cases ok with
    | false =>
     rw[if_neg Qi]at q9
     rw[if_neg Qi]
     obtain⟨b1,b2,b3⟩:=back I9
     obtain⟨m',hm',w9⟩:=hNn _ _ _ q9
     exact⟨m',hm',i+1,ys,σ8,H9,b1,b2,b3,w9⟩
    | true =>
     rw[if_pos rfl]at q9
     rw[if_pos rfl]
     have P3:=he' _ s9 σ8 H9 _ I9 q9
     rw[Yp,Yw,Yxe]at P3
     refine thn P3 ?_
     rintro y s10 ⟨vy,H10,I10,r10,hDl,hsz,q10⟩
     have P4:=ZbE (X:=Y) _ s10 σ8 H10 (.ref s2.heap.objs.size) [vy] (.ref s2.heap.objs.size) [y] (fun _ H'=>Nn (ys++[vy]) σ8 H') I10 rfl (.cons r10 .nil) ⟨_,ys,vy,rfl,rfl,hDl,hsz,q10⟩
     rw[Yp,Yw,Yxe]at P4
     refine thn P4 ?_
     rintro _ s11 ⟨_,H11,I11,_,q11⟩
     obtain⟨b1,b2,b3⟩:=back I11
     obtain⟨m',hm',w11⟩:=hNn _ _ _ q11
     exact⟨m',hm',i+1,ys++[vy],σ8,H11,b1,b2,b3,w11⟩
  ·exact w0
 have lp:=T.self X.A 0 { s3 with heap:=h₁,toks:=s2.toks } (fun it' s'=>codeAny (model X.prog X.w) X.A (.compLoop (.ListComp elt [⟨tg,iter,ifs,0⟩] c pos) 0 it' (.ref s2.heap.objs.size) (compEnvC c (Z4 X.env.cells c.names []) s3.heap.objs.size X.env))
   (compPost (model X.prog X.w) X.A X.xe use QQ (.ref s2.heap.objs.size) s3.heap.objs.size) s') (fun _ _=>False) st4 loop
 exact codeAny_compStart_list loop (wpAny_mono lp (fun _ _ z=>z) fun _ _ z=>z.elim)
theorem Inv.let{pins:List (Addr×Obj)}{σ:St}{H:Hp}{s:Shared}{C:Addr}{h':Heap}(I:Inv X pins σ H s)(hn:H C=none)(hL:C≠X.env.locals)(h1:X.s₀.heap.objs.size≤C)
  (h2:∀x a,X.env.cells.lookup x=some a→a≠C) (h3:∀p∈X.pn++pins,p.1≠C) (hs:Heap.SameBut C s.heap h'):Inv X pins σ H { s with heap:=h' } :=
 I.turned (t':=s.toks) (fun b ob hb e=>hs.extBut b ob hb e) hn hL (.inr h1) h2 h3
theorem ZcB{elt tg iter:Expr}{ifs:List Expr}{pos:Pos}{wi:TI}{g:TG}{tc:TT}{te:TE}(S:Z0 N N' o c)(hN:X.N=N)(ho:X.env.scope=o)(hc:X.calm=true)
  (hi:PI X tg iter wi) (hg:∀C s H fp,PG (Z2 X c N' C s H fp) tg g) (ht:∀C s H fp,PTs (Z2 X c N' C s H fp) ifs tc) (he:∀C s H fp,PE (Z2 X c N' C s H fp) elt te)
  (hs:∀x,foldedSetIterable iter X.env x=pure x:=by intro _;rfl) :
  PE X (.ListComp elt [⟨tg,iter,ifs,0⟩] c pos) (Zg3 (N'.length-N.length) wi g tc te):=by
 intro pins s σ H Q I h
 rw[eval_ListComp]
 refine ZeA (use:=none) S hN ho hc hi hg ht he hs I h fun D C s5 H5 m I5 hCn hn n1 n2 n3 n4 q=>⟨m,hn,fun h' hsb=>?_⟩
 exact⟨.ref D,H5,I5.let hCn n1 n2 n3 n4 hsb,rfl,q⟩
theorem ZcO{i:Nat}{x:Str}{elt tg iter:Expr}{ifs:List Expr}{pos pos' spos:Pos}{wi:TI}{g:TG}{tc:TT}{te:TE}(hnd:X.N.Nodup)(hx:X.N[i]? = some x)(hl:Loc X.env.scope x)(S:Z0 N N' o c)(hN:X.N=N)(ho:X.env.scope=o)(hc:X.calm=true)
  (hi:PI X tg iter wi) (hg:∀C s H fp,PG (Z2 X c N' C s H fp) tg g) (ht:∀C s H fp,PTs (Z2 X c N' C s H fp) ifs tc) (he:∀C s H fp,PE (Z2 X c N' C s H fp) elt te)
  (hsw:swapsWith (.ListComp elt [⟨tg,iter,ifs,0⟩] c pos) (some (.Name x pos')) spos.line X.env=pure true)
  (hs:∀x,foldedSetIterable iter X.env x=pure x:=by intro _;rfl) (hf:X.fn x=true∨X.env.scope.names.lookup x=some .local:=by first|exact .inl rfl|exact .inr rfl|assumption) :
  PS X (.Assign [.Name x pos'] (.ListComp elt [⟨tg,iter,ifs,0⟩] c pos) spos) (ZjJ (Zg3 (N'.length-N.length) wi g tc te) (Zfy i)):=by
 intro pins s σ H D I h
 rw[exec_Assign_Name_used _ _ _ _ hsw]
 refine wpAny_bind (wpAny_standAt (wpAny_bind ?_))
 show wpAny _ X.A (do let _ ← comprehension (.ListComp elt [⟨tg,iter,ifs,0⟩] c pos) c X.env _ (newList []) false (eval iter X.env) (some (assign (.Name x pos') X.env))) _ _ s
 refine wpAny_bind (thn (ZeA (QQ:=fun _ s'=>SP X pins D .next s') (use:=some (assign (.Name x pos') X.env)) S hN ho hc hi hg ht he hs I h ?_) fun _ s' hq=>wpAny_pure (wpAny_pure hq))
 intro L C s5 H5 m I5 hCn hn n1 n2 n3 n4 q
 show wpAny _ X.A (assign (.Name x pos') X.env (.ref L)) _ _ _
 refine wpAny_assign_Name (Zdz (v:=.ref L) I5 hnd hx hl rfl (?_) hf)
 rintro s6 I6 ⟨a,hsb,ha⟩
 have nCa:C≠a:=by
  rcases ha with z|z
  ·rw[z];exact n1
  ·exact(n3 x a z).symm
 exact⟨m,hn.sameBut hsb nCa,fun h' hsb'=>⟨_,H5,I6.let hCn n1 n2 n3 n4 hsb',q⟩⟩
end
theorem ZcN{ys:List Str}:∀ {us:List Value},Zv (ys.map V.str) us→StrsAre us ys:=by
 induction ys with
 | nil=>intro us r;rw[List.map_nil]at r;cases r;exact .nil
 | cons y ys ih =>
  intro us r
  rw[Qx]at r
  cases r with
  | cons r1 r2 =>
   obtain⟨t,e⟩:=r1
   subst e
   exact .cons _ _ (ih r2)
theorem ZdH:∀ {vs:List Value} {ys:List Str},StrsAre vs ys→Zv (ys.map V.str) vs
 | _,_,.nil=>.nil
 | _,_,.cons _ t h=>.cons ⟨t,rfl⟩ (ZdH h)
section
variable {X:Cx}
theorem Zd3:Zau X (.builtin "sorted") (fun xs H Q=>∃ (p:Addr) (ss:List Str),xs=[.ref p]∧SqL X.K H p (ss.map V.str)∧ss.length<64 ∧
  ∀ (l:Addr) (ss':List Str),H l=none→ss'.Perm ss→sortedS ss'=true→Q (.ref l) (upd H l (.lst (ss'.map V.str)))):=by
 intro pins s σ H xs us Q I r h
 obtain⟨p,ss,rfl,hq,h64,q⟩:=h
 obtain⟨u,rfl,rx⟩:=ZbO r
 cases rx
 obtain⟨its,rv,pl,hz⟩:=I.list hq
 have hlen:=rv.length
 rw[Qb]at hlen hz
 refine sorted_strs pl.isList (ZcN rv) (by omega) fun out ss' a1 a2 a3=>?_
 obtain⟨e,he⟩:=sortedAll_at s.heap its out
 have hp:=a2.length_eq
 refine⟨.ref (s.heap.objs.size+1),_,I.laid (t':=s.toks) (o:=.lst (ss'.map V.str)) (fun _ _=>sortedAll_old) (QZ _) ⟨by rw[Qb];omega,out.toList,e,ZdH a1,by simpa using he⟩,rfl,q _ ss' (I.hok.fresh (QZ _)) a2 a3⟩
theorem Zic:MtR X "str.join" (fun x vs H Q=>∃ (sep:Str) (p:Addr) (ys:List Str),x=.str sep∧vs=[.ref p]∧SqL X.K H p (ys.map V.str)∧(ys.map (·.length)).sum+ys.length*sep.length≤16777216∧Q (.str (Txt.join sep ys)) H):=by
 intro pins s σ H x vs v us Q I rx rv h
 obtain⟨sep,p,ys,rfl,rfl,hq,hz,q⟩:=h
 obtain⟨t,rfl⟩:=rx
 obtain⟨u,rfl,ru⟩:=rv.one
 cases ru
 obtain⟨its,r',pl,_⟩:=I.list hq
 exact join_list pl.isList (ZcN r') hz fun t' k=>⟨.str _,H,I.tok _,⟨_,rfl⟩,q⟩
theorem ZiG:OpR X (binaryOp .Mult) (fun x y H Q=>∃a n,x=.str a∧y=.int n∧0≤n∧n≤1000000∧(a.length:Int)*n≤1000000∧Q (.str (Txt.mul a n)) H):=by
 intro pins s σ H x y v u Q I rx ry h
 obtain⟨a,n,rfl,rfl,h0,h1,h2,q⟩:=h
 obtain⟨t,rfl⟩:=rx
 obtain⟨t',rfl⟩:=ry
 have h2':a.length*n.toNat≤1000000:=by
  have e:((a.length*n.toNat:Nat):Int)=(a.length:Int)*n:=by rw[Int.natCast_mul,Int.toNat_of_nonneg h0]
  omega
 refine PySem.P.mul_str ?_ (fun c1 c2=>?_) (fun c1 c2=>?_) ?_
 ·have e1:decide (n < -(2 ^ 63:Int))=false:=decide_eq_false (by omega)
  have e2:decide (n≥2 ^ 63)=false:=decide_eq_false (by omega)
  rw[e1,e2];rfl
 ·have hn:(1:Int)≤n:=by omega
  have q1:(a.length:Int)*1≤(a.length:Int)*n:=Int.mul_le_mul_of_nonneg_left hn (Int.natCast_nonneg _)
  have q2:(1000000:Int)≤(2 ^ 63-1) / n:=by
   rw[Int.le_ediv_iff_mul_le (by omega)]
   have:(1000000:Int)*n≤1000000*1000000:=Int.mul_le_mul_of_nonneg_left h1 (by decide)
   omega
  omega
 ·unfold Builtin.Str.tooLong
  have hl:sizeLine=16777216:=sizeLine_eq
  exact decide_eq_false (by omega)
 ·have e:Txt.mul a n=if n<1 then Str.empty else if (n == 1||a.length == 0)=true then a else ⟨(List.replicate n.toNat a.cps).foldl (·++·) #[]⟩:=rfl
  rw[e]at q
  by_cases c1:n<1
  ·rw[if_pos c1]at q ⊢
   exact⟨by decide,.str _,H,I.tok _,⟨_,rfl⟩,q⟩
  ·rw[if_neg c1]at q ⊢
   by_cases c2:(n == 1||a.length == 0)=true
   ·rw[if_pos c2]at q ⊢
    exact⟨.str _,H,I,⟨_,rfl⟩,q⟩
   ·rw[if_neg c2]at q ⊢
    refine⟨?_,.str _,H,I.tok _,⟨_,rfl⟩,q⟩
    have hfold:∀ (k:Nat) (acc:Array Nat),((List.replicate k a.cps).foldl (·++·) acc).size=acc.size+k*a.cps.size:=by
     intro k
     induction k with
     | zero=>intro acc;simp
     | succ k ih=>intro acc;rw[List.replicate_succ,List.foldl_cons,ih,Array.size_append,Nat.succ_mul];omega
    show ((List.replicate n.toNat a.cps).foldl (·++·) #[]).size≤sizeLine
    rw[hfold]
    have e2:a.cps.size=a.length:=rfl
    have:n.toNat*a.cps.size≤1000000:=by rw[e2,Nat.mul_comm];exact h2'
    have hl:sizeLine=16777216:=sizeLine_eq
    simp only[List.size_toArray,List.length_nil]
    omega
end
inductive Src where
 | l (a:Addr)|t (a:Addr)|s (z:Str)
def Src.val:Src→V
 | .l a=>.ref a
 | .t a=>.ref a
 | .s z=>.str z
def Zio(c:Nat):V:=.str ⟨#[c]⟩
def Src.its(K:PySem.W.Frag)(H:Hp):Src→List V→Prop
 | .l a,xs=>SqL K H a xs
 | .t a,xs=>SqT K H a xs
 | .s z,xs=>xs=z.cps.toList.map Zio
def Src.at(h:Heap)(i:Addr):Src→Nat→Prop
 | .l a,k=>h.IsListIter i a k
 | .t a,k=>h.IsTupleIter i a k
 | .s z,k=>∃tk,h.IsStrIter i (strIterType z) z tk k
def Src.off:Src→Addr→Prop
 | .l a,b=>a≠b
 | .t a,b=>a≠b
 | .s _,_=>True
section
variable {prog:Program} {w:World} {A:Around} {E:Value→Shared→Prop} {s:Shared}
end
def Src.iter(tk:Tok):Src→Obj
 | .l a=>{ cls:=.type "list_iterator",data:=.fields #[.ref a,.int 0 0] }
 | .t a=>{ cls:=.type "tuple_iterator",data:=.fields #[.ref a,.int 0 0] }
 | .s z=>{ cls:=.type (strIterType z),data:=.fields #[.str z tk,.int 0 0] }
def Src.value(tk:Tok):Src→Value
 | .l a=>.ref a
 | .t a=>.ref a
 | .s z=>.str z tk
section
variable {prog:Program} {w:World} {A:Around} {E:Value→Shared→Prop} {s:Shared}
end
section
variable {X:Cx} {pins:List (Addr×Obj)} {σ:St} {H:Hp} {s:Shared}
theorem Inv.zipped{fp:List Addr}{h':Heap}{tk:Nat}{x y:V}{u v:Value}(I:Inv X pins σ H s)(hf:∀b∈fp,Zc7 X pins H b)(rx:ZA x u)(ry:ZA y v)
  (hp:IsPair h' s.heap.objs.size u v) (hfh:∀b∈fp,∃o,h'.get? b=some o) (hk:∀c o,c ∉ fp→s.heap.get? c=some o→h'.get? c=some o) :
  Inv X pins σ (upd H s.heap.objs.size (.tup [x,y])) { s with heap:=h',toks:=tk }:=by
 have hn:H s.heap.objs.size=none:=I.fresh
 have ne:∀b ob,s.heap.get? b=some ob→b≠s.heap.objs.size:=fun b ob e=>Qp (Qd e)
 have nt:∀b u,H b=some u→b≠s.heap.objs.size:=fun b u e=>Zb e hn
 have nfp:∀b u,H b=some u→b ∉ fp:=fun b u e hb=>by rw[(hf b hb).1]at e;cases e
 refine I.step (g':=s.gens) (d':=s.drawn) (ch:=fp) (fun b hb=>⟨(hf b hb).2.2.2.1,(hf b hb).2.1,(hf b hb).2.2.2.2.1,(hf b hb).2.2.2.2.2⟩)
  (fun b ob _ _ hc e _=>hk b ob hc e) (fun b ob _ _ hc e _=>⟨ob.slots,hk b ob hc e⟩) (fun b ob _ e n=>by rw[Zc (ne b ob e)];exact n) (fun b ob hc e=>⟨ob,hk b ob hc e⟩)
  (fun b xs e=>by rw[Zc (nt b _ e)];exact e) (fun b ob u e=>by rw[Zc (nt b _ e)];exact e) (fun b ps e=>⟨#[],by rw[Zc (nt b _ e),e];simp⟩) (fun m hm=>?_) (fun b ub e=>?_) I.bare
 ·obtain⟨ob,es,ep,ho,r⟩:=hm
  exact⟨ob,es,ep,hk _ ob (fun z=>(hf _ z).2.1 rfl) ho,r⟩
 ·by_cases hb:b=s.heap.objs.size
  ·subst hb
   rw[Ze]at e;cases e
   exact⟨by show 2≤sizeLine;decide,[u,v],.cons rx (.cons ry .nil),⟨_,hp,rfl,_,rfl⟩⟩
  ·rw[Zc hb]at e
   refine(I.hok b ub e).stay (fun c w' hc q=>hk c w' ?_ q) (fun c q=>by rw[Zc (nt c _ q)];exact q) fun c xs q=>by rw[Zc (nt c _ q)];exact q
   rcases hc with z|z
   ·rw[z];exact nfp b ub e
   ·exact nfp c _ z
end
section
variable {X:Cx} (K:PySem.W.Frag)
theorem ixL(h:X.K=K:=by rfl):IxR X (Zj4 K):=by subst h;exact Zik
theorem slL(h:X.K=K:=by rfl):SlR X (ZjU K):=by subst h;exact Zh1
def ZkM:List V→Hp→VK→Prop:=fun xs H Q=>∃p ys,xs=[.ref p]∧(SqL K H p ys∨SqT K H p ys)∧Q (.int ys.length) H
theorem Zcs(h:X.K=K:=by rfl):Zau X (.builtin "len") (ZkM K):=by subst h;exact Zee
def ZkO:List V→Hp→VK→Prop:=fun xs H Q=>∃ (p:Addr) (ss:List Str),xs=[.ref p]∧SqL K H p (ss.map V.str)∧ss.length<64 ∧
  ∀ (l:Addr) (ss':List Str),H l=none→ss'.Perm ss→sortedS ss'=true→Q (.ref l) (upd H l (.lst (ss'.map V.str)))
theorem Zk3(h:X.K=K:=by rfl):Zau X (.builtin "sorted") (ZkO K):=by subst h;exact Zd3
def ZkE:V→List V→Hp→VK→Prop:=fun x vs H Q=>∃ (sep:Str) (p:Addr) (ys:List Str),x=.str sep∧vs=[.ref p]∧SqL K H p (ys.map V.str)∧(ys.map (·.length)).sum+ys.length*sep.length≤16777216∧Q (.str (Txt.join sep ys)) H
theorem Zj2(h:X.K=K:=by rfl):MtR X "str.join" (ZkE K):=by subst h;exact Zic
theorem iL{tg l:Expr}{tl:TE}(hl:PE X l tl)(h:X.K=K:=by rfl):PI X tg l (ZiR K tl):=by subst h;exact Zip hl
theorem gT{es:List Expr}{k:Nat}{t:TGs}{n:Nat}{pos:Pos}(h:PGs X es t)(hK:X.K=K:=by rfl)(hc:X.calm=true:=by rfl)
  (hn:(assignEach es X.env).length=n:=by rfl) (hst:(assignEach es X.env).findIdx? (·.1)=none:=by rfl):PG X (.Tuple es k pos) (Zj5 K n t):=by subst hK;exact ZjI hc h hn hst
end
structure Df (P:Program) (w:World) (K:PySem.W.Frag) (mg:Str→Option Value) (base:Heap) (k:Nat) (x:Str) (ps:List Str) (sp:Sp):Prop where
 ex:∃f fd,ZaA P w K mg base CX0 k f fd ps sp∧mg x=some (.ref f)∧PySem.W.keepIn K (.ref f)=true∧Z7 K fd ps []
section
variable {P:Program} {w:World} {K:PySem.W.Frag} {mg:Str→Option Value} {base:Heap}
structure Top (K:PySem.W.Frag) (mg:Str→Option Value) (x:Str) (st:Stmt) (ps:List Str):Prop where
 ex:∃f fd,Fun K x x st f fd∧mg x=some (.ref f)∧Z7 K fd ps []
theorem Top.df{x:Str}{st:Stmt}{N ps:List Str}{k:Nat}{sp:Sp}(T:Top K mg x st ps)(S:Zo N ps (Zd st))(len:∀vs H Q E,sp vs H Q E→vs.length=ps.length)
  (hbody:∀ (cdv:Value) (f:Addr) (A:Around) (outer:List Env) (s:Shared) (H:Hp) (vs:List V) (Q:VK) (E:XK),ZM k (A.deeper (envOfC x (Zd st) s.heap.objs.size f cdv))→sp vs H Q E →
   ∃t,PSs (ZbJ CX0 P w K mg base N x (Zd st) f cdv A outer s H E).nox (Zm st) t∧t { nx:=fun _ H'=>Q .non H',rt:=Q } (ZaR N vs) H):Df P w K mg base (k+1) x ps sp:=by
 obtain⟨f,fd,F,m,b⟩:=T.ex
 exact⟨f,fd,F.ok S len (fun cdv A outer s H vs Q E hr h=>hbody cdv f A outer s H vs Q E hr h),m,F.kp,b⟩
end
section
variable {X:Cx} {k j:Nat} {x:Str} {ps:List Str} {sp:Sp} {e:Expr} {es:List Expr} {t:TA} {p pos:Pos}
theorem ZD(F:Df X.prog X.w X.K X.mg X.base k x ps sp)(hr:ZM j X.A)(ha:PA X (e::es) t)(hjk:k≤j:=by decide)(hg:Gl X x:=by rfl)(hdb:(x == ("__debug__" : Str))=false:=by decide)
  (he:starEach (e::es) X.env=(false,eval e X.env)::starEach es X.env:=by rfl) (hpl:(backTo pos (starEach es X.env)).any (·.1)=false:=by rfl) :
  PE X (.Call (.Name x p) (e::es) [] pos) (ZiP sp [] E0 t):=by
 obtain⟨f,fd,F,m,kp,b⟩:=F.ex
 exact Zh0 F (hr.mono hjk) hg m kp b .nil Zf0 ha hdb he hpl
theorem Zkl{T:String}(hm:X.mg x=none)(hv:bootBuiltins x=some (.type T))(hg:Gl X x:=by rfl)(hn:x ≠ "__name__":=by decide)(hd:(x == ("__debug__" : Str))=false:=by decide):PE X (.Name x pos) (tC (.ty T)) :=
 Zij hg hm hv rfl hn hd
end
theorem ZbP{lo:Int}{n k:Nat}{D:Addr}{σ:St}{H1:Hp}{g:TG}{te:TE}{Q:VK}(Pv:Nat→List V→St→Hp→Prop)(h0:Pv 0 [] (σ++List.replicate k none) (upd H1 D (.lst [])))
  (hs:∀i ys σ H,i<n→Pv i ys σ H→g (.int (lo+i)) σ H fun σ4 H4=>te σ4 H4 fun y H6=>H6 D=some (.lst ys)∧ys.length<sizeLine∧Pv (i+1) (ys++[y]) σ4 (upd H6 D (.lst (ys++[y]))))
  (hd:∀ys σ H,Pv n ys σ H→Q (.ref D) H):Zd7 (Itr lo n) D k σ H1 g ZhQ te Q:=by
 refine⟨fun i m ys σ H=>m=n-i∧i≤n∧Pv i ys σ H,⟨n,by simp,Qu _,h0⟩,?_⟩
 rintro i m ys σ H ⟨rfl,hi,p⟩
 by_cases hlt:i<n
 ·refine .inr ⟨hlt,Pv (i+1),fun ys' σ' H' p'=>⟨n-(i+1),by omega,rfl,hlt,p'⟩,fun x H' y=>?_⟩
  obtain⟨e,y⟩:=y
  subst e y
  simp only[ZhQ,↓reduceIte]
  exact hs i ys σ _ hlt p
 ·have e:i=n:=by omega
  subst e
  exact .inl ⟨Qe _,hd ys σ H p⟩
section
variable {X:Cx} {N N':List Str} {o c:Scope} {x:Str} {pos:Pos} {C:Addr} {s:Shared} {H:Hp} {fp:List Addr}
theorem ZbQ(S:Z0 N N' o c)(ho:X.env.scope=o)(hl:c.names.lookup x=some .local):(Z2 X c N' C s H fp).env.scope.names.lookup x=some .local:=by
 have e:=Za6 (X:=X) S ho (Z4 X.env.cells c.names []) C x
 rw[hl]at e
 exact e
theorem Za5(S:Z0 N N' o c)(ho:X.env.scope=o)(hl:c.names.lookup x=some .globalImplicit):Gl (Z2 X c N' C s H fp) x:=by
 have e:=Za6 (X:=X) S ho (Z4 X.env.cells c.names []) C x
 rw[hl]at e
 exact e
theorem ZgV(S:Z0 N N' o c)(ho:X.env.scope=o)(hl:c.names.lookup x=some .free):Vis (Z2 X c N' C s H fp).env.scope x:=by
 have e:=Za6 (X:=X) S ho (Z4 X.env.cells c.names []) C x
 rw[hl]at e
 have e':(Z2 X c N' C s H fp).env.scope.names.lookup x=if X.env.kindOf x=some .cell then some NameKind.cell else some NameKind.free:=e
 by_cases z:X.env.kindOf x=some .cell
 ·rw[if_pos z]at e';exact .inr (.inl e')
 ·rw[if_neg z]at e';exact .inr (.inr e')
theorem cv(i:Nat)(S:Z0 N N' o c)(ho:X.env.scope=o)(hl:c.names.lookup x=some .free)(hN:N'[i]? = some x:=by rfl)(hd:(x == ("__debug__" : Str))=false:=by decide)(hcd:(x == ("__classdict__" : Str))=false:=by decide) :
  PE (Z2 X c N' C s H fp) (.Name x pos) (ZiA i):=ZeR hN (ZgV S ho hl) hd hcd
theorem cw(i:Nat)(S:Z0 N N' o c)(ho:X.env.scope=o)(hl:c.names.lookup x=some .local)(hN:N'[i]? = some x:=by rfl)(hd:(x == ("__debug__" : Str))=false:=by decide)(hcd:(x == ("__classdict__" : Str))=false:=by decide) :
  PE (Z2 X c N' C s H fp) (.Name x pos) (ZiA i):=ZeR hN (.inl (ZbQ S ho hl)) hd hcd
theorem cg(i:Nat)(S:Z0 N N' o c)(ho:X.env.scope=o)(hl:c.names.lookup x=some .local)(hi:N'[i]? = some x:=by rfl):PG (Z2 X c N' C s H fp) (.Name x pos) (Zfy i) :=
 ZJ S.nd hi (.inl (ZbQ S ho hl)) (.inr (ZbQ S ho hl))
end
mutual
inductive DV (K:PySem.W.Frag) (H:Hp):V→PyData→Prop where
 | non:DV K H .non .none
 | bl (b:Bool):DV K H (.bl b) (.bool b)
 | int (i:Int):DV K H (.int i) (.int i)
 | str (s:Str):DV K H (.str s) (.str s)
 | lst {a:Addr} {xs:List V} {ds:List PyData}:SqL K H a xs→DVs K H xs ds→DV K H (.ref a) (.list ds)
 | tup {a:Addr} {xs:List V} {ds:List PyData}:SqT K H a xs→DVs K H xs ds→DV K H (.ref a) (.tuple ds)
inductive DVs (K:PySem.W.Frag) (H:Hp):List V→List PyData→Prop where
 | nil:DVs K H [] []
 | cons {x:V} {d:PyData} {xs:List V} {ds:List PyData}:DV K H x d→DVs K H xs ds→DVs K H (x::xs) (d::ds)
end
section
variable {X:Cx} {pins:List (Addr×Obj)} {σ:St} {H:Hp} {s:Shared}
mutual
theorem Inv.reads(I:Inv X pins σ H s):∀ {x:V} {d:PyData} {u:Value},DV X.K H x d→ZA x u→∃as,Reads s.heap u d as
 | _,_,_,.non,r=>by cases r;exact⟨_,.none⟩
 | _,_,_,.bl b,r=>by cases r;exact⟨_,.bool b⟩
 | _,_,_,.int i,r=>by obtain⟨t,rfl⟩:=r;exact⟨_,.int i t⟩
 | _,_,_,.str z,r=>by obtain⟨t,rfl⟩:=r;exact⟨_,.str z t⟩
 | _,_,_,.lst h hs,r=>by
  cases r
  obtain⟨its,rv,⟨o,n,e,hc,_,hd⟩,_⟩:=I.list h
  obtain⟨as,q⟩:=Inv.readsAll I hs rv
  exact⟨_,reads_list_at e hc hd (by simpa using q)⟩
 | _,_,_,.tup h hs,r=>by
  cases r
  obtain⟨its,rv,⟨o,e,hc,n,hd⟩,_⟩:=I.tuple h
  obtain⟨as,q⟩:=Inv.readsAll I hs rv
  exact⟨_,reads_tuple_at e hc hd (by simpa using q)⟩
theorem Inv.readsAll(I:Inv X pins σ H s):∀ {xs:List V} {ds:List PyData} {us:List Value},DVs X.K H xs ds→Zv xs us→∃as,ReadsAll s.heap us ds as
 | _,_,_,.nil,r=>by cases r;exact⟨_,.nil⟩
 | _,_,_,.cons h hs,r=>by
  cases r with
  | cons r1 r2 =>
   obtain⟨as,q1⟩:=Inv.reads I h r1
   obtain⟨bs,q2⟩:=Inv.readsAll I hs r2
   exact⟨_,.cons q1 q2⟩
end
def Zku(K:PySem.W.Frag)(neg:Bool):R2:=fun x y H Q=>∃d e,DV K H x d∧DV K H y e∧SeqAt.shaped d=true∧SeqAt.shaped e=true∧Q (.bl (if neg then !PyData.eqv d e else PyData.eqv d e)) H
theorem ZjO(hu:X.A.units+64<cLine):OpR X (compareOp .NotEq) (Zku X.K true):=by
 intro pins s σ H x y v u Q I rx ry h
 obtain⟨d,e,h1,h2,s1,s2,q⟩:=h
 obtain⟨as,r1⟩:=I.reads h1 rx
 obtain⟨bs,r2⟩:=I.reads h2 ry
 exact ne_dataH r1 r2 s1 s2 hu ⟨.bl _,H,I,rfl,q⟩
end
theorem neD{X:Cx}(K:PySem.W.Frag){k:Nat}(hr:ZM k X.A)(h:X.K=K:=by rfl):OpR X (compareOp .NotEq) (Zku K true):=by subst h;exact ZjO hr.units
mutual
theorem DV.mono{K:PySem.W.Frag}{H H':Hp}(s:ZH H H'):∀ {x:V} {d:PyData},DV K H x d→DV K H' x d
 | _,_,.non=>.non
 | _,_,.bl b=>.bl b
 | _,_,.int i=>.int i
 | _,_,.str z=>.str z
 | _,_,.lst h hs=>.lst (s.seq h) (DVs.mono s hs)
 | _,_,.tup h hs=>.tup (by
   rcases h with(h|⟨ob,h⟩)|h
   ·exact .inl (.inl (s _ _ h))
   ·exact .inl (.inr ⟨ob,s _ _ h⟩)
   ·exact .inr h) (DVs.mono s hs)
theorem DVs.mono{K:PySem.W.Frag}{H H':Hp}(s:ZH H H'):∀ {xs:List V} {ds:List PyData},DVs K H xs ds→DVs K H' xs ds
 | _,_,.nil=>.nil
 | _,_,.cons h hs=>.cons (DV.mono s h) (DVs.mono s hs)
end
def Ite(K:PySem.W.Frag)(a:Addr):It :=
 ⟨fun i H=>∃xs,SqL K H a xs∧i<xs.length,
  fun i H v H'=>∃p,H p=none∧v=.ref p∧∀xs,SqL K H a xs→∀x,xs[i]? = some x→H'=upd H p (.tup [.int i,x]),
  fun i H=>∃xs,SqL K H a xs∧xs.length≤i⟩
theorem Zf8{P:Program}{w:World}{K:PySem.W.Frag}{elts:List Expr}{x1:Nat}{tpos:Pos}{a e it:Addr}(hne:e≠it) :
  ZhT P w K (.Tuple elts x1 tpos) (Ite K a) [e,it] e (fun i h=>(∃old,IsEnum h e it i old)∧h.IsListIter it a i) where
 mem:=by simp
 obj:=fun i h st b hb=>by
  obtain⟨⟨old,he⟩,o,hit,hc,hd⟩:=st
  simp only[List.mem_cons,List.not_mem_nil,or_false]at hb
  rcases hb with rfl|rfl
  ·exact⟨_,he,fun v z=>by cases z⟩
  ·exact⟨o,hit,fun v z=>by rw[hd]at z;cases z⟩
 keep:=fun i h h' st k=>by
  obtain⟨⟨old,he⟩,hit⟩:=st
  exact⟨⟨old,k e (by simp) _ he⟩,hit.at fun o q=>k it (by simp) o q⟩
 item:=by
  intro X hP hw hK hc i pins s σ H E I hf st hg
  subst hP hw hK
  obtain⟨⟨old,he⟩,hit⟩:=st
  obtain⟨xs,q1,l1⟩:=hg
  obtain⟨its,rv,pl,_⟩:=I.list q1
  obtain⟨u,hu,ru⟩:=rv.get (Qa l1)
  refine wpAny_pyNext_enum_item he hit pl.isList (x:=u) (by simpa using hu) hne fun h' a1 a2 a3 a4 a5=>?_
  have lt:∀ {b:Addr} {o:Obj},s.heap.get? b=some o→s.heap.objs.size≠b:=fun q=>Qad (Qd q)
  have hes:s.heap.objs.size≠e:=lt he
  refine⟨_,rfl,wpAny_letOwnedTupleGo_enum a1 fun h'' he'' hs''=>?_⟩
  have hs':Heap.SameBut e h' h'':=hs''
  have hit'':h''.IsListIter it a (i+1):=a2.extBut hs'.extBut hne.symm
  have I2:Inv X pins σ (upd H s.heap.objs.size (.tup [.int i,xs[i]])) { s with heap:=h'',toks:=s.toks+1 }:=by
   refine I.zipped (fp:=[e,it]) (u:=.int i s.toks) (v:=u) hf ⟨_,rfl⟩ ru (hs'.extBut _ _ hes a3) (fun b hb=>?_) fun c o hc q=>?_
   ·simp only[List.mem_cons,List.not_mem_nil,or_false]at hb
    rcases hb with rfl|rfl
    ·exact⟨_,he''⟩
    ·obtain⟨o,q,_⟩:=hit'';exact⟨o,q⟩
   ·simp only[List.mem_cons,List.not_mem_nil,or_false,not_or]at hc
    exact hs'.extBut _ _ hc.1 (a5 c o hc.1 hc.2 q)
  refine⟨.ref s.heap.objs.size,_,I2,rfl,⟨s.heap.objs.size,I.fresh,rfl,fun xs' w1 x' e1=>?_⟩,⟨⟨_,he''⟩,hit''⟩,fun b hb=>?_⟩
  ·have e3:=I.list_inj w1 q1
   subst e3
   rw[Qa l1]at e1
   cases e1
   rfl
  ·rw[Zc (fun z=>by
    obtain⟨o,q⟩:∃o,s.heap.get? b=some o:=by
     simp only[List.mem_cons,List.not_mem_nil,or_false]at hb
     rcases hb with rfl|rfl
     ·exact⟨_,he⟩
     ·obtain⟨o,q,_⟩:=hit;exact⟨o,q⟩
    exact lt q z.symm)]
   exact(hf b hb).1
 done:=by
  intro X hP hw hK hc i pins s σ H E I hf st hg
  subst hP hw hK
  obtain⟨⟨old,he⟩,hit⟩:=st
  obtain⟨xs,q1,l1⟩:=hg
  obtain⟨its,rv,pl,_⟩:=I.list q1
  obtain⟨f0,f1,f2,f3,f4,f5⟩:=hf it (by simp)
  have hl:=rv.length
  exact wpAny_pyNext_enum_end (I.ok.hd hc) he hit pl.isList (by rw[List.getElem?_toArray];exact List.getElem?_eq_none (by omega)) fun h' eb=>⟨rfl,I.turned (t':=s.toks) (fun b o hb q=>eb b o hb q) f0 f1 f3 f4 f5⟩
 self:=fun _ _ _ _ _ st h=>by obtain⟨⟨old,he⟩,_⟩:=st;exact wpAny_pyIter_enum he h
def ZiV(K:PySem.W.Frag)(ta:TA):TI:=fun σ H R=>ta σ H fun vs H1=>∃a xs,vs=[V.ref a]∧SqL K H1 a xs∧R (Ite K a) H1
theorem Zis{X:Cx}{l:Expr}{ta:TA}{p pos:Pos}{elts:List Expr}{x1:Nat}{tpos:Pos}(hg:Gl X "enumerate")(hm:X.mg "enumerate" = none)(ha:PA X [l] ta)
  (hs:starEach [l] X.env=[(false,eval l X.env)]:=by rfl):PI X (.Tuple elts x1 tpos) (.Call (.Name "enumerate" p) [l] [] pos) (ZiV X.K ta):=by
 intro pins s σ H R I h
 refine Call_ (Zcd I hg hm boot_enumerate (QL (thn (ha pos pins s σ H _ I h) ?_) hs rfl))
 rintro us s1 ⟨vs,H1,I1,r1,q1⟩
 obtain⟨a,xs,e,y1,q⟩:=q1
 subst e
 obtain⟨u,rfl,ru⟩:=r1.one
 cases ru
 obtain⟨its,rv,pl,_⟩:=I1.list y1
 refine call_enumerate_list pl.isList fun h' he hit hsz hk=>wpAny_pyIter_enum he ?_
 have I2:Inv X pins σ H1 { s1 with heap:=h' }:=I1.kept (t':=s1.toks) hk
 refine⟨_,_,_,_,H1,rfl,I2,Zf8 (a:=a) (e:=s1.heap.objs.size+1) (it:=s1.heap.objs.size) (Qad (Q4 _)),⟨⟨_,he⟩,hit⟩,fun b hb=>?_,q⟩
 have hb':s1.heap.objs.size≤b:=by
  simp only[List.mem_cons,List.not_mem_nil,or_false]at hb
  rcases hb with rfl|rfl
  ·exact Nat.le_add_right _ 1
  ·exact Qe _
 exact I1.fpOk hb' (I1.hok.fresh hb')
theorem iE{X:Cx}(K:PySem.W.Frag){l:Expr}{ta:TA}{p pos:Pos}{elts:List Expr}{x1:Nat}{tpos:Pos}(hm:X.mg "enumerate" = none)(ha:PA X [l] ta)(hg:Gl X "enumerate":=by rfl)(hK:X.K=K:=by rfl)
  (hs:starEach [l] X.env=[(false,eval l X.env)]:=by rfl):PI X (.Tuple elts x1 tpos) (.Call (.Name "enumerate" p) [l] [] pos) (ZiV K ta):=by subst hK;exact Zis hg hm ha hs
theorem Zc8{K:PySem.W.Frag}{a:Addr}{xs:List V}{g:TG}{tb:TS}{D:Zd2}{σ:St}{H:Hp}(Pv:Nat→St→Hp→Prop)(h0:Pv 0 σ H)(hl:∀i σ H,Pv i σ H→SqL K H a xs)
  (hs:∀i x σ H p,xs[i]? = some x→Pv i σ H→H p=none→g (.ref p) σ (upd H p (.tup [.int i,x])) fun σ2 H2=>tb { D with nx:=Pv (i+1),ct:=Pv (i+1),bk:=D.nx } σ2 H2) (hd:∀σ H,Pv xs.length σ H→D.nx σ H) :
  ∃W:Nat→Nat→St→Hp→Prop,(∃m,W 0 m σ H)∧∀i m σ H,W i m σ H →
   ((Ite K a).stop i H∧D.nx σ H)∨((Ite K a).go i H∧∃N:St→Hp→Prop,(∀σ' H',N σ' H'→∃m',m'<m∧W (i+1) m' σ' H')∧∀x H',(Ite K a).yld i H x H'→g x σ H' fun σ2 H2=>tb { D with nx:=N,ct:=N,bk:=D.nx } σ2 H2):=by
 refine⟨fun i m σ H=>m=xs.length-i∧i≤xs.length∧Pv i σ H,⟨xs.length,by simp,Qu _,h0⟩,?_⟩
 rintro i m σ H ⟨rfl,hi,p⟩
 have q1:=hl i σ H p
 by_cases hlt:i<xs.length
 ·refine .inr ⟨⟨xs,q1,hlt⟩,Pv (i+1),fun σ' H' p'=>⟨xs.length-(i+1),by omega,rfl,hlt,p'⟩,fun x H' y=>?_⟩
  obtain⟨r,hr,rfl,e⟩:=y
  have e':=e xs q1 _ (Qa hlt)
  subst e'
  exact hs i _ σ H r (Qa hlt) p hr
 ·have e:i=xs.length:=by omega
  exact .inl ⟨⟨xs,q1,by omega⟩,hd σ H (e ▸ p)⟩
def Zjj(K:PySem.W.Frag):List V→Hp→VK→Prop:=fun xs H Q=>∃p ys,xs=[.ref p]∧(SqL K H p ys∨SqT K H p ys)∧∀l,H l=none→Q (.ref l) (upd H l (.lst ys))
theorem Zf2{X:Cx}(K:PySem.W.Frag)(h:X.K=K:=by rfl):Zau X (.type "list") (Zjj K):=by subst h;exact Zd0
section
variable {prog:Program} {w:World} {A:Around} {E:Value→Shared→Prop} {s:Shared}
end
section
variable {X:Cx} {e st:Expr} {te:TE} {lo hi:Option Expr} {tl th ts:TO} {pos p2:Pos}
end
section
variable {X:Cx}
end
section
variable {X:Cx} {tg:Expr}
end
def Zko:PyData→Str
 | .str z=>z
 | d=>d.shown
section
variable {X:Cx} {pins:List (Addr×Obj)} {σ:St} {H:Hp} {s:Shared}
def Zkf:TE:=fun _ H Q=>∀p,H p=none→Q (.ref p) (upd H p (.dT []))
theorem ZfO{pos:Pos}:PE X (.Dict [] [] pos) Zkf:=by
 intro pins s σ H Q I h
 have hb:sysModules<s.heap.objs.size:=Nat.lt_trans (by decide) (show mainGlobals<s.heap.objs.size from(I.mod.glob.keeps I.bk).lt)
 refine wpAny_Dict_empty ⟨.ref s.heap.objs.size,upd H s.heap.objs.size (.dT []),?_,rfl,h _ (I.hok.fresh (Qe _))⟩
 refine I.laid (t':=s.toks) (fun _ _ q=>Qc _ q) (Qe _) ?_
 refine⟨Qu _,?_,[],.nil,_,#[],0,Qy _ rfl,⟨rfl,rfl,rfl⟩,rfl,rfl,List.nodup_nil⟩
 exact beq_eq_false_iff_ne.mpr fun z=>Q2 _ (z ▸ hb)
end
def ZeK(lo:Int)(n:Nat):List Int:=(List.range n).map fun (k:Nat)=>lo+k
theorem Zes(lo:Int)(n:Nat):(ZeK lo n).length=n:=by simp[ZeK]
theorem ZeH{lo:Int}{n k:Nat}{D:Addr}{σ:St}{H1:Hp}{g:TG}{tc:TT}{te:TE}{Q:VK}(Pv:Nat→List V→St→Hp→Prop)(h0:Pv 0 [] (σ++List.replicate k none) (upd H1 D (.lst [])))
  (hs:∀i ys σ H,i<n→Pv i ys σ H→g (.int (lo+i)) σ H fun σ4 H4=>tc σ4 H4 fun b H5=>if b=true then te σ4 H5 fun y H6=>H6 D=some (.lst ys)∧ys.length<sizeLine∧Pv (i+1) (ys++[y]) σ4 (upd H6 D (.lst (ys++[y]))) else Pv (i+1) ys σ4 H5)
  (hd:∀ys σ H,Pv n ys σ H→Q (.ref D) H):Zd7 (Itr lo n) D k σ H1 g tc te Q:=by
 refine⟨fun i m ys σ H=>m=n-i∧i≤n∧Pv i ys σ H,⟨n,by simp,Qu _,h0⟩,?_⟩
 rintro i m ys σ H ⟨rfl,hi,p⟩
 by_cases hlt:i<n
 ·refine .inr ⟨hlt,Pv (i+1),fun ys' σ' H' p'=>⟨n-(i+1),by omega,rfl,hlt,p'⟩,fun x H' y=>?_⟩
  obtain⟨e,y⟩:=y
  subst e y
  exact hs i ys σ _ hlt p
 ·have e:i=n:=by omega
  subst e
  exact .inl ⟨Qe _,hd ys σ H p⟩
section
variable {prog:Program} {w:World} {A:Around} {E:Value→Shared→Prop} {s:Shared}
end
section
variable {X:Cx}
end
section
variable {prog:Program} {w:World} {A:Around} {E:Value→Shared→Prop} {s:Shared} {κ:PyProof.Rows.KeyKind} {k0:SortKind} {a₀:Array Keyed} {st:SortSt}
structure SB (k0:SortKind) (a₀:Array Keyed) (st:SortSt):Prop where
 perm:(arrOf st).Perm a₀
 kind:kindOf st=k0
 failed:failedOf st=none
 pend:pendingOf st = #[]
end
section
variable {prog:Program} {w:World} {A:Around} {E:Value→Shared→Prop} {s:Shared} {κ:PyProof.Rows.KeyKind}
end
section
variable {prog:Program} {w:World} {A:Around} {E:Value→Shared→Prop} {s:Shared}
end
section
variable {prog:Program} {w:World} {A:Around} {E:Value→Shared→Prop} {s:Shared}
end
end L2
namespace L2
open PySem PySem.Spec PyProof.Rows
section
open PySem.SeqAt
open PySem.AutoSeq1 (wpAny_loadPart')
open PySem.MeetsSeq PySem.MeetsSeq2 PySem.MeetsSeq3
end
section
variable {prog:Program} {w:World} {A:Around} {E:Value→Shared→Prop} {s:Shared}
end
section
variable {prog:Program} {w:World}
end
section
variable {X:Cx}
end
section
variable {X:Cx}
end
section
open PySem.SeqAt
open PySem.AutoSeq1 (wpAny_loadPart')
open PySem.MeetsSeq PySem.MeetsSeq2 PySem.MeetsSeq3
end
section
variable {prog:Program} {w:World} {A:Around} {E:Value→Shared→Prop} {s:Shared}
end
section
variable {X:Cx}
end
section
variable {X:Cx}
end
section
variable {X:Cx} {T name id:String} {r:V→List V→Hp→VK→Prop} {o e:Expr} {es:List Expr} {to:TE} {t:TA} {apos cpos:Pos}
end
section
variable {X:Cx}
end
section
variable {X:Cx}
end
section
variable {prog:Program} {w:World} {A:Around} {E:Value→Shared→Prop} {s:Shared}
end
section
variable {prog:Program} {w:World} {A:Around} {R:Result→Shared→Prop} {s:Shared}
end
section
variable {X:Cx} {N N':List Str} {o c:Scope}
end
end L2
namespace Hf
open L2
abbrev PW:=List (Int×Nat)
def val(P:PW):Int:=(P.map fun p=>p.1*(p.2:Int)).sum
def ws(P:PW):List Int:=P.map (·.1)
def ds(P:PW):List Nat:=P.map (·.2)
def zs(z:Nat):List Int:=List.replicate z 0
def kr(w E:Nat)(D:List Nat):Nat:=(D.map fun d=>w ^ (E-d)).sum
inductive Hu (w:Nat):List Int→Nat→Int→Prop
 | stop {e:Int} {m:Nat}:Hu w [e] m 0
 | step {E L:List Int} {m:Nat} {C:Int}:1<L.length→E.Perm L→L.Pairwise (·≤·)→Hu w (L.drop m++[(L.take m).sum]) w C→Hu w E m (C+(L.take m).sum)
def Fit(w n m:Nat):Prop:=n=1∨∃t,n=m+t*(w-1)
structure Fits (w n m:Nat):Prop where
 w2:2≤w
 m2:2≤m
 mw:m≤w
 ok:Fit w n m
end Hf
namespace L2
open PySem PySem.Spec PyProof.Rows
section
variable {prog:Program} {w:World} {A:Around} {R:Result→Shared→Prop} {s:Shared}
end
section
variable {X:Cx} {N N':List Str} {o c:Scope}
end
section
variable {κ:Type} [DecidableEq κ]
def ZaX(kvs:List (κ×V))(k:κ):Option V:=(kvs.find? fun kv=>decide (kv.1=k)).map (·.2)
def ZbK(kvs:List (κ×V))(k:κ)(v:V):List (κ×V) :=
 if (kvs.any fun kv=>decide (kv.1=k))=true then kvs.map (fun kv=>if kv.1=k then (kv.1,v) else kv) else kvs++[(k,v)]
theorem Zb4{p:κ×V}{r:List (κ×V)}{k:κ}(e:p.1=k):ZaX (p::r) k=some p.2:=by simp[ZaX,List.find?_cons,e]
theorem Zb1{p:κ×V}{r:List (κ×V)}{k:κ}(e:¬ p.1=k):ZaX (p::r) k=ZaX r k:=by simp[ZaX,List.find?_cons,e]
theorem Zc0(k:κ):∀kvs:List (κ×V),(kvs.any fun kv=>decide (kv.1=k))=(ZaX kvs k).isSome
 | []=>rfl
 | p::r=>by
  rw[List.any_cons]
  by_cases e:p.1=k
  ·simp only[Zb4 e,decide_eq_true e,Bool.true_or,Option.isSome_some]
  ·rw[Zb1 e,decide_eq_false e,Bool.false_or];exact Zc0 k r
theorem Zcm(kvs:List (κ×V))(k:κ)(v:V):(ZbK kvs k v).length≤kvs.length+1:=by
 unfold ZbK
 split
 ·rw[Qb];omega
 ·rw[Qm,QB,List.length_nil];omega
theorem Zek{kvs:List (κ×V)}{k:κ}(v:V)(h:ZaX kvs k=none):ZbK kvs k v=kvs++[(k,v)]:=by
 unfold ZbK
 rw[Zc0,h]
 exact if_neg (by decide)
theorem Za0.isSome_eq{o:Option V}{u:Option Value}(r:Za0 o u):o.isSome=u.isSome:=by
 cases o with
 | none=>cases u with
  | none=>rfl
  | some _=>exact(show False from r).elim
 | some _=>cases u with
  | none=>exact(show False from r).elim
  | some _=>rfl
theorem KV.val{kvs:List (κ×V)}{vs:List (κ×Value)}(r:KV kvs vs)(k:κ):Za0 (ZaX kvs k) (valueAt vs k):=by
 unfold KV at r
 induction r with
 | nil=>exact True.intro
 | @cons p q ps qs h t ih =>
  obtain⟨h1,h2⟩:=h
  by_cases e:p.1=k
  ·have e':q.1=k:=h1.symm.trans e
   have b:valueAt (q::qs) k=some q.2:=by simp[valueAt,List.find?_cons,e']
   rw[Zb4 e,b];exact h2
  ·have e':¬ q.1=k:=fun z=>e (h1.trans z)
   have b:valueAt (q::qs) k=valueAt qs k:=by simp[valueAt,List.find?_cons,e']
   rw[Zb1 e,b];exact ih
theorem KV.any{kvs:List (κ×V)}{vs:List (κ×Value)}(r:KV kvs vs)(k:κ):(kvs.any fun kv=>decide (kv.1=k))=vs.any fun kv=>decide (kv.1=k):=by
 unfold KV at r
 induction r with
 | nil=>rfl
 | cons h t ih=>rw[List.any_cons,List.any_cons,ih,h.1]
theorem KV.repl{kvs:List (κ×V)}{vs:List (κ×Value)}(r:KV kvs vs)(k:κ){y:V}{u:Value}(ry:ZA y u) :
  KV (kvs.map fun kv=>if kv.1=k then (kv.1,y) else kv) (vs.map fun kv=>if kv.1=k then (kv.1,u) else kv):=by
 unfold KV at r ⊢
 induction r with
 | nil=>exact .nil
 | @cons p q ps qs h t ih =>
  rw[Qx,Qx]
  refine .cons ?_ ih
  obtain⟨h1,h2⟩:=h
  by_cases e:p.1=k
  ·rw[if_pos e,if_pos (h1.symm.trans e)];exact⟨h1,ry⟩
  ·rw[if_neg e,if_neg (fun z=>e (h1.trans z))];exact⟨h1,h2⟩
theorem KV.put{kvs:List (κ×V)}{vs:List (κ×Value)}(r:KV kvs vs)(k:κ){y:V}{u:Value}(ry:ZA y u):KV (ZbK kvs k y) (stored vs k u):=by
 unfold ZbK stored
 rw[r.any k]
 by_cases e:(vs.any fun kv=>decide (kv.1=k))=true
 ·rw[if_pos e,if_pos e];exact r.repl k ry
 ·rw[if_neg e,if_neg e];exact Paired.snoc r ⟨rfl,ry⟩
theorem KV.length{kvs:List (κ×V)}{vs:List (κ×Value)}(r:KV kvs vs):kvs.length=vs.length:=Paired.length r
end
theorem ZgG{P:Program}{w:World}{k:Key}{u:Value}(r:ZA (kV k) u):(ZX P w).is k u=true:=by
 cases k with
 | inl i=>obtain⟨t,e⟩:=(show ∃t,u=Value.int i t from r);subst e;exact ZeO P w i t
 | inr x=>obtain⟨t,e⟩:=(show ∃t,u=Value.str x t from r);subst e;exact Zez P w x t
theorem Zdx{P:Program}{w:World}:∀ {ks:List Key} {us:List Value},Zv (ks.map kV) us→ItemsAre (ZX P w) ks us
 | [],_,r=>by rw[List.map_nil]at r;cases r;exact .nil
 | k::ks,_,r=>by
  rw[Qx]at r
  cases r with
  | cons h t=>exact .cons (ZgG h) (Zdx t)
abbrev KT(H:Hp):List (List Key×V)→List (List Key×Addr×Value)→Prop:=Paired fun p q=>p.1=q.1∧H q.2.1=some (.tup (p.1.map kV))∧ZA p.2 q.2.2
theorem KT.val{H:Hp}{kvs:List (List Key×V)}{xs:List (List Key×Addr×Value)}(r:KT H kvs xs)(k:List Key):Za0 (ZaX kvs k) ((atKey xs k).map (·.2)):=by
 induction r with
 | nil=>exact True.intro
 | @cons p q ps qs h t ih =>
  obtain⟨h1,_,h2⟩:=h
  by_cases e:p.1=k
  ·have e':q.1=k:=h1.symm.trans e
   have b:atKey (q::qs) k=some q.2:=by simp[atKey,List.find?_cons,e']
   rw[Zb4 e,b];exact h2
  ·have e':¬ q.1=k:=fun z=>e (h1.trans z)
   have b:atKey (q::qs) k=atKey qs k:=by simp[atKey,List.find?_cons,e']
   rw[Zb1 e,b];exact ih
theorem KT.repl{H:Hp}{kvs:List (List Key×V)}{xs:List (List Key×Addr×Value)}(r:KT H kvs xs)(k:List Key){y:V}{u:Value}(ry:ZA y u) :
  KT H (kvs.map fun kv=>if kv.1=k then (kv.1,y) else kv) (xs.map (putAt k u)):=by
 induction r with
 | nil=>exact .nil
 | @cons p q ps qs h t ih =>
  rw[Qx,Qx]
  refine .cons ?_ ih
  obtain⟨h1,h2,h3⟩:=h
  unfold putAt
  by_cases e:p.1=k
  ·rw[if_pos e,if_pos (h1.symm.trans e)];exact⟨h1,h2,ry⟩
  ·rw[if_neg e,if_neg (fun z=>e (h1.trans z))];exact⟨h1,h2,h3⟩
theorem KT.put{H:Hp}{kvs:List (List Key×V)}{xs:List (List Key×Addr×Value)}(r:KT H kvs xs)(k:List Key){b:Addr}{y:V}{u:Value}(hb:H b=some (.tup (k.map kV)))(ry:ZA y u) :
  KT H (ZbK kvs k y) (storedH xs k b u):=by
 have e:(kvs.any fun kv=>decide (kv.1=k))=(atKey xs k).isSome:=by
  rw[Zc0,(r.val k).isSome_eq,Option.isSome_map]
 unfold ZbK storedH
 rw[e]
 by_cases q:(atKey xs k).isSome=true
 ·rw[if_pos q,if_pos q];exact r.repl k ry
 ·rw[if_neg q,if_neg q];exact Paired.snoc r ⟨rfl,hb,ry⟩
theorem KT.keeps{H H':Hp}{kvs:List (List Key×V)}{xs:List (List Key×Addr×Value)}(r:KT H kvs xs)(ht:∀b ys,H b=some (.tup ys)→H' b=some (.tup ys)):KT H' kvs xs :=
 Paired.mapP r fun _ _ z=>⟨z.1,ht _ _ z.2.1,z.2.2⟩
section
variable {P:Program} {w:World} {H:Hp} {h:Heap} {a:Addr}
theorem ZiS{u:HO}(ok:HOk P w H h)(e:Rd H a u):Z6 P w H h a u:=e.ok ok
theorem ZfU{kvs:List (Key×V)}(ok:HOk P w H h)(e:Rd H a (.dK kvs)):kvs.length≤sizeLine∧(a == sysModules)=false∧∃vs,KV kvs vs∧h.DictOf (ZX P w) a vs :=
 show Z6 P w H h a (.dK kvs) from ZiS ok e
theorem ZjW{kvs:List (Key×V)}(ok:HOk P w H h)(e:H a=some (.dK kvs)):kvs.length≤sizeLine∧(a == sysModules)=false∧∃vs,KV kvs vs∧h.DictOf (ZX P w) a vs:=ZfU ok (.inl e)
theorem ZeU{ks:List Key}(ok:HOk P w H h)(e:H a=some (.tup (ks.map kV))):(tupleKind (ZX P w)).is h ks a:=by
 obtain⟨_,its,r,o,h1,h2,n,h3⟩:=(show Z6 P w H h a (.tup (ks.map kV)) from ok a _ e)
 exact⟨o,its.toArray,n,h1,h2,h3,by simpa using Zdx r⟩
theorem Zhv{kvs:List (List Key×V)}(ok:HOk P w H h)(e:Rd H a (.dT kvs)):kvs.length≤sizeLine∧(a == sysModules)=false ∧
  ∃xs,KT H kvs xs∧h.DictOfH (tupleKind (ZX P w)) a xs:=by
 obtain⟨z,y,xs,r,o,es,ep,h1,h2,h3,h4,h5⟩:=(show Z6 P w H h a (.dT kvs) from ZiS ok e)
 refine⟨z,y,xs,r,o,es,ep,h1,h2,h3,h4,fun x hx=>?_,h5⟩
 have all:∀ {l:List (List Key×V)} {m:List (List Key×Addr×Value)},KT H l m→∀x∈m,(tupleKind (ZX P w)).is h x.1 x.2.1:=by
  intro l m q
  induction q with
  | nil=>intro x hx;exact nomatch hx
  | @cons p q ps qs hq t ih =>
   intro x hx
   rcases QE.mp hx with e|hx
   ·subst e
    exact ZeU ok (by rw[← hq.1];exact hq.2.1)
   ·exact ih x hx
 exact all r x hx
theorem Zj9{kvs:List (List Key×V)}(ok:HOk P w H h)(e:H a=some (.dT kvs)):kvs.length≤sizeLine∧(a == sysModules)=false ∧
  ∃xs,KT H kvs xs∧h.DictOfH (tupleKind (ZX P w)) a xs:=Zhv ok (.inl e)
end
def Zdk(H:Hp)(a:Addr)(y:V)(r:Option V):Prop :=
 (∃kvs k,Rd H a (.dK kvs)∧y=kV k∧r=ZaX kvs k)∨∃kvs k b,Rd H a (.dT kvs)∧y=.ref b∧H b=some (.tup (k.map kV))∧r=ZaX kvs k
def ZdZ(H:Hp)(a:Addr)(y v:V)(H':Hp):Prop :=
 (∃kvs k,H a=some (.dK kvs)∧y=kV k∧kvs.length<sizeLine∧H'=upd H a (.dK (ZbK kvs k v))) ∨
 ∃kvs k b,H a=some (.dT kvs)∧y=.ref b∧H b=some (.tup (k.map kV))∧kvs.length<sizeLine∧H'=upd H a (.dT (ZbK kvs k v))
theorem Zdk.k{H:Hp}{a:Addr}{kvs:List (Key×V)}{k:Key}(e:H a=some (.dK kvs)):Zdk H a (kV k) (ZaX kvs k):=.inl ⟨kvs,k,.inl e,rfl,rfl⟩
theorem ZdZ.k{H:Hp}{a:Addr}{kvs:List (Key×V)}{k:Key}{v:V}(e:H a=some (.dK kvs))(hl:kvs.length<sizeLine):ZdZ H a (kV k) v (upd H a (.dK (ZbK kvs k v))):=.inl ⟨kvs,k,e,rfl,hl,rfl⟩
theorem ZdZ.t{H:Hp}{a b:Addr}{kvs:List (List Key×V)}{k:List Key}{v:V}(e:H a=some (.dT kvs))(eb:H b=some (.tup (k.map kV)))(hl:kvs.length<sizeLine) :
  ZdZ H a (.ref b) v (upd H a (.dT (ZbK kvs k v))):=.inr ⟨kvs,k,b,e,rfl,eb,hl,rfl⟩
section
variable {X:Cx} {pins:List (Addr×Obj)} {σ:St} {H:Hp} {s:Shared} {a:Addr} {y v:V} {u r:Value} {o:Option V} {A:Around} {E:Value→Shared→Prop}
theorem Inv.big(I:Inv X pins σ H s):sysModules<s.heap.objs.size:=by
 have h:mainGlobals<s.heap.objs.size:=(I.mod.glob.keeps I.bk).lt
 exact Nat.lt_trans (by decide) h
theorem ZgA{Q:Value→Shared→Prop}(hu:A.units+1<cLine)(I:Inv X pins σ H s)(g:Zdk H a y (some v))(ry:ZA y u)(h:∀w' s',Inv X pins σ H s'→ZA v w'→Q w' s') :
  wpAny (model X.prog X.w) A (getItem (.ref a) u) Q E s:=by
 rcases g with⟨kvs,k,e,ey,l⟩|⟨kvs,k,b,e,ey,eb,l⟩
 ·subst ey
  obtain⟨z,hd,vs,rel,dd⟩:=ZfU I.hok e
  obtain⟨w',hw,rw'⟩:=Za0.some_of (v:=v) (o:=valueAt vs k) (by rw[l];exact rel.val k)
  exact wpAny_getItem_of (ZgG ry) dd.mapOf hw (h w' _ (I.tok _) rw')
 ·subst ey
  cases (show u=Value.ref b from ry)
  obtain⟨z,hd,xs,rel,dd⟩:=Zhv I.hok e
  obtain⟨w',hw,rw'⟩:=Za0.some_of (v:=v) (o:=(atKey xs k).map (·.2)) (by rw[l];exact rel.val k)
  obtain⟨p,hp,hp2⟩:=Option.map_eq_some_iff.mp hw
  refine wpAny_getItem_heap (tupleKind_room_in1 hu) (ZeU I.hok eb) dd hp ?_
  rw[hp2]
  exact h w' _ (I.tok _) rw'
theorem ZfG{h':Heap}{t':Nat}{ob:HO}(I:Inv X pins σ H s)(mu:Mut (H a))(hs:Heap.SameBut a s.heap h')(he:∃q,h'.get? a=some q)(new:Z6 X.prog X.w (upd H a ob) h' a ob) :
  Inv X pins σ (upd H a ob) { s with heap:=h',toks:=t' } :=
 I.write (x:=a) (e:=a) mu (.inl rfl) (fun b q hb z=>(hs.2 b hb).trans z) he new
theorem Zi4{P:Program}{w:World}{H':Hp}{h':Heap}{kvs:List (Key×V)}{vs:List (Key×Value)}(z:kvs.length≤sizeLine)(hd:(a == sysModules)=false)(rel:KV kvs vs)(dd:h'.DictOf (ZX P w) a vs) :
  Z6 P w H' h' a (.dK kvs):=⟨z,hd,vs,rel,dd⟩
theorem Zgh{H':Hp}{Q:Unit→Shared→Prop}(hu:A.units+1<cLine)(I:Inv X pins σ H s)(g:ZdZ H a y v H')(ry:ZA y u)(rv:ZA v r)(h:∀s',Inv X pins σ H' s'→Q () s') :
  wpAny (model X.prog X.w) A (setItem (.ref a) u r) Q E s:=by
 rcases g with⟨kvs,k,e,ey,l,eH⟩|⟨kvs,k,b,e,ey,eb,l,eH⟩
 ·subst ey eH
  obtain⟨z,hd,vs,rel,dd⟩:=ZjW I.hok e
  have hz:vs.length≤sizeLine:=by rw[← rel.length];exact z
  have hl:(ZbK kvs k v).length≤sizeLine:=by have:=Zcm kvs k v;omega
  refine wpAny_setItem_pairs (hsz:=hz) (ZgG ry) dd fun h' dd' hs=>h _ ?_
  have he:∃q,h'.get? a=some q:=let ⟨q,_,_,hq,_⟩:=dd';⟨q,hq⟩
  exact ZfG I (by rw[e];exact True.intro) hs he (Zi4 hl hd (rel.put k rv) dd')
 ·subst ey eH
  cases (show u=Value.ref b from ry)
  obtain⟨z,hd,xs,rel,dd⟩:=Zj9 I.hok e
  have hz:xs.length≤sizeLine:=by rw[← Paired.length rel];exact z
  have hl:(ZbK kvs k v).length≤sizeLine:=by have:=Zcm kvs k v;omega
  refine wpAny_setItem_heap (hsz:=hz) (tupleKind_room_in1 hu) (ZeU I.hok eb) dd fun h' dd' hs=>h _ ?_
  obtain⟨q,es,ep,hq,h2,h3,h4,_,h5⟩:=dd'
  refine ZfG I (by rw[e];exact True.intro) hs ⟨q,hq⟩ ⟨hl,hd,_,(rel.put k eb rv).keeps fun c ys ec=>?_,q,es,ep,hq,h2,h3,h4,h5⟩
  rw[Zc (Zhl ec e (fun z=>nomatch z))]
  exact ec
end
section
variable {X:Cx} {pins:List (Addr×Obj)} {σ:St} {H:Hp} {s:Shared} {a:Addr} {kvs:List (Key×V)} {k:Key} {u:Value} {A:Around} {E:Value→Shared→Prop}
theorem Zke{Q:Value→Shared→Prop}(I:Inv X pins σ H s)(e:Rd H a (.dK kvs))(h:∀t s',Inv X pins σ H s'→Q (.int kvs.length t) s'):wpAny (model X.prog X.w) A (call (.builtin "len") [.ref a]) Q E s:=by
 obtain⟨z,hd,vs,rel,dd⟩:=ZfU I.hok e
 refine call_len_dict hd dd (by rw[← rel.length];rw[sizeLine_eq]at z;omega) ?_
 rw[← rel.length]
 exact h _ _ (I.tok _)
end
theorem Zeo{X:Cx}{pins:List (Addr×Obj)}{σ:St}{H:Hp}{s:Shared}{a:Addr}{y:V}{o:Option V}(I:Inv X pins σ H s)(g:Zdk H a y o):s.TypeIs (.ref a) "dict":=by
 rcases g with⟨kvs,k,e,_,_⟩|⟨kvs,k,b,e,_,_,_⟩
 ·obtain⟨_,_,vs,_,dd⟩:=ZfU I.hok e
  exact dd.typeIs
 ·obtain⟨_,_,xs,_,dd⟩:=Zhv I.hok e
  exact dd.typeIs
section
variable {X:Cx} {o i e value:Expr} {pos pos' tpos:Pos} {td ty tv:TE}
end
theorem ZgY{P:Program}{w:World}{H:Hp}(h:Heap)(hb:sysModules<h.objs.size):Z6 P w H (h.push { cls:=.type "dict",data:=.dict #[] }) h.objs.size (.dK []) :=
 ⟨Qu _,beq_eq_false_iff_ne.mpr (Ne.symm (Qp hb)),[],.nil,Heap.DictOf.new h⟩
def Zi6:TE:=fun _ H Q=>∀p,H p=none→Q (.ref p) (upd H p (.dK []))
section
variable {X:Cx} {pos:Pos}
theorem Zey:PE X (.Dict [] [] pos) Zi6:=fun pins s σ H Q I h =>
 wpAny_Dict_empty ⟨.ref s.heap.objs.size,_,I.laid (a:=s.heap.objs.size) (o:=.dK []) (t':=s.toks) (fun _ _ q=>Qc _ q) (Qe _) (ZgY s.heap I.big),rfl,h _ (I.hok.fresh (Qe _))⟩
end
structure M1 (X:Cx) (o:Expr) (m:Str) (apos:Pos) (e:Expr) (cpos:Pos):Prop where
 base:attributeBase o m X.env (eval o X.env)=eval o X.env
 few:((backTo cpos (starEach [e] X.env)).all (fun x=>!x.1)&&(backToKw cpos (keywordEach [] X.env)).all (fun x=>x.1.isSome)
  && decide (([e]:List Expr).length+([]:List Keyword).length+(if ([]:List Keyword).isEmpty then 0 else 1)<30))=true
 line:(apos.endLine == cpos.line)=true
 trees:backTo cpos (starEach [e] X.env)=[(false,eval e X.env)]
structure M2 (X:Cx) (o:Expr) (m:Str) (apos:Pos) (e f:Expr) (cpos:Pos):Prop where
 base:attributeBase o m X.env (eval o X.env)=eval o X.env
 few:((backTo cpos (starEach [e,f] X.env)).all (fun x=>!x.1)&&(backToKw cpos (keywordEach [] X.env)).all (fun x=>x.1.isSome)
  && decide (([e,f]:List Expr).length+([]:List Keyword).length+(if ([]:List Keyword).isEmpty then 0 else 1)<30))=true
 line:(apos.endLine == cpos.line)=true
 trees:backTo cpos (starEach [e,f] X.env)=[(false,eval e X.env),(false,eval f X.env)]
def IsD(H:Hp)(a:Addr):Prop:=(∃kvs,Rd H a (.dK kvs))∨∃kvs,Rd H a (.dT kvs)
section
variable {X:Cx} {pins:List (Addr×Obj)} {σ:St} {H:Hp} {s:Shared} {a:Addr} {y d:V} {u r:Value} {o:Option V} {A:Around} {E:Value→Shared→Prop}
end
section
variable {X:Cx} {o e f:Expr} {apos cpos:Pos} {td ty tx:TE}
end
section
variable {X:Cx} {pins:List (Addr×Obj)} {σ:St} {H:Hp} {s:Shared} {a:Addr} {kvs:List (Key×V)} {A:Around} {E:Value→Shared→Prop}
end
section
variable {X:Cx} {pins:List (Addr×Obj)} {σ:St} {H:Hp} {s:Shared} {a:Addr} {y:V} {u:Value} {A:Around} {E:Value→Shared→Prop}
end
section
variable {X:Cx}
theorem Zgw:Zau X (.builtin "len") (fun xs H Q=>∃a kvs,xs=[V.ref a]∧H a=some (.dK kvs)∧Q (.int kvs.length) H):=by
 intro pins s σ H xs us Q I r h
 obtain⟨a,kvs,rfl,ha,q⟩:=h
 obtain⟨u,rfl,ru⟩:=ZbO r
 cases ru
 exact Zke I (.inl ha) fun t s' I'=>⟨.int kvs.length,H,I',⟨t,rfl⟩,q⟩
end
section
variable {κ:Type} [DecidableEq κ]
end
structure Mf (P:Program) (w:World) (K:PySem.W.Frag) (mg:Str→Option Value) (base:Heap) (k:Nat) (C:Addr) (m:Str) (ps:List Str) (sp:Sp):Prop where
 ex:∃f fd,ZaA P w K mg base CX0 k f fd ps sp∧Zg5 K C m f∧Z7 K fd ps []
structure Cf (P:Program) (w:World) (K:PySem.W.Frag) (mg:Str→Option Value) (base:Heap) (k:Nat) (C:Addr) (x:Str) (ps:List Str) (sp:Sp):Prop where
 ex:∃f fd,ZaA P w K mg base CX0 k f fd ps sp∧Mk K C f∧Z7 K fd ps []∧mg x=some (.ref C)
structure ZeF (K:PySem.W.Frag) (C:Addr) (m qual:Str) (st:Stmt) (ps:List Str):Prop where
 ex:∃f fd,Fun K m qual st f fd∧Zg5 K C m f∧Z7 K fd ps []
structure ZgC (K:PySem.W.Frag) (mg:Str→Option Value) (C:Addr) (x qual:Str) (st:Stmt) (ps:List Str):Prop where
 ex:∃f fd,Fun K "__init__" qual st f fd∧Mk K C f∧Z7 K fd ps []∧mg x=some (.ref C)
section
variable {P:Program} {w:World} {K:PySem.W.Frag} {mg:Str→Option Value} {base:Heap}
theorem ZeF.mf{C:Addr}{m qual:Str}{st:Stmt}{N ps:List Str}{k:Nat}{sp:Sp}(T:ZeF K C m qual st ps)(S:Zo N ps (Zd st))(len:∀vs H Q E,sp vs H Q E→vs.length=ps.length)
  (hbody:∀ (cdv:Value) (f:Addr) (A:Around) (outer:List Env) (s:Shared) (H:Hp) (vs:List V) (Q:VK) (E:XK),ZM k (A.deeper (envOfC qual (Zd st) s.heap.objs.size f cdv))→sp vs H Q E →
   ∃t,PSs (ZbJ CX0 P w K mg base N qual (Zd st) f cdv A outer s H E).nox (Zm st) t∧t { nx:=fun _ H'=>Q .non H',rt:=Q } (ZaR N vs) H):Mf P w K mg base (k+1) C m ps sp:=by
 obtain⟨f,fd,F,m,b⟩:=T.ex
 exact⟨f,fd,F.ok S len (fun cdv A outer s H vs Q E hr h=>hbody cdv f A outer s H vs Q E hr h),m,b⟩
theorem ZgC.cf{C:Addr}{x qual:Str}{st:Stmt}{N ps:List Str}{k:Nat}{sp:Sp}(T:ZgC K mg C x qual st ps)(S:Zo N ps (Zd st))(len:∀vs H Q E,sp vs H Q E→vs.length=ps.length)
  (hbody:∀ (cdv:Value) (f:Addr) (A:Around) (outer:List Env) (s:Shared) (H:Hp) (vs:List V) (Q:VK) (E:XK),ZM k (A.deeper (envOfC qual (Zd st) s.heap.objs.size f cdv))→sp vs H Q E →
   ∃t,PSs (ZbJ CX0 P w K mg base N qual (Zd st) f cdv A outer s H E).nox (Zm st) t∧t { nx:=fun _ H'=>Q .non H',rt:=Q } (ZaR N vs) H):Cf P w K mg base (k+1) C x ps sp:=by
 obtain⟨f,fd,F,m,b,g⟩:=T.ex
 exact⟨f,fd,F.ok S len (fun cdv A outer s H vs Q E hr h=>hbody cdv f A outer s H vs Q E hr h),m,b,g⟩
end
section
variable {X:Cx} {k j:Nat} {C:Addr} {m x:Str} {ps:List Str} {sp:Sp} {o e:Expr} {es:List Expr} {ta:TE} {t:TA} {p apos pos:Pos} {pl:Sem Bool}
theorem ZfN(F:Mf X.prog X.w X.K X.mg X.base k C m ps sp)(c:Cls X.K C)(hr:ZM j X.A)(he:PE X o ta)(ha:PA X (e::es) t)(hjk:k≤j:=by decide)
  (hst:starEach (e::es) X.env=(false,eval e X.env)::starEach es X.env:=by rfl) (hpl:(backTo pos (starEach es X.env)).any (·.1)=false:=by rfl)
  (ht:eval (.Call (.Attribute o m apos) (e::es) [] pos) X.env=(do
   let ov ← eval o X.env
   standAt apos.atName
   let (f,first) ← holding [ov] (getMethod ov m pl)
   callWith pos f first (backTo pos (starEach (e::es) X.env)) (backToKw pos (keywordEach [] X.env))):=by rfl) :
  PE X (.Call (.Attribute o m apos) (e::es) [] pos) (ZfM C m sp [] E0 ta t):=by
 obtain⟨f,fd,F,g,b⟩:=F.ex
 exact ZiD he c g F (hr.mono hjk) b .nil Zf0 ha hst hpl ht
theorem Zdb(F:Mf X.prog X.w X.K X.mg X.base k C m ps sp)(c:Cls X.K C)(hr:ZM j X.A)(he:PE X o ta)(hjk:k≤j:=by decide)
  (ht:eval (.Call (.Attribute o m apos) [] [] pos) X.env=(do
   let ov ← eval o X.env
   standAt apos.atName
   let (f,first) ← holding [ov] (getMethod ov m pl)
   callWith pos f first (backTo pos (starEach [] X.env)) (backToKw pos (keywordEach [] X.env))):=by rfl) :
  PE X (.Call (.Attribute o m apos) [] [] pos) (ZfM C m sp [] E0 ta ZjA):=by
 obtain⟨f,fd,F,g,b⟩:=F.ex
 exact Zhs he c g F (hr.mono hjk) b .nil Zf0 ht
theorem Zhu(F:Cf X.prog X.w X.K X.mg X.base k C x ps sp)(hr:ZM j X.A)(ha:PA X (e::es) t)(hjk:k+1≤j:=by decide)(hg:Gl X x:=by rfl)(hdb:(x == ("__debug__" : Str))=false:=by decide)
  (he:starEach (e::es) X.env=(false,eval e X.env)::starEach es X.env:=by rfl) (hpl:(backTo pos (starEach es X.env)).any (·.1)=false:=by rfl) :
  PE X (.Call (.Name x p) (e::es) [] pos) (ZiL C sp [] E0 t):=by
 obtain⟨f,fd,F,g,b,gm⟩:=F.ex
 exact ZhV g F (hr.mono hjk) hg gm b .nil Zf0 ha hdb he hpl
end
section
variable {X:Cx} {pins:List (Addr×Obj)} {σ:St} {H:Hp} {s:Shared} {d:Addr} {o:Obj} {u:HO}
end
theorem ZiC{P:Program}{w:World}{k:Key}{v:Value}(h:(ZX P w).is k v=true):ZA (kV k) v:=by
 rw[Zfr]at h
 rcases ZN h with⟨i,t,rfl,rfl⟩|⟨x,t,rfl,rfl⟩
 ·exact⟨t,rfl⟩
 ·exact⟨t,rfl⟩
def ZhN:List V→Hp→VK→Prop:=fun xs H Q=>∃d kvs,xs=[.ref d]∧H d=some (.dK kvs)∧∀l,H l=none→Q (.ref l) (upd H l (.lst (kvs.map fun kv=>kV kv.1)))
theorem Zgl{P:Program}{w:World}:∀ (kvs:List (Key×V)) (vs:List (Key×Value)) (us:List Value),KV kvs vs→us.length=vs.length→(∀ (j:Nat) (v:Value),us[j]? = some v→∃k x,vs[j]? = some (k,x)∧(ZX P w).is k v=true)→Zv (kvs.map fun kv=>kV kv.1) us:=by
 intro kvs vs us r
 unfold KV at r
 induction r generalizing us with
 | nil =>
  intro hl _
  cases us with
  | nil=>exact .nil
  | cons a b=>simp at hl
 | @cons p q ps qs h t ih =>
  intro hl hp
  cases us with
  | nil=>simp at hl
  | cons a b =>
   obtain⟨k,x,e,hk⟩:=hp 0 a rfl
   have e':q=(k,x):=by simpa using e
   rw[Qx]
   refine .cons ?_ (ih b (by simpa using hl) fun j v hv=>?_)
   ·rw[h.1,e'];exact ZiC hk
   ·simpa using hp (j+1) v (by simpa using hv)
theorem Ze2{X:Cx}(hc:X.calm=true):Zau X (.type "list") ZhN:=by
 intro pins s σ H xs us Q I r h
 obtain⟨d,kvs,rfl,hd,q⟩:=h
 obtain⟨u,rfl,ru⟩:=ZbO r
 cases ru
 obtain⟨z,lo,vs,rel,dd⟩:=(show Z6 X.prog X.w H s.heap d (.dK kvs) from I.hok d _ hd)
 obtain⟨ep,da⟩:=dd.dictAt
 have hl:kvs.length=vs.length:=rel.length
 refine PySem.W.kdl_call (PySem.W.kdl_dict lo) (I.ok.hd hc) da (by omega) fun h' tk acc c hk hD hacc=>?_
 have hv:Zv (kvs.map fun kv=>kV kv.1) acc.toList:=Zgl (P:=X.prog) (w:=X.w) kvs vs acc.toList rel (by rw[Array.length_toList];exact hacc.1) fun j v e=>hacc.2 j v (by rw[← Array.getElem?_toList];exact e)
 refine⟨.ref s.heap.objs.size,_,I.laid (a:=s.heap.objs.size) (o:=.lst (kvs.map fun kv=>kV kv.1)) (t':=tk) hk (Qe _) ?_,rfl,q _ (I.hok.fresh (Qe _))⟩
 exact⟨by rw[Qb];exact z,acc.toList,c,hv,by simpa using hD⟩
end L2
namespace L2
open PySem PySem.Spec PyProof.Rows
end L2
namespace L2
open PySem PySem.Spec PyProof.Rows
section
variable {X:Cx} {N N':List Str} {o c:Scope}
end
section
variable {X:Cx}
end
section
variable {prog:Program} {w:World} {A:Around} {R:Result→Shared→Prop} {I:Addr} {fp wr:List Addr} {G:Array GenState→Array GenState→Prop} {n:Nat} {P:Nat→Value→Prop} {St:Nat→Shared→Prop} {K:Type} [DecidableEq K] {knd:KeyKind prog w K}
end
section
variable {prog:Program} {w:World} {A:Around} {E:Value→Shared→Prop} {s:Shared} {K:Type} [DecidableEq K] {knd:KeyKind prog w K}
end
def ZkS:R2:=fun x y H Q=>∃a v,x=.ref a∧Zdk H a y (some v)∧Q v H
section
variable {X:Cx} {k:Nat}
def Zkg:ZhW:=fun o i v H Q=>∃a H',o=.ref a∧ZdZ H a i v H'∧Q H'
theorem Zji(hr:ZM k X.A):ZiX X Zkg:=by
 intro pins s σ H o i v ov iv u Q I ro ri rv h
 obtain⟨a,H',rfl,g,q⟩:=h
 cases ro
 exact Zgh (ZiK hr) I g ri rv fun s4 I4=>⟨H',I4,q⟩
theorem Zfo{prog:Program}{w:World}{A:Around}{E:Value→Shared→Prop}{s:Shared}{value slice:Expr}{o i:Value}{T id:String}{Q:Value→Shared→Prop}(hT:s.TypeIs o T)
  (hl:typeLookup (.type T) "__getitem__" = pure (some (.builtin id))) (hs:subscripted slice false o i=operate [o,i] (getItem o i)) (h:wpAny (model prog w) A (getItem o i) Q E s) :
  wpAny (model prog w) A (subscriptTail value slice o i) Q E s:=by
 unfold subscriptTail
 refine wpAny_bind ?_
 rw[getitemInPython_of_ne hT.not_modules]
 refine wpAny_bind (wpAny_specialOf hT hl ?_)
 have fin:wpAny (model prog w) A (subscripted slice false o i) (fun r s₃=>wpAny (model prog w) A (letTemporaryGo value o r >>= fun _=>pure r) Q E s₃) E s:=by
  rw[hs]
  exact wpAny_operating (wpAny_mono h (fun r s₃ h₃=>wpAny_bind (wpAny_letTemporaryGo (wpAny_pure h₃))) fun _ _ x=>x)
 first
  | exact wpAny_pure (wpAny_bind fin)
  | exact wpAny_bind (wpAny_pure (wpAny_bind fin))
  | exact wpAny_bind fin
theorem ixG(hr:ZM k X.A):IxR X ZkS:=by
 intro value slice pins s σ H x y v u Q I rx ry h hs
 obtain⟨a,z,rfl,g,q⟩:=h
 cases rx
 exact Zfo (Zeo I g) PySem.F.slot_dict_getitem.lookup hs (ZgA (ZiK hr) I g ry fun w' s' I' rw'=>⟨z,H,I',rw',q⟩)
theorem Zk2:Zau X (.builtin "len") (fun xs H Q=>∃a kvs,xs=[V.ref a]∧H a=some (.dK kvs)∧Q (.int kvs.length) H):=Zgw
theorem Zlb(hc:X.calm=true:=by rfl):Zau X (.type "list") ZhN:=Ze2 hc
end
mutual
inductive DH (H:Hp):V→PyData→Prop where
 | non:DH H .non .none
 | bl (b:Bool):DH H (.bl b) (.bool b)
 | int (i:Int):DH H (.int i) (.int i)
 | str (s:Str):DH H (.str s) (.str s)
 | lst {a:Addr} {xs:List V} {ds:List PyData}:H a=some (.lst xs)→DHs H xs ds→DH H (.ref a) (.list ds)
 | tup {a:Addr} {xs:List V} {ds:List PyData}:H a=some (.tup xs)→DHs H xs ds→DH H (.ref a) (.tuple ds)
inductive DHs (H:Hp):List V→List PyData→Prop where
 | nil:DHs H [] []
 | cons {x:V} {d:PyData} {xs:List V} {ds:List PyData}:DH H x d→DHs H xs ds→DHs H (x::xs) (d::ds)
end
mutual
theorem DH.mono{H H':Hp}(s:ZH H H'):∀ {x:V} {d:PyData},DH H x d→DH H' x d
 | _,_,.non=>.non
 | _,_,.bl b=>.bl b
 | _,_,.int i=>.int i
 | _,_,.str z=>.str z
 | _,_,.lst h hs=>.lst (s _ _ h) (DHs.mono s hs)
 | _,_,.tup h hs=>.tup (s _ _ h) (DHs.mono s hs)
theorem DHs.mono{H H':Hp}(s:ZH H H'):∀ {xs:List V} {ds:List PyData},DHs H xs ds→DHs H' xs ds
 | _,_,.nil=>.nil
 | _,_,.cons h hs=>.cons (DH.mono s h) (DHs.mono s hs)
end
mutual
theorem DH.dv{K:PySem.W.Frag}{H:Hp}:∀ {x:V} {d:PyData},DH H x d→DV K H x d
 | _,_,.non=>.non
 | _,_,.bl b=>.bl b
 | _,_,.int i=>.int i
 | _,_,.str z=>.str z
 | _,_,.lst h hs=>.lst (SqL.of h) (DHs.dv hs)
 | _,_,.tup h hs=>.tup (SqT.of h) (DHs.dv hs)
theorem DHs.dv{K:PySem.W.Frag}{H:Hp}:∀ {xs:List V} {ds:List PyData},DHs H xs ds→DVs K H xs ds
 | _,_,.nil=>.nil
 | _,_,.cons h hs=>.cons (DH.dv h) (DHs.dv hs)
end
section
open PySem.W
end
theorem Zeu{kvs:List (Key×V)}{k:Key}{v:V}(h:ZaX kvs k=some v):(k,v)∈kvs:=by
 unfold ZaX at h
 obtain⟨p,hp,rfl⟩:=Option.map_eq_some_iff.mp h
 have h1:=List.find?_some hp
 have h2:=List.mem_of_find?_eq_some hp
 have:p.1=k:=by simpa using h1
 rw[← this];exact h2
theorem Zer{kvs:List (Key×V)}(hn:(kvs.map (·.1)).Nodup){k:Key}{v:V}(h:(k,v)∈kvs):ZaX kvs k=some v:=by
 induction kvs with
 | nil=>cases h
 | cons p r ih =>
  obtain⟨n1,n2⟩:=Qab.mp (by simpa using hn:(p.1::r.map (·.1)).Nodup)
  rcases QE.mp h with rfl|h
  ·exact Zb4 rfl
  ·rw[Zb1 fun e=>n1 (e ▸ QF (f:=(·.1)) h)]
   exact ih n2 h
end L2
namespace L2
open PySem PySem.Spec PyProof.Rows
def off(p:Addr)(H:Hp):Hp:=fun b=>if b=p then none else H b
theorem ZbS{p b:Addr}{H:Hp}{o:HO}(h:H b=some o)(n:b≠p):off p H b=some o:=by unfold off;rw[if_neg n];exact h
theorem ZjG{p:Addr}{H:Hp}:ZH (off p H) H:=fun b o h=>by
 unfold off at h
 split at h
 ·cases h
 ·exact h
theorem Zhz{p l:Addr}{H:Hp}(h:H l=none):off p H l=none:=by unfold off;split;rfl;exact h
section
variable {prog:Program} {w:World} {A:Around} {R:Result→Shared→Prop} {I:Addr} {fp wr:List Addr} {G:Array GenState→Array GenState→Prop} {n:Nat} {P:Nat→Value→Prop} {St:Nat→Shared→Prop} {K:Type} [DecidableEq K] {knd:KeyKind prog w K}
end
theorem ZW{X:Cx}{s:Stmt}:PS X s (fun _ _ _=>False):=fun pins s' σ H D I h=>h.elim
end L2
namespace L2
open PySem PySem.Spec PyProof.Rows
section
variable {prog:Program} {w:World} {A:Around} {E:Value→Shared→Prop} {s:Shared} {l:Addr} {xs:Array (Int×Tok)}
end
section
variable {X:Cx}
end
section
variable {X:Cx}
end
def ZkT(t u:TS):TS:=fun D σ H=>∃M:St→Hp→Prop,t { D with nx:=M } σ H∧∀σ' H',M σ' H'→u D σ' H'
theorem Zh2{X:Cx}{st:Stmt}{Zab:List Stmt}{t u:TS}(h1:PS X st t)(h2:PSs X Zab u):PSs X (st::Zab) (ZkT t u):=by
 intro pins s σ H D I h
 obtain⟨M,h,hm⟩:=h
 refine wpAny_execs_cons (thn (h1 pins s σ H { D with nx:=M } I h) fun f s1 q=>?_)
 cases f with
 | next =>
  obtain⟨σ',H',I',q⟩:=q
  exact h2 pins s1 σ' H' D I' (hm σ' H' q)
 | ret v=>exact q
 | brk=>exact q
 | cont=>exact q
section
variable {prog:Program} {w:World} {A:Around} {E:Value→Shared→Prop} {s:Shared} {K:Type} [DecidableEq K] {knd:KeyKind prog w K}
end
section
variable {prog:Program} {w:World} {A:Around} {E:Value→Shared→Prop} {s:Shared} {K:Type} [DecidableEq K] {knd:HeapKind prog w K}
end
def apart:List Int→Bool
 | []=>true
 | x::r=>r.all (fun y=>x != y)&&apart r
structure CompScC (N N':List Str) (o c:Scope):Prop where
 kind:c.kind=.function
 okind:o.kind=.function
 cel:∀y∈c.names,y.2=.cell→c.names.lookup y.1=some .cell
 loc:∀y∈c.names,y.2=.local→c.names.lookup y.1=some .local
 free:∀y∈c.names,y.2=.free→c.names.lookup y.1=some .free∧(o.names.lookup y.1=some .cell∨o.names.lookup y.1=some .free)
 len:N.length≤N'.length
 same:∀i∈List.range N.length,∀x∈N'[i]?,c.names.lookup x=some .local∨c.names.lookup x=some .free∨c.names.lookup x=some .cell→c.names.lookup x=some .free∧N[i]? = some x
 nd:N'.Nodup
section
variable {X:Cx} {N N':List Str} {o c:Scope}
variable {x:Str} {pos:Pos} {C:Addr} {s:Shared} {H:Hp} {fp:List Addr}
end
section
variable {prog:Program} {w:World} {A:Around} {E:Value→Shared→Prop} {s:Shared}
end
section
variable {prog:Program} {w:World} {A:Around} {R:Result→Shared→Prop} {I:Addr} {fp wr:List Addr} {G:Array GenState→Array GenState→Prop} {n:Nat} {P:Nat→Value→Prop} {St:Nat→Shared→Prop}
variable {K:Type} [DecidableEq K] {knd:KeyKind prog w K}
end
section
variable {prog:Program} {w:World} {A:Around} {E:Value→Shared→Prop} {s:Shared} {K:Type} [DecidableEq K] {knd:KeyKind prog w K}
end
end L2
namespace L2
open PySem PySem.Spec PyProof.Rows
def Has(κ:PyProof.Rows.KeyKind)(p:Keyed):Prop:=∃a,κ.keyOf p.1=some a
def kyd(κ:PyProof.Rows.KeyKind)(p:Keyed):κ.α:=(κ.keyOf p.1).getD κ.dflt
section
variable {prog:Program} {w:World} {A:Around} {E:Value→Shared→Prop} {s:Shared} {κ:PyProof.Rows.KeyKind} {k0:SortKind} {a₀:Array Keyed} {st:SortSt}
end
section
variable {κ:PyProof.Rows.KeyKind}
def kS(κ:PyProof.Rows.KeyKind)(l:List Keyed):Prop:=l.Pairwise fun p q=>κ.kle (kyd κ p) (kyd κ q)
def kLe(κ:PyProof.Rows.KeyKind)(l m:List Keyed):Prop:=∀x∈l,∀y∈m,κ.kle (kyd κ x) (kyd κ y)
structure Mg (κ:PyProof.Rows.KeyKind) (all out l m:List Keyed):Prop where
 perm:(out++(l++m)).Perm all
 so:kS κ out
 sl:kS κ l
 sm:kS κ m
 ol:kLe κ out l
 om:kLe κ out m
structure Mh (κ:PyProof.Rows.KeyKind) (all l m out:List Keyed):Prop where
 perm:((l++m)++out).Perm all
 so:kS κ out
 sl:kS κ l
 sm:kS κ m
 lo:kLe κ l out
 mo:kLe κ m out
structure LoPre (κ:PyProof.Rows.KeyKind) (a b:Array Keyed):Prop where
 ha:∀p∈a.toList,Has κ p
 hb:∀p∈b.toList,Has κ p
 sa:kS κ a.toList
 sb:kS κ b.toList
 a0:0<a.size
 b0:0<b.size
 fst:∀i,i<a.size→κ.kle (KK κ b 0) (KK κ a i)
 lst:∀i,i<b.size→κ.kle (KK κ b i) (KK κ a (a.size-1))
variable {a b out:Array Keyed} {ia ib:Nat}
variable {na nb:Nat}
end
section
variable {prog:Program} {w:World} {A:Around} {E:Value→Shared→Prop} {s:Shared} {κ:PyProof.Rows.KeyKind} {k0:SortKind} {st:SortSt} {α β γ:Type}
end
section
variable {prog:Program} {w:World} {A:Around} {E:Value→Shared→Prop} {s:Shared} {κ:PyProof.Rows.KeyKind} {k0:SortKind} {st:SortSt} {α β γ:Type} {a b out:Array Keyed} {na nb:Nat}
end
def ZjT:Nat→List (List Keyed)→List (Nat×Nat)
 | _,[]=>[]
 | o,r::rs=>(o,r.length)::ZjT (o+r.length) rs
def Zk6(p:Nat×Nat×Nat):Nat×Nat:=(p.1,p.2.1)
section
variable {prog:Program} {w:World} {A:Around} {E:Value→Shared→Prop} {s:Shared} {κ:PyProof.Rows.KeyKind} {k0:SortKind} {st:SortSt} {a₀:Array Keyed}
structure Rn (κ:PyProof.Rows.KeyKind) (k0:SortKind) (a₀:Array Keyed) (st:SortSt) (rs:List (List Keyed)) (Zab:List Keyed):Prop where
 kind:kindOf st=k0
 failed:failedOf st=none
 arr:(arrOf st).toList=rs.flatten++Zab
 perm:(arrOf st).Perm a₀
 srt:∀r∈rs,kS κ r
 ne:∀r∈rs,r≠[]
 pend:(pendingOf st).toList.map Zk6=ZjT 0 rs
end
section
variable {prog:Program} {w:World} {A:Around} {E:Value→Shared→Prop} {s:Shared} {κ:PyProof.Rows.KeyKind} {k0:SortKind} {st st0:SortSt} {a₀:Array Keyed} {α:Type} {lo:Nat}
structure Ph (k0:SortKind) (a₀:Array Keyed) (lo:Nat) (st0 st:SortSt):Prop where
 kind:kindOf st=k0
 failed:failedOf st=none
 pend:pendingOf st=pendingOf st0
 perm:(arrOf st).Perm a₀
 pre:∀k,k<lo→(arrOf st)[k]? = (arrOf st0)[k]?
end
section
variable {prog:Program} {w:World} {A:Around} {E:Value→Shared→Prop} {s:Shared} {κ:PyProof.Rows.KeyKind} {k0:SortKind} {st st0:SortSt} {a₀:Array Keyed} {lo:Nat} {rs:List (List Keyed)} {Zab:List Keyed}
end
section
variable {prog:Program} {w:World} {A:Around} {E:Value→Shared→Prop} {s:Shared} {κ:PyProof.Rows.KeyKind}
end
end L2
set_option maxHeartbeats 4000000
namespace L2
open PySem PySem.Spec PyProof.Rows
section
variable {X:Cx}
end
section
variable {prog:Program} {w:World} {A:Around} {E:Value→Shared→Prop} {s:Shared} {a kS:Addr} {vs:List Value} {kz:List Int} {keys:Array Value} {e e1:Nat} {P:PySem.Fin→Shared→Prop}
end
variable {X:Cx}
end L2
set_option maxHeartbeats 4000000
namespace L2
open PySem PySem.Spec PyProof.Rows
section
variable {X:Cx}
end
section
variable {prog:Program} {w:World} {A:Around} {E:Value→Shared→Prop} {s:Shared} {it d:Addr} {i ep:Nat} {es:Array DictEntry} {od:Obj} {ok ov:Value}
end
end L2
set_option maxHeartbeats 4000000
namespace L2
open PySem PySem.Spec PyProof.Rows
section
variable {prog:Program} {w:World} {A:Around} {E:Value→Shared→Prop} {s:Shared}
end
section
variable {X:Cx}
def ZiN(K:PySem.W.Frag):List V→Hp→VK→Prop:=fun xs H Q=>∃x d,xs=[x]∧DV K H x d∧d.canLay0=true∧d.depth≤64∧d.shown.length≤sizeLine∧d.showable=true∧Q (.str (Zko d)) H
theorem Zgb(hg:X.A.guards=some [])(hu:X.A.units+64+30<cLine):Zau X (.type "str") (ZiN X.K):=by
 intro pins s σ H xs us Q I r h
 obtain⟨x,d,rfl,hd,hcl,hdp,hsh,hs,q⟩:=h
 obtain⟨u,rfl,rx⟩:=ZbO r
 have ref:∀a,u=.ref a→Zko d=d.shown→wpAny (model X.prog X.w) X.A (call (.type "str") [u]) (EP X pins σ Q) X.xe s:=fun a e1 e2=>by
  subst e1
  obtain⟨as,rd⟩:=I.reads hd rx
  rw[e2]at q
  exact callType_new F.called_str (by decide) (F.typeCall_str_1 _) (F.newCall_str_1 _) (fun obj=>F.args_object_init_2 obj _) F.entry_str_new
   (meets_str_new (v:=.ref a) (S:=fun A R s'=>s'=s∧A=X.A.in1∧∀h' u tk,(∀b o,s.heap.get? b=some o→h'.get? b=some o)→R (.ok (.ret (.str d.shown u))) { s with heap:=h',toks:=tk }) fun prog w A R s' hq=>by
    obtain⟨rfl,rfl,hq⟩:=hq
    exact strOf_of_reads rd hs (PyData.noDict_hsm (PyData.hasDict_of_canLay d hcl)) hg (by show X.A.units+1+1+(d.depth+1)<cLine;omega) (fun _ _ e=>e) (fun h' u tk hk=>hq h' u tk hk) hsh)
   ⟨rfl,rfl,fun h' u tk hk=>⟨typeIs_str _ _ _,.str _,H,I.kept hk,⟨_,rfl⟩,q⟩⟩
 cases hd with
 | non=>cases rx;exact PySem.P.str_of_none ⟨.str _,H,I.tok _,⟨_,rfl⟩,q⟩
 | bl b=>cases rx;exact PySem.P.str_of_bool ⟨.str _,H,I.tok _,⟨_,rfl⟩,q⟩
 | int i =>
  obtain⟨t,rfl⟩:=rx
  exact PySem.P.str_of_int (of_decide_eq_true hs) ⟨.str _,H,I.tok _,⟨_,rfl⟩,q⟩
 | str z =>
  obtain⟨t,rfl⟩:=rx
  exact PySem.P.str_of_str ⟨.str _,H,I,⟨_,rfl⟩,q⟩
 | lst h1 h2=>cases rx;exact ref _ rfl rfl
 | tup h1 h2=>cases rx;exact ref _ rfl rfl
theorem ZkF(K:PySem.W.Frag){k:Nat}(hr:ZM k X.A)(h:X.K=K:=by rfl):Zau X (.type "str") (ZiN K):=by
 subst h
 exact Zgb hr.gd (by have:=hr.un;omega)
end
end L2
set_option maxHeartbeats 4000000
namespace L2
open PySem PySem.Spec PyProof.Rows
section
variable {prog:Program} {w:World} {A:Around} {E:Value→Shared→Prop} {s:Shared} {it d:Addr} {i ep:Nat} {es:Array DictEntry} {od:Obj}
end
section
variable {X:Cx}
end
@[reducible] def intKd:PyProof.Rows.KeyKind where
 α:=Int
 blt a b:=decide (a<b)
 irrefl a:=by simp
 trans a b c h1 h2:=by simp only[decide_eq_true_eq]at *;omega
 negTrans a b c h:=by
  simp only[decide_eq_true_eq]at *
  omega
 total a b h1 h2:=by simp only[decide_eq_false_iff_not]at *;omega
 keyOf v:=match v with|.int x _=>some x|_=>none
 dflt:=0
def rSrtIA(K:PySem.W.Frag):List V→Hp→VK→Prop:=fun xs H Q=>∃ (p:Addr) (ns:List Int),xs=[.ref p]∧SqL K H p (ns.map V.int)∧∀ (l:Addr) (ns':List Int),H l=none→ns'.Perm ns→ns'.Pairwise (·≤·)→Q (.ref l) (upd H l (.lst (ns'.map V.int)))
end L2
set_option maxHeartbeats 4000000
namespace L2
open PySem PySem.Spec PyProof.Rows
def txt:Value→Str
 | .str x _=>x
 | _ => ""
section
variable {prog:Program} {w:World} {A:Around} {E:Value→Shared→Prop} {s:Shared}
def Zj7(w:World)(es:Array (Int×Value)):Prop:=∀e∈es.toList,∃x u,e.2=.str x u∧e.1=ZjR w (.inr x)
def Zkh(es:Array (Int×Value)):List Str:=es.toList.map fun e=>txt e.2
structure SetAt (w:World) (L:Bool) (T:Str→Prop) (o:Obj) (es:Array (Int×Value)) (ep:Nat) (t:SetTable):Prop where
 ex:o.ExactSet
 da:o.data=.set es ep t
 el:Zj7 w es
 nd:(Zkh es).Nodup
 me:∀x,T x↔x∈Zkh es
 sz:es.size<scanBound
 ft:t.fits es.size=true
 ld:t.led=L
 pl:es.size≠0→t.plain=false
end
section
variable {prog:Program} {w:World} {A:Around} {R:Result→Shared→Prop} {I:Addr} {fp wr:List Addr} {G:Array GenState→Array GenState→Prop} {n:Nat} {P:Nat→Value→Prop} {St:Nat→Shared→Prop}
end
section
variable {prog:Program} {w:World} {A:Around} {E:Value→Shared→Prop} {s:Shared}
end
end L2
set_option maxHeartbeats 4000000
namespace L2
open PySem PySem.Spec PyProof.Rows
section
variable {prog:Program} {w:World} {A:Around} {E:Value→Shared→Prop} {s:Shared}
end
end L2
set_option maxHeartbeats 4000000
namespace L2
open PySem PySem.Spec PyProof.Rows
section
variable {prog:Program} {w:World} {A:Around} {E:Value→Shared→Prop} {s:Shared} {it S:Addr} {i n ep:Nat} {f:Value} {L:Bool} {T:Str→Prop} {o:Obj} {es:Array (Int×Value)} {t:SetTable}
end
end L2
set_option maxHeartbeats 4000000
namespace L2
open PySem PySem.Spec PyProof.Rows
section
variable {prog:Program} {w:World} {A:Around} {E:Value→Shared→Prop} {s:Shared} {it S:Addr} {i n ep:Nat} {f:Value} {L:Bool} {T:Str→Prop} {o:Obj} {es:Array (Int×Value)} {t:SetTable}
end
end L2
set_option maxHeartbeats 4000000
namespace L2
open PySem PySem.Spec PyProof.Rows
section
variable {prog:Program} {w:World} {A:Around} {I S:Addr} {ep:Nat} {L:Bool} {T:Str→Prop} {o:Obj} {es:Array (Int×Value)} {t:SetTable}
end
end L2
set_option maxHeartbeats 4000000
namespace L2
open PySem PySem.Spec PyProof.Rows
section
variable {prog:Program} {w:World} {A:Around} {E:Value→Shared→Prop} {s:Shared} {S:Addr} {ep:Nat} {T:Str→Prop} {o:Obj} {es:Array (Int×Value)} {t:SetTable}
end
end L2
set_option maxHeartbeats 4000000
namespace L2
open PySem PySem.Spec PyProof.Rows
section
variable {prog:Program} {w:World} {A:Around} {E:Value→Shared→Prop} {s:Shared} {S:Addr} {ep:Nat} {T:Str→Prop} {o:Obj} {es:Array (Int×Value)} {t:SetTable}
end
end L2
set_option maxHeartbeats 4000000
namespace L2
open PySem PySem.Spec PyProof.Rows
end L2
namespace L2
open PySem PyProof.Rows
section
variable {prog:Program} {w:World} {A:Around} {E:Value→Shared→Prop} {h:Heap} {g:Array GenState} {d:Drawn} {t:Nat} {os:OsState}
variable {nm q:Str} {C N:Addr} {bs bm bmB:List Value} {hdct:Bool} {sn:List Str} {sub:List Value} {ab:Bool} {col:Option Bool} {dd:Option Addr} {k0 k1 k2 k3 k5:Option Value} {B newId initId:String}
end
section
variable {X:Cx} {xe:Value→Shared→Prop}
theorem PSs.wish{st:List Stmt}{t:TS}(h:PSs (X.wish xe) st t)(hx:∀e s,xe e s→X.xe e s):PSs X st t:=fun pins s σ H D I hw=>wpAny_mono (h pins s σ H D (I.wish _) hw) (fun _ _ q=>q.unwish) hx
end
def Zht(fr:List Addr)(e:Addr)(h h':Heap):Prop:=(∀b o,h.get? b=some o→b≠e→b ∉ fr→h'.get? b=some o)∧∀b o,h.get? b=some o→b≠e→∃sl,h'.get? b=some { o with slots:=sl }
def Zaw(B:Heap)(fr:List Addr)(h:Heap):Prop:=(∀b o,B.get? b=some o→b ∉ fr→h.get? b=some o)∧∀b o,B.get? b=some o→∃sl,h.get? b=some { o with slots:=sl }
theorem Zaw.keep{B:Heap}{fr:List Addr}{e:Addr}{h h':Heap}(a:Zaw B fr h)(he:B.get? e=none)(k:Zht fr e h h'):Zaw B fr h' :=
 ⟨fun b o hb n=>k.1 b o (a.1 b o hb n) (fun z=>by rw[z,he]at hb;cases hb) n,fun b o hb=>by
  obtain⟨sl,h1⟩:=a.2 b o hb
  obtain⟨sl2,h2⟩:=k.2 b _ h1 (fun z=>by rw[z,he]at hb;cases hb)
  exact⟨sl2,h2⟩⟩
structure Zaf (NB:Addr→Prop) (h:Heap) (e:Addr) (cls:Value) (dd:Option Addr) (fl:Value):Prop where
 ex:∃oe vs T oT ts,h.get? e=some oe∧oe.cls=cls∧oe.dict=dd∧oe.data=.fields vs∧vs[1]? = some (.ref T)∧T≠e∧h.get? T=some oT∧oT.data=.fields ts∧ts[3]? = some fl∧NB T
structure ZcK (h:Heap) (e:Addr) (cls:Value) (dd:Option Addr):Prop where
 ex:∃oe vs,h.get? e=some oe∧oe.cls=cls∧oe.dict=dd∧oe.data=.fields vs∧vs[1]? = some .none
section
variable {M:Model} {A:Around} {E:Value→Shared→Prop} {s:Shared} {env:Env} {outer:List Env} {base:Heap} {L e:Addr} {cls:Value} {dd:Option Addr} {Q:Unit→Shared→Prop}
theorem ZcS(o:Obj)(f:Array Value→Array Value):(Obj.mapFields f o).dict=o.dict:=by
 unfold Obj.mapFields;split<;>rfl
theorem Zdv{oe:Obj}{vs:Array Value}{head:Value}{hadNext:Bool}(hfr:A.frames=some (env::outer))(hl:s.heap.FunFrames base (env::outer))(hf:env.frame=some L)
  (he:s.heap.get? e=some oe) (hd:oe.data=.fields vs) (hsz:1<vs.size) (hene:e ∉ (env::outer).filterMap (·.frame))
  (h:∀h',Zht ((env::outer).filterMap (·.frame)) e s.heap h'→(∀NB:Addr→Prop,(∀T,s.heap.objs.size≤T→NB T)→Zaf NB h' e oe.cls oe.dict (rawInt L))→Q () { s with heap:=h' }) :
  wpAny M A (do let a ← frameOf env;let pl ← entryPlaceOf L hadNext;let b ← EntryCells.newEntry head a .none (rawInt L) .none pl;setField (.ref e) 1 b) Q E s:=by
 refine wpAny_bind (wpAny_frameOf_fun hfr hl hf fun h1 hs1=>?_)
 refine wpAny_bind (wpAny_entryPlaceOf fun pl hpl=>?_)
 unfold EntryCells.newEntry newFields
 refine wpAny_bind (wpAny_newObj_type ?_ (hpl.sizeOk5 _ _ _ _ _))
 have he1:h1.get? e=some oe:=(hs1.2.1 e hene).trans he
 have hT:h1.objs.size≠e:=Qad (Qd he1)
 generalize htb:({ cls:=.type "traceback",dict:=none,data:=.fields ([head,.ref L,.none,rawInt L,.none]++(if pl.isEmpty then List.replicate 6 Value.none else pl)).toArray }:Obj)=tb
 have he2:(h1.push tb).get? e=some oe:=Qc _ he1
 have hd3:=Obj.data_mapFields hd (·.setIfInBounds 1 (Value.ref h1.objs.size))
 have he3:=QD (Obj.mapFields (·.setIfInBounds 1 (Value.ref h1.objs.size))) he2 (Obj.isFreed_of_fields hd3)
 have ot:∀b,b≠e→((h1.push tb).update e (Obj.mapFields (·.setIfInBounds 1 (Value.ref h1.objs.size)))).get? b=(h1.push tb).get? b:=fun b hb=>QG _ _ (Ne.symm hb)
 refine wpAny_setField he2 hd hsz (h _ ⟨fun b o hb nb hm=>?_,fun b o hb nb=>?_⟩ (fun B hB=>⟨_,_,h1.objs.size,tb,_,he3,Obj.cls_mapFields _ _,ZcS _ _,hd3,by simp[hsz],hT,(ot _ hT).trans (Qy h1 (by rw[← htb];rfl)),by rw[← htb],?_,?_⟩))
 ·rw[ot b nb];exact Qc _ ((hs1.2.1 b hm).trans hb)
 ·obtain⟨sl,h2⟩:=hs1.2.2 b o hb
  exact⟨sl,by rw[ot b nb];exact Qc _ h2⟩
 ·first|(simp;done)|(rcases hpl with rfl|⟨_,_,_,_,_,_,_,rfl⟩<;>simp)
 ·exact hB _ (Nat.le_of_eq hs1.1.symm)
theorem ZhD{NB:Addr→Prop}(hNB:∀T,s.heap.objs.size≤T→NB T)(hfr:A.frames=some (env::outer))(hl:s.heap.FunFrames base (env::outer))(hf:env.frame=some L)(hx:ZcK s.heap e cls dd)
  (h:∀h',Zht ((env::outer).filterMap (·.frame)) e s.heap h'→Zaf NB h' e cls dd (rawInt L)→Q () { s with heap:=h' }):wpAny M A (noteFrame (.ref e) env) Q E s:=by
 obtain⟨oe,vs,he,rfl,rfl,hd,h1⟩:=hx.ex
 have hene:e ∉ (env::outer).filterMap (·.frame):=fun hm=>by
  obtain⟨_,o,ho,hnf⟩:=hl.mem hm
  rw[he]at ho;cases ho;exact hnf vs hd
 unfold noteFrame
 simp only[hf]
 refine wpAny_bind (wpAny_field he hd h1 ?_)
 rw[if_neg (by decide)]
 exact Zdv hfr hl hf he hd (QR.mp h1).1 hene fun h' k x=>h h' k (x NB hNB)
theorem ZhX{B:Heap}{NB:Addr→Prop}(hNB:∀T,s.heap.objs.size≤T→NB T)(hB:∀T,NB T→B.get? T=none)(hfr:A.frames=some (env::outer))(hl:s.heap.FunFrames base (env::outer))(hf:env.frame=some L)(hn:B.get? e=none)(hS:Zaw B ((env::outer).filterMap (·.frame)) s.heap)(hx:Zaf NB s.heap e cls dd .none)
  (h:∀h',Zaw B ((env::outer).filterMap (·.frame)) h'→h'.FunFrames base (env::outer)→Zaf NB h' e cls dd (rawInt L)→Q () { s with heap:=h' }):wpAny M A (noteFrame (.ref e) env) Q E s:=by
 obtain⟨oe,vs,T,oT,ts,he,rfl,rfl,hd,h1,hTe,hT,hdT,h3,hNT⟩:=hx.ex
 have hBT:=hB T hNT
 have hene:e ∉ (env::outer).filterMap (·.frame):=fun hm=>by
  obtain⟨_,o,ho,hnf⟩:=hl.mem hm
  rw[he]at ho;cases ho;exact hnf vs hd
 unfold noteFrame
 simp only[hf]
 refine wpAny_bind (wpAny_field he hd h1 ?_)
 rw[if_pos (show (Value.ref T != Value.none)=true from by simp)]
 refine wpAny_bind (wpAny_field hT hdT h3 ?_)
 rw[if_neg (show ¬ ((Value.none == rawInt L)=true) from by simp[rawInt])]
 refine wpAny_bind (wpAny_setField hT hdT (QR.mp h3).1 ?_)
 have ot:∀b,b≠T→(s.heap.update T (Obj.mapFields (·.setIfInBounds 3 Value.none))).get? b=s.heap.get? b:=fun b hb=>QG _ _ (Ne.symm hb)
 have nT:∀b o,B.get? b=some o→b≠T:=fun b o hb z=>by rw[z,hBT]at hb;cases hb
 have hS2:Zaw B ((env::outer).filterMap (·.frame)) (s.heap.update T (Obj.mapFields (·.setIfInBounds 3 Value.none))):=⟨fun b o hb m=>(ot b (nT b o hb)).trans (hS.1 b o hb m),fun b o hb=>by
  obtain⟨sl,h2⟩:=hS.2 b o hb
  exact⟨sl,(ot b (nT b o hb)).trans h2⟩⟩
 have nf:∀b o,s.heap.get? b=some o→(∀vs,o.data≠.fields vs)→b≠T:=fun b o hb hnf z=>by rw[z,hT]at hb;cases hb;exact hnf ts hdT
 have hl2:(s.heap.update T (Obj.mapFields (·.setIfInBounds 3 Value.none))).FunFrames base (env::outer):=hl.of_keeps fun b o hb hnf=>⟨o,(ot b (nf b o hb hnf)).trans hb,rfl⟩
 refine Zdv (s:={ s with heap:=s.heap.update T (Obj.mapFields (·.setIfInBounds 3 Value.none)) }) hfr hl2 hf ((ot e (Ne.symm hTe)).trans he) hd (QR.mp h1).1 hene fun h' k x=>h h' (hS2.keep hn k) ?_ (x NB fun T hT=>hNB T (by rw[Heap.size_update]at hT;exact hT))
 exact hl2.of_keeps fun b o hb hnf=>by
  obtain⟨sl,h2⟩:=k.2 b o hb (fun z=>by rw[z]at hb;rw[(ot e (Ne.symm hTe)).trans he]at hb;cases hb;exact hnf vs hd)
  exact⟨_,h2,rfl⟩
theorem Zff{NB:Addr→Prop}(hf:env.frame=some L)(hx:Zaf NB s.heap e cls dd (rawInt L))(h:Q () s):wpAny M A (noteFrame (.ref e) env) Q E s:=by
 obtain⟨oe,vs,T,oT,ts,he,rfl,rfl,hd,h1,hTe,hT,hdT,h3,hBT⟩:=hx.ex
 unfold noteFrame
 simp only[hf]
 refine wpAny_bind (wpAny_field he hd h1 ?_)
 rw[if_pos (show (Value.ref T != Value.none)=true from by simp)]
 refine wpAny_bind (wpAny_field hT hdT h3 ?_)
 rw[if_pos (show (rawInt L == rawInt L)=true from by simp)]
 exact wpAny_pure h
theorem Zbk{B:Heap}{NB:Addr→Prop}(hB:∀T,NB T→B.get? T=none){fr:List Addr}{fl:Value}{F:Option Addr}{l:List Env}(hl:s.heap.FunFrames base l)(hS:Zaw B fr s.heap)(hx:Zaf NB s.heap e cls dd fl)
  (h:∀h',Zaw B fr h'→h'.FunFrames base l→Zaf NB h' e cls dd (F.elim .none fun f=>rawInt f)→Q () { s with heap:=h' }):wpAny M A (setFlight (.ref e) F) Q E s:=by
 obtain⟨oe,vs,T,oT,ts,he,rfl,rfl,hd,h1,hTe,hT,hdT,h3,hNT⟩:=hx.ex
 have hBT:=hB T hNT
 have h3s:3<ts.size:=(QR.mp h3).1
 have ot:∀b,b≠T→(s.heap.update T (Obj.mapFields (·.setIfInBounds 3 (F.elim Value.none fun f=>rawInt f)))).get? b=s.heap.get? b:=fun b hb=>QG _ _ (Ne.symm hb)
 have nT:∀b o,B.get? b=some o→b≠T:=fun b o hb z=>by rw[z,hBT]at hb;cases hb
 have nf:∀b o,s.heap.get? b=some o→(∀vs,o.data≠.fields vs)→b≠T:=fun b o hb hnf z=>by rw[z,hT]at hb;cases hb;exact hnf ts hdT
 unfold setFlight
 refine wpAny_bind (wpAny_field he hd h1 ?_)
 rw[if_pos (show (Value.ref T != Value.none)=true from by simp)]
 refine wpAny_setField hT hdT h3s (h _ ⟨fun b o hb m=>(ot b (nT b o hb)).trans (hS.1 b o hb m),fun b o hb=>?_⟩ (hl.of_keeps fun b o hb hnf=>⟨o,(ot b (nf b o hb hnf)).trans hb,rfl⟩) ⟨oe,vs,T,_,_,(ot e (Ne.symm hTe)).trans he,rfl,rfl,hd,h1,hTe,QD _ hT (Obj.isFreed_of_fields (Obj.data_mapFields hdT _)),Obj.data_mapFields hdT _,by simp[h3s],hNT⟩)
 obtain⟨sl,h2⟩:=hS.2 b o hb
 exact⟨sl,(ot b (nT b o hb)).trans h2⟩
end
structure Zfi (B base:Heap) (NB:Addr→Prop) (env:Env) (outer:List Env) (L e:Addr) (cls:Value) (dd:Option Addr) (h:Heap):Prop where
 st:Zaw B ((env::outer).filterMap (·.frame)) h
 fun_:h.FunFrames base (env::outer)
 new:B.get? e=none
 nb:∀T,h.objs.size≤T→NB T
 hB:∀T,NB T→B.get? T=none
 ex:ZcK h e cls dd∨Zaf NB h e cls dd .none∨Zaf NB h e cls dd (rawInt L)
section
variable {M:Model} {A:Around} {E:Value→Shared→Prop} {s:Shared} {env:Env} {outer:List Env} {B base:Heap} {NB:Addr→Prop} {L e:Addr} {cls:Value} {dd:Option Addr} {Q:Unit→Shared→Prop}
theorem Zfi.noted(hx:Zfi B base NB env outer L e cls dd s.heap)(hfr:A.frames=some (env::outer))(hf:env.frame=some L)
  (h:∀h',Zaw B ((env::outer).filterMap (·.frame)) h'→h'.FunFrames base (env::outer)→Zaf NB h' e cls dd (rawInt L)→Q () { s with heap:=h' }):wpAny M A (noteFrame (.ref e) env) Q E s:=by
 rcases hx.ex with x|x|x
 ·refine ZhD hx.nb hfr hx.fun_ hf x fun h' k x'=>h h' (hx.st.keep hx.new k) ?_ x'
  obtain⟨oe,vs,he,_,_,hd,_⟩:=x.ex
  refine hx.fun_.of_keeps fun b o hb hnf=>?_
  obtain⟨sl,h2⟩:=k.2 b o hb (fun z=>by rw[z,he]at hb;cases hb;exact hnf vs hd)
  exact⟨_,h2,rfl⟩
 ·exact ZhX hx.nb hx.hB hfr hx.fun_ hf hx.new hx.st x h
 ·exact Zff hf x (h s.heap hx.st hx.fun_ x)
theorem Zfi.leaves(hx:Zfi B base NB env outer L e cls dd s.heap)(hfr:A.frames=some (env::outer))(hf:env.frame=some L)
  (h:∀h',Zaw B ((env::outer).filterMap (·.frame)) h'→h'.FunFrames base (env::outer)→Zaf NB h' e cls dd .none→Q () { s with heap:=h' }):wpAny M A (leaving env (.ref e)) Q E s:=by
 unfold leaving
 refine wpAny_bind (hx.noted hfr hf fun h1 a b c=>?_)
 exact Zbk hx.hB (s:={ s with heap:=h1 }) (F:=none) b a c h
theorem Zfi.passes(hx:Zfi B base NB env outer L e cls dd s.heap)(hfr:A.frames=some (env::outer))(hf:env.frame=some L)
  (h:∀h',Zaw B ((env::outer).filterMap (·.frame)) h'→h'.FunFrames base (env::outer)→Zaf NB h' e cls dd (rawInt L)→E (.ref e) { s with heap:=h' }):notedBy M A env (cameBackBy M A env E) (.ref e) s:=by
 unfold notedBy
 refine hx.noted hfr hf fun h1 a b c=>?_
 unfold cameBackBy
 obtain⟨oe,vs,T,oT,ts,he,e1,e2,hd,h1',_⟩:=c.ex
 refine wpAny_bind (wpAny_field he hd h1' ?_)
 rw[if_neg (show ¬ ((Value.ref T == Value.none)=true) from by simp)]
 rw[hf]
 exact Zbk hx.hB (s:={ s with heap:=h1 }) (F:=some L) b a c h
end
open PySem.W (hideAll hideAll_none hideAll_get hideAll_size of_hideAll)
def NB(lo:Nat)(H:Hp)(ps:List Addr)(T:Addr):Prop:=lo≤T∧H T=none∧T ∉ ps
def CX1(P:Program)(w:World):CXT:=fun outer H s E ev s'=>∃ (e:Addr) (cls:Value) (dd:Option Addr) (H':Hp),ev=.ref e∧s.heap.objs.size≤e∧H' e=none∧Zaf (NB s.heap.objs.size H' []) s'.heap e cls dd .none ∧
 s'.os=s.os∧AllBare s'.gens∧Un (frs outer) [] H H' s.heap s'.heap∧HOk P w H' s'.heap∧E cls dd H'
def XE(X:Cx)(E:St→XK):Value→Shared→Prop:=fun ev s'=>∃ (e:Addr) (cls:Value) (dd:Option Addr) (pins:List (Addr×Obj)) (σ:St) (H':Hp),ev=.ref e∧X.s₀.heap.objs.size≤e∧e≠X.env.locals∧(∀x c,X.env.cells.lookup x=some c→c≠e)∧H' e=none∧Inv X pins σ H' s'∧(∀p∈X.pn++pins,p.1≠e) ∧
 (ZcK s'.heap e cls dd∨Zaf (NB X.s₀.heap.objs.size H' ((X.pn++pins).map (·.1))) s'.heap e cls dd .none∨Zaf (NB X.s₀.heap.objs.size H' ((X.pn++pins).map (·.1))) s'.heap e cls dd (rawInt X.env.locals))∧E σ cls dd H'
section
variable {X:Cx} {pins:List (Addr×Obj)} {σ:St} {H:Hp} {s s':Shared} {E:St→XK}
theorem Inv.refused(I:Inv X pins σ H s){ev:Value}(h:CX1 X.prog X.w X.stack H s (E σ) ev s'):XE X E ev s':=by
 obtain⟨e,cls,dd,H',rfl,he,hn,hx,os,bare,un,hok,q⟩:=h
 have hsz:X.s₀.heap.objs.size≤s.heap.objs.size:=I.sz
 have I':Inv X pins σ H' s':=by
  obtain⟨hh,g,d,t,os'⟩:=s'
  obtain rfl:os'=s.os:=os
  exact I.call (h':=hh) (g':=g) (d':=d) (t':=t) (ch:=[]) un hok bare (fun b z=>absurd z (by simp))
 have old:∀a o,s.heap.get? a=some o→a≠e:=fun a o ha z=>by have:=Qd ha;rw[z]at this;exact absurd this (Nat.not_lt.mpr he)
 refine⟨e,cls,dd,pins,σ,H',rfl,Qq hsz he,fun z=>?_,fun x c hc z=>?_,hn,I',fun p hp z=>?_,.inr (.inl ?_),q⟩
 ·obtain⟨m,⟨o,_,_,ho,_⟩,_⟩:=I.loc
  exact old _ _ ho z.symm
 ·obtain⟨v,o,ho,_⟩:=I.cell x c hc
  exact old _ _ ho z
 ·exact old _ _ (I.pin p hp).1 z
 ·obtain⟨oe,vs,T,oT,ts,a1,a2,a3,a4,a5,a6,a7,a8,a9,a10⟩:=hx.ex
  refine⟨oe,vs,T,oT,ts,a1,a2,a3,a4,a5,a6,a7,a8,a9,Qq hsz a10.1,a10.2.1,fun hm=>?_⟩
  obtain⟨p,hp,ep⟩:=QM.mp hm
  have:=Qd (I.pin p hp).1
  rw[ep]at this
  exact absurd this (Nat.not_lt.mpr a10.1)
theorem Inv.fly{e:Addr}{cls:Value}{dd:Option Addr}(I:Inv X pins σ H s)(hst:X.stack=X.env::X.outer∧X.env.frame=some X.env.locals)(he:X.s₀.heap.objs.size≤e)(hel:e≠X.env.locals)(hec:∀x c,X.env.cells.lookup x=some c→c≠e)(hn:H e=none)(hp:∀p∈X.pn++pins,p.1≠e)
  (hx:ZcK s.heap e cls dd∨Zaf (NB X.s₀.heap.objs.size H ((X.pn++pins).map (·.1))) s.heap e cls dd .none∨Zaf (NB X.s₀.heap.objs.size H ((X.pn++pins).map (·.1))) s.heap e cls dd (rawInt X.env.locals)) :
  ∃ (B:Heap) (M:Addr→Prop),Zfi B X.base M X.env X.outer X.env.locals e cls dd s.heap∧(∀T,M T→NB X.s₀.heap.objs.size H ((X.pn++pins).map (·.1)) T)∧∀h',Zaw B ((X.env::X.outer).filterMap (·.frame)) h'→Inv X pins σ H { s with heap:=h' }:=by
 have hsz:X.s₀.heap.objs.size≤s.heap.objs.size:=I.sz
 obtain⟨ch,hch1,hch2⟩:∃ch:List Addr,(e∈ch∧∀T∈ch,T=e∨(NB X.s₀.heap.objs.size H ((X.pn++pins).map (·.1)) T∧∃o vs,s.heap.get? T=some o∧o.data=.fields vs)) ∧
   (ZcK s.heap e cls dd∨Zaf (fun T=>NB X.s₀.heap.objs.size H ((X.pn++pins).map (·.1)) T∧(hideAll s.heap ch).get? T=none) s.heap e cls dd .none∨Zaf (fun T=>NB X.s₀.heap.objs.size H ((X.pn++pins).map (·.1)) T∧(hideAll s.heap ch).get? T=none) s.heap e cls dd (rawInt X.env.locals)):=by
  rcases hx with x|x|x
  ·exact⟨[e],⟨List.mem_singleton.mpr rfl,fun T hT=>.inl (Qj.mp hT)⟩,.inl x⟩
  ·obtain⟨oe,vs,T,oT,ts,a1,a2,a3,a4,a5,a6,a7,a8,a9,a10⟩:=x.ex
   refine⟨[e,T],⟨by simp,fun T' hT=>?_⟩,.inr (.inl ⟨oe,vs,T,oT,ts,a1,a2,a3,a4,a5,a6,a7,a8,a9,a10,hideAll_none _ (by simp)⟩)⟩
   simp only[List.mem_cons,List.not_mem_nil,or_false]at hT
   rcases hT with z|z
   ·exact .inl z
   ·rw[z];exact .inr ⟨a10,oT,ts,a7,a8⟩
  ·obtain⟨oe,vs,T,oT,ts,a1,a2,a3,a4,a5,a6,a7,a8,a9,a10⟩:=x.ex
   refine⟨[e,T],⟨by simp,fun T' hT=>?_⟩,.inr (.inr ⟨oe,vs,T,oT,ts,a1,a2,a3,a4,a5,a6,a7,a8,a9,a10,hideAll_none _ (by simp)⟩)⟩
   simp only[List.mem_cons,List.not_mem_nil,or_false]at hT
   rcases hT with z|z
   ·exact .inl z
   ·rw[z];exact .inr ⟨a10,oT,ts,a7,a8⟩
 have hfree:∀T∈ch,H T=none:=fun T hT=>by
  rcases hch1.2 T hT with z|z
  ·rw[z];exact hn
  ·exact z.1.2.1
 have big:∀T,s.heap.objs.size≤T→NB X.s₀.heap.objs.size H ((X.pn++pins).map (·.1)) T:=fun T hT=>by
  refine⟨Qq hsz hT,I.hok.fresh hT,fun hm=>?_⟩
  obtain⟨p,hp',ep⟩:=QM.mp hm
  have:=Qd (I.pin p hp').1
  rw[ep]at this
  exact absurd this (Nat.not_lt.mpr hT)
 refine⟨hideAll s.heap ch,fun T=>NB X.s₀.heap.objs.size H ((X.pn++pins).map (·.1)) T∧(hideAll s.heap ch).get? T=none,⟨⟨fun b o hb _=>of_hideAll _ hb,fun b o hb=>⟨o.slots,of_hideAll _ hb⟩⟩,?_,hideAll_none _ hch1.1,fun T hT=>⟨big T hT,Heap.get?_none_of_le (by rw[hideAll_size];exact hT)⟩,fun T hT=>hT.2,hch2⟩,fun T hT=>hT.1,fun h' hs=>?_⟩
 ·rw[← hst.1];exact I.stack
 ·refine I.call' (s':={ s with heap:=h' }) (ch:=ch) rfl ⟨fun b o hb _ hf hc=>hs.1 b o (hideAll_get _ hb hc) ?_,fun b o hb _ _ hc=>hs.2 b o (hideAll_get _ hb hc),fun b o _ hb _=>hb,fun b o hb hc=>?_,fun _ _ z=>z,fun _ _ _ z=>z,fun b ps z=>⟨#[],by rw[Array.append_empty];exact z⟩⟩ ?_ I.bare fun b hb=>?_
  ·rw[hst.1]at hf;exact hf
  ·obtain⟨sl,h2⟩:=hs.2 b o (hideAll_get _ hb hc)
   exact⟨_,h2⟩
  ·intro a o ha
   refine(I.hok a o ha).stay (fun c u hc hu=>hs.1 c u (hideAll_get _ hu fun hm=>?_) fun hm=>?_) (fun _ z=>z) fun _ _ z=>z
   ·have:=hfree c hm
    rcases hc with rfl|hc
    ·rw[this]at ha;cases ha
    ·rw[this]at hc;cases hc
   ·have:H c=none:=I.stkFree c (by rw[hst.1];exact hm)
    rcases hc with rfl|hc
    ·rw[this]at ha;cases ha
    ·rw[this]at hc;cases hc
  ·rcases hch1.2 b hb with rfl|⟨z,o,vs,hz,hd⟩
   ·exact⟨.inr he,hel,hec,hp⟩
   ·refine⟨.inr z.1,fun y=>?_,fun x c hc y=>?_,fun p hp' y=>z.2.2 (List.mem_map.mpr ⟨p,hp',y⟩)⟩
    ·obtain⟨m,⟨o',es,ep,ho,hd',_⟩,_⟩:=I.loc
     rw[← y,hz]at ho;cases ho;rw[hd]at hd';cases hd'
    ·obtain⟨v,o',ho,hd'⟩:=I.cell x c hc
     rw[y,hz]at ho;cases ho;rw[hd]at hd';cases hd'
end
theorem Zaf.mono{M N:Addr→Prop}{h:Heap}{e:Addr}{cls:Value}{dd:Option Addr}{fl:Value}(x:Zaf M h e cls dd fl)(k:∀T,M T→N T):Zaf N h e cls dd fl:=by
 obtain⟨oe,vs,T,oT,ts,a1,a2,a3,a4,a5,a6,a7,a8,a9,a10⟩:=x.ex
 exact⟨oe,vs,T,oT,ts,a1,a2,a3,a4,a5,a6,a7,a8,a9,k T a10⟩
section
variable {X:Cx} {E:St→XK}
theorem Zla(ok:X.A.frames=some X.stack)(hst:X.stack=X.env::X.outer∧X.env.frame=some X.env.locals):PassesOwn (model X.prog X.w) X.A X.env (XE X E):=fun ev s h=>by
 obtain⟨e,cls,dd,pins,σ,H,rfl,he,hel,hec,hn,I,hp,hx,q⟩:=h
 obtain⟨B,M,fl,hM,hI⟩:=I.fly hst he hel hec hn hp hx
 refine fl.passes (by rw[ok,hst.1]) hst.2 fun h' a b c=>?_
 exact⟨e,cls,dd,pins,σ,H,rfl,he,hel,hec,hn,hI h' a,hp,.inr (.inr (c.mono hM)),q⟩
end
section
variable {X:Cx} {E:St→XK} {k:Nat} {f:Addr} {fd:FuncData} {ps:List Str} {sp:Sp} {t:TA}
theorem Zll{pins:List (Addr×Obj)}{σ:St}{H:Hp}{s:Shared}{Q:VK}{us:List Value}{vs:List V}(F:ZaA X.prog X.w X.K X.mg X.base (CX1 X.prog X.w) k f fd ps sp)(hr:ZM k X.A)(hb:Z7 X.K fd ps [])(hx:∀ev s',XE X E ev s'→X.xe ev s')
  (I:Inv X pins σ H s) (r:Zv vs us) (h:sp vs H Q (E σ)):wpAny (model X.prog X.w) X.A (call (.ref f) us) (EP X pins σ Q) X.xe s:=by
 have hl:us.length=ps.length:=by rw[← r.length];exact F.len _ _ _ _ h
 have hb':BindsTo s fd ⟨us,[]⟩ (ps.zip us):=by have:=hb s us I.kIn (by rw[QU];exact hl);rwa [QU]at this
 refine wpAny_call (codeAny_mono (F.run X.A X.stack s H ⟨us,[]⟩ us vs Q (E σ) hr I.env0 hb' r h) fun r s' hq=>?_)
 cases r with
 | error e=>exact hx e s' (I.refused hq)
 | ok fl =>
  cases fl with
  | ret u=>exact I.after hq
  | next=>exact False.elim hq
  | brk=>exact False.elim hq
  | cont=>exact False.elim hq
def ZgF(sp:Sp)(E:St→XK)(t:TA):TE:=fun σ H Q=>t σ H fun vs H1=>sp vs H1 Q (E σ)
end
section
variable {P:Program} {w:World} {K:PySem.W.Frag} {mg:Str→Option Value} {base:Heap}
theorem XE.leaves{N:List Str}{qual:Str}{scope:Scope}{f:Addr}{cd:Value}{A:Around}{outer:List Env}{s:Shared}{H:Hp}{E:XK}{ev:Value}{s':Shared}
  (h:XE (ZbJ (CX1 P w) P w K mg base N qual scope f cd A outer s H E) (fun _=>E) ev s'):(ZbJ (CX1 P w) P w K mg base N qual scope f cd A outer s H E).xe ev s':=by
 obtain⟨e,cls,dd,pins,σ,H',rfl,he,hel,hec,hn,I,hp,hx,q⟩:=h
 obtain⟨B,M,fl,hM,hI⟩:=I.fly ⟨rfl,rfl⟩ he hel hec hn hp hx
 refine fl.leaves I.ok.frames rfl fun h' a b c=>?_
 have J:=hI h' a
 exact⟨e,cls,dd,H',rfl,he,hn,c.mono fun T hT=>⟨(hM T hT).1,(hM T hT).2.1,by simp⟩,J.os,J.bare,J.base,J.hok,q⟩
theorem Fun.ok1{x qual:Str}{st:Stmt}{f:Addr}{fd:FuncData}{N ps:List Str}{k:Nat}{sp:Sp}(F:Fun K x qual st f fd)(S:Zo N ps (Zd st))(len:∀vs H Q E,sp vs H Q E→vs.length=ps.length)
  (hbody:∀ (cdv:Value) (A:Around) (outer:List Env) (s:Shared) (H:Hp) (vs:List V) (Q:VK) (E:XK),ZM k (A.deeper (envOfC qual (Zd st) s.heap.objs.size f cdv))→sp vs H Q E →
   ∃t,PSs ((ZbJ (CX1 P w) P w K mg base N qual (Zd st) f cdv A outer s H E).wish (XE (ZbJ (CX1 P w) P w K mg base N qual (Zd st) f cdv A outer s H E) (fun _=>E))) (Zm st) t∧t { nx:=fun _ H'=>Q .non H',rt:=Q } (ZaR N vs) H):ZaA P w K mg base (CX1 P w) (k+1) f fd ps sp:=by
 obtain⟨oc,od,kV,doc,pm,an,cdv,ct,osl,rfl,lk,hcd⟩:=F.ex
 refine ZiO lk hcd S len fun A outer s H vs Q E hr hsp=>?_
 obtain⟨t,h,q⟩:=hbody cdv A outer s H vs Q E hr hsp
 exact⟨t,h.wish fun e s h=>XE.leaves h,q⟩
end
section
variable {M:Model} {A:Around} {E:Value→Shared→Prop} {h:Heap} {g:Array GenState} {d:Drawn} {t:Nat} {os:OsState}
variable {nm q:Str} {C N:Addr} {bs bm:List Value} {hdct:Bool} {sn:List Str} {sub:List Value} {ab:Bool} {col:Option Bool} {dd:Option Addr} {k0 k1 k2 k3 k5:Option Value} {newId:String}
variable {nm' q':Str} {C' N':Addr} {bs' bm':List Value} {hdct':Bool} {sn':List Str} {sub':List Value} {ab':Bool} {col':Option Bool} {dd':Option Addr} {k0' k1' k2' k3' k5':Option Value} {newId':String}
theorem Zeh{e:Addr}{oe:Obj}{b:Bool}{Q:Bool→Shared→Prop}(hC:h.get? C=some (excClassObj nm q C N bs bm hdct sn sub ab col dd k0 k1 k2 k3 k5 newId))(hB:h.get? C'=some (excClassObj nm' q' C' N' bs' bm' hdct' sn' sub' ab' col' dd' k0' k1' k2' k3' k5' newId'))
  (he:h.get? e=some oe) (hcls:oe.cls=.ref C) (hexc:bm'.contains (.type "BaseException")=true) (hsub:(Value.ref C::bm).contains (.ref C')=b) (hq:Q b ⟨h,g,d,t,os⟩):wpAny M A (excMatches (.ref e) (.ref C')) Q E ⟨h,g,d,t,os⟩:=by
 have hcB:(Value.ref C'::bm').contains (.type "BaseException")=true:=by rw[Qv,hexc,Qaf]
 have f:=tc_notTuple
 unfold excMatches
 repeat (first|(with_reducible refine wpAny_loadPart_at he ?_;rw[hcls])|with_reducible refine wpAny_loadPart_at hB ?_|(with_reducible refine wpAny_isSubtype_exc hB ?_;rw[hcB])|(with_reducible refine wpAny_isSubtype_exc hC ?_;rw[hsub])|wp_step)
 cases b<;>(wp_walk;exact hq)
end
section
variable {prog:Program} {w:World} {A:Around} {E:Value→Shared→Prop} {s:Shared} {env:Env}
theorem Zf9{e:Addr}{t:Expr}{n:Str}{b₀:Stmt}{suite:List Stmt}{pos:Pos}{Zab:List ExceptHandler}{Q:Flow→Shared→Prop}
  (h:wpAny (model prog w) (A.mark (some (.ref e))) (eval t env) (fun c s₁=>wpAny (model prog w) (A.mark (some (.ref e))) (excMatches (.ref e) c) (fun b s₂=>b=true ∧
   wpAny (model prog w) (A.mark (some (.ref e))) (setFlight (.ref e) none) (fun _ s₃=>wpAny (model prog w) (A.mark (some (.ref e))) (storeName env n (.ref e)) (fun _ s₄=>wpAny (model prog w) (A.mark (some (.ref e))) (execs (b₀::suite) env)
    (fun f s₅=>wpAny (model prog w) A (do bindName env n .none;unbindBehindTheSuite env n pos) (fun _ s₆=>Q f s₆) E s₅)
    (fun _ _=>False) s₄) (fun _ _=>False) s₃) (fun _ _=>False) s₂) (fun _ _=>False) s₁) (fun _ _=>False) s) :
  wpAny (model prog w) A (handleBy (.ref e) env (.ExceptHandler (some t) (some n) (b₀::suite) pos::Zab)) Q E s:=by
 refine wpAny_handleBy_cons (codeAny_handlers_test (wpAny_mono h (fun c s₁ h₁=>wpAny_mono h₁ (fun b s₂ h₂=>?_) fun _ _ x=>x.elim) fun _ _ x=>x.elim)) (by intro q;cases q)
 obtain⟨rfl,hk⟩:=h₂
 refine codeAny_handlers_suite_as (wpAny_mono hk (fun _ s₃ h₃=>wpAny_mono h₃ (fun _ s₄ h₄=>wpAny_mono h₄ (fun f s₅ h₅=>h₅) fun _ _ x=>x.elim) fun _ _ x=>x.elim) fun _ _ x=>x.elim)
end
section
variable {X:Cx} {E:St→XK} {k:Nat} {f C:Addr} {fd:FuncData} {ps:List Str} {sp:Sp} {x:Str} {p pos:Pos} {e:Expr} {es:List Expr} {t:TA}
theorem XE.unwish{xe:Value→Shared→Prop}{ev:Value}{s:Shared}(h:XE (X.wish xe) E ev s):XE X E ev s:=by
 obtain⟨e,cls,dd,pins,σ,H',a1,a2,a3,a4,a5,I,a6,a7,a8⟩:=h
 exact⟨e,cls,dd,pins,σ,H',a1,a2,a3,a4,a5,I.unwish,a6,a7,a8⟩
theorem ZhL(F:ZaA X.prog X.w X.K X.mg X.base (CX1 X.prog X.w) k f fd ps sp)(hr:ZM k X.A)(hg:Gl X x)(hm:X.mg x=some (.ref f))(hk:PySem.W.keepIn X.K (.ref f)=true)(hb:Z7 X.K fd ps [])(hx:∀ev s',XE X E ev s'→X.xe ev s')
  (ha:PA X (e::es) t) (hdb:(x == ("__debug__" : Str))=false:=by decide) (he:starEach (e::es) X.env=(false,eval e X.env)::starEach es X.env:=by rfl) (hpl:(backTo pos (starEach es X.env)).any (·.1)=false:=by rfl) :
  PE X (.Call (.Name x p) (e::es) [] pos) (ZgF sp E t):=by
 intro pins s σ H Q I h
 refine wpAny_Call_Name_kw (ZaS I hg hm ?_ hdb)
 refine QO (h₀:=X.base) I.ok.mod.kin hk (thn (ha pos pins s σ H _ I h) fun us s1 a=>?_) he hpl
 obtain⟨vs,H1,I1,r,q⟩:=a
 exact⟨I1.kIn,Zll F hr hb hx I1 r q⟩
def ZgK(C:Addr)(sp:Sp)(E:St→XK)(t:TA):TE:=fun σ H Q=>t σ H fun vs H1=>∀x dx,H1 x=none→H1 dx=none→dx≠x →
 sp (.ref x::vs) (upd (upd H1 dx (.own x)) x (.ins C dx [])) (fun v H2=>v=.non∧Q (.ref x) H2) (E σ)
theorem Zkt{pins:List (Addr×Obj)}{σ:St}{H:Hp}{s:Shared}{Q:VK}{us:List Value}{vs:List V}(M:Mk X.K C f)(F:ZaA X.prog X.w X.K X.mg X.base (CX1 X.prog X.w) k f fd ps sp)(hr:ZM (k+1) X.A)(hb:Z7 X.K fd ps [])(hx:∀ev s',XE X E ev s'→X.xe ev s')
  (I:Inv X pins σ H s) (r:Zv vs us) (h:∀x dx,H x=none→H dx=none→dx≠x→sp (.ref x::vs) (upd (upd H dx (.own x)) x (.ins C dx [])) (fun v H2=>v=.non∧Q (.ref x) H2) (E σ)) :
  wpAny (model X.prog X.w) X.A (call (.ref C) us) (EP X pins σ Q) X.xe s:=by
 have hq:=h (s.heap.objs.size+1) s.heap.objs.size (I.hok.fresh (QZ _)) (I.hok.fresh (Qe _)) (Qp (Q4 _))
 have I2:=Inv.made (C:=C) I
 have r2:Zv (V.ref (s.heap.objs.size+1)::vs) (Value.ref (s.heap.objs.size+1)::us):=.cons rfl r
 have hl:(Value.ref (s.heap.objs.size+1)::us).length=ps.length:=by
  have e:=r2.length
  rw[F.len _ _ _ _ hq]at e
  exact e.symm
 have hb':=hb _ (Value.ref (s.heap.objs.size+1)::us) I2.kIn (by rw[QU];exact hl)
 rw[QU]at hb'
 refine wpAny_call (Zep (f:=f) I.kIn M.makes M.init (beq_iff_eq.mp M.fn) (codeAny_mono (F.run _ X.stack _ _ ⟨Value.ref (s.heap.objs.size+1)::us,[]⟩ (Value.ref (s.heap.objs.size+1)::us) _ _ (E σ) (hr.make C us [])
  (I2.env0.make C us []) hb' r2 hq) fun r s' hq'=>?_))
 cases r with
 | error e=>exact hx e s' (I2.refused hq')
 | ok fl =>
  cases fl with
  | ret u =>
   obtain⟨v,H',I3,rv,ev,q3⟩:=I2.after hq'
   subst ev
   exact⟨rv,⟨V.ref (s.heap.objs.size+1),H',I3,rfl,q3⟩⟩
  | next=>exact False.elim hq'
  | brk=>exact False.elim hq'
  | cont=>exact False.elim hq'
theorem Zg4(M:Mk X.K C f)(F:ZaA X.prog X.w X.K X.mg X.base (CX1 X.prog X.w) k f fd ps sp)(hr:ZM (k+1) X.A)(hg:Gl X x)(hm:X.mg x=some (.ref C))(hb:Z7 X.K fd ps [])(hx:∀ev s',XE X E ev s'→X.xe ev s')
  (ha:PA X (e::es) t) (hdb:(x == ("__debug__" : Str))=false:=by decide) (he:starEach (e::es) X.env=(false,eval e X.env)::starEach es X.env:=by rfl) (hpl:(backTo pos (starEach es X.env)).any (·.1)=false:=by rfl) :
  PE X (.Call (.Name x p) (e::es) [] pos) (ZgK C sp E t):=by
 intro pins s σ H Q I h
 refine wpAny_Call_Name_kw (ZaS I hg hm ?_ hdb)
 refine QO (h₀:=X.base) I.ok.mod.kin M.kp (thn (ha pos pins s σ H _ I h) fun us s1 a=>?_) he hpl
 obtain⟨vs,H1,I1,r,q⟩:=a
 exact⟨I1.kIn,Zkt M F hr hb hx I1 r q⟩
end
theorem Zev{α:Type}{p:α→Bool}:∀ (l:List α) (i:Nat) (h:i<l.length),p l[i]=false→(l.eraseIdx i).find? p=l.find? p
 | [],i,h,_=>absurd h (Nat.not_lt_zero i)
 | a::l,0,h,hp=>by
  have hp':p a=false:=hp
  rw[List.eraseIdx_cons_zero,List.find?_cons,hp']
 | a::l,i+1,h,hp=>by
  rw[List.eraseIdx_cons_succ,List.find?_cons,List.find?_cons]
  cases hq:p a with
  | true=>rfl
  | false=>exact Zev l i (by simpa using h) hp
theorem Zfp{es:Array DictEntry}{name x:Str}{i:Nat}(hi:es.findIdx? (fun e=>e.key.isStr name)=some i)(hx:x≠name):nsFind (es.eraseIdxIfInBounds i) x=nsFind es x:=by
 obtain⟨l⟩:=es
 simp only[nsFind,findBy,List.eraseIdxIfInBounds_toArray,List.find?_toArray,List.findIdx?_toArray]at hi ⊢
 obtain⟨hl,hp,_⟩:=List.findIdx?_eq_some_iff_getElem.mp hi
 rw[Zev l i hl (isStr_other hx _ hp)]
section
variable {M:Model} {A:Around} {E:Value→Shared→Prop} {s:Shared} {env:Env}
theorem Zgy{a:Addr}{m:Str→Option Value}{name:Str}{Q:Bool→Shared→Prop}(hn:s.heap.Ns a m)(hin:(m name).isSome=true)
  (hQ:∀h' m',h'.Ns a m'→(∀x,x≠name→m' x=m x)→Heap.SameBut a s.heap h'→Q true { s with heap:=h' }):wpAny M A (nsDel a name) Q E s:=by
 obtain⟨o,es,ep,ho,hd,hk,hm⟩:=id hn
 have hany:es.any (·.refKey)=false:=by
  rw[Array.any_eq_false']
  intro e he
  obtain⟨n,t,h⟩:=hk e he
  simp[DictEntry.refKey,h]
 obtain⟨i,hi⟩:∃i,es.findIdx? (fun e=>e.key.isStr name)=some i:=by
  cases hi:es.findIdx? (fun e=>e.key.isStr name) with
  | some i=>exact⟨i,rfl⟩
  | none =>
   rw[← hm name]at hin
   have:nsFind es name=none:=by
    unfold nsFind findBy
    rw[Array.find?_eq_none.mpr fun e he=>by have:=(Array.findIdx?_eq_none_iff.mp hi) e he;simp[this]]
    rfl
   rw[this]at hin
   cases hin
 have hone:es.any (·.key.isStr name)=true:=by
  rw[Array.any_eq_true]
  obtain⟨hl,hp,_⟩:=Array.findIdx?_eq_some_iff_getElem.mp hi
  exact⟨i,hl,hp⟩
 have hhas:nsHas name o=pure true:=by
  rw[nsHas_eq]
  unfold nsHasByArray
  rw[hd]
  show (if (es.any fun x=>x.key.isStr name)=true then _ else _)=_
  rw[hone]
  rfl
 unfold nsDel
 refine wpAny_bind (wpAny_loadPart ho ?_)
 rw[hhas]
 refine wpAny_bind (wpAny_pure ?_)
 refine wpAny_bind (wpAny_updatePart ho (wpAny_pure ?_))
 obtain⟨cl,d,dt,sl⟩:=o
 subst hd
 exact hQ _ _ ⟨_,_,ep+1,QD _ ho (by simp only[Obj.dropName_eq,Obj.dropNameByArray,hi]<;>rfl),(by simp only[Obj.dropName_eq,Obj.dropNameByArray,hi]<;>rfl),hk.erase i,fun _=>rfl⟩ (fun x hx=>by rw[← hm x];exact Zfp hi hx) (Heap.SameBut.update ..)
end
section
variable {X:Cx} {pins:List (Addr×Obj)} {σ:St} {H:Hp} {s:Shared}
theorem Inv.lost{i:Nat}{x:Str}{h':Heap}{t':Nat}{m m':Str→Option Value}(I:Inv X pins σ H s)(hN:X.N.Nodup)(hi:X.N[i]? = some x)(hloc:s.heap.Ns X.env.locals m∧∀ (i:Nat) (x:Str) (v:V),X.N[i]? = some x→σ[i]? = some (some v)→Vis X.env.scope x→∃u,ZA v u∧ZkJ X.env s.heap m x u)
  (hn':h'.Ns X.env.locals m') (hm:∀y,y≠x→m' y=m y) (hs:Heap.SameBut X.env.locals s.heap h'):Inv X pins (σ.set i none) H { s with heap:=h',toks:=t' }:=by
 obtain⟨hn,hl⟩:=hloc
 have cne:=I.cne
 have hiσ:i<σ.length:=by rw[I.len];exact(Qk.mp hi).1
 refine⟨I.ok,I.os,I.bare,⟨fun b o e n hb hx=>?_,fun b o e n hb hx=>?_,I.base.free,fun b o e hx=>?_,I.base.tups,I.base.frzs,I.base.tbls⟩,⟨_,hn',fun j y v' e1 e2 e3=>?_⟩,fun y c e=>?_,I.free,I.freeC,fun p hp=>?_,fun b ob e=>?_,by rw[List.length_set];exact I.len⟩
 ·exact(hs.2 b (Qp (Qf (Qd e) I.ok.above))).trans (I.base.keep b o e n hb hx)
 ·obtain⟨sl,e1⟩:=I.base.slot b o e n hb hx
  exact⟨sl,(hs.2 b (Qp (Qf (Qd e) I.ok.above))).trans e1⟩
 ·obtain⟨o',e1⟩:=I.base.there b o e hx
  exact⟨o',(hs.2 b (Qp (Qf (Qd e) I.ok.above))).trans e1⟩
 ·by_cases hj:j=i
  ·subst hj
   rw[QK hiσ]at e2
   cases e2
  ·rw[Q3 (Ne.symm hj)]at e2
   obtain⟨u',r',q⟩:=hl j y v' e1 e2 e3
   refine⟨u',r',?_⟩
   have hy:y≠x:=fun e=>hj (ZcG hN e1 (e ▸ hi))
   rcases q with⟨k,e⟩|⟨k,c,e,z⟩
   ·exact .inl ⟨k,by rw[hm y hy];exact e⟩
   ·exact .inr ⟨k,c,e,z.sameBut hs (cne y c e)⟩
 ·obtain⟨w',z⟩:=I.cell y c e
  exact⟨w',z.sameBut hs (cne y c e)⟩
 ·obtain⟨e,n,ne,nf,d⟩:=I.pin p hp
  exact⟨(hs.2 p.1 ne).trans e,n,ne,nf,d⟩
 ·refine(I.hok b ob e).stay (fun c w' hc q=>(hs.2 c ?_).trans q) (fun _ q=>q) fun _ _ q=>q
  rintro rfl
  rcases hc with rfl|hc
  ·rw[I.free]at e;cases e
  ·rw[I.free]at hc;cases hc
theorem Zgj{M:Model}{A:Around}{E:Value→Shared→Prop}{i:Nat}{x:Str}{pos:Pos}{Q:Unit→Shared→Prop}(I:Inv X pins σ H s)(hN:X.N.Nodup)(hi:X.N[i]? = some x)(hk:X.env.kindOf x=some .local)(hsc:X.env.scope.names.lookup x=some .local)
  (h:∀s',Inv X pins (σ.set i none) H s'→Q () s'):wpAny M A (do bindName X.env x .none;unbindBehindTheSuite X.env x pos) Q E s:=by
 have hcls:(X.env.scope.kind == .class||(X.env.scope.kind == .module&&X.env.locals != X.env.globals))=false:=by rw[I.ok.kind];rfl
 refine wpAny_bind (wpAny_bindName (Zbx I hN hi (.inl hsc) (v:=.non) rfl (fun s1 I1=>?_) (.inr hsc)))
 have hiσ:i<σ.length:=by rw[I.len];exact(Qk.mp hi).1
 obtain⟨m,hn,hl⟩:=id I1.loc
 have hin:(m x).isSome=true:=by
  obtain⟨u,_,q⟩:=hl i x .non hi (QK hiσ) (.inl hsc)
  rcases q with⟨_,e⟩|⟨z,_⟩
  ·rw[e];rfl
  ·rw[hk]at z;rcases z with z|z<;>cases z
 unfold unbindBehindTheSuite
 refine wpAny_onRaise ?_
 unfold unbindName
 refine wpAny_bind (wpAny_point (wpAny_bind ?_))
 unfold deleteName
 simp only[hk,hcls]
 rw[if_neg (by decide)]
 refine wpAny_bind (Zgy hn hin fun h2 m2 hn2 hm2 hs2=>?_)
 simp only[if_true,Bool.not_true,Bool.false_eq_true,if_false]
 refine wpAny_pure (wpAny_point (h _ ?_))
 have J:=Inv.lost (t':=s1.toks) I1 hN hi ⟨hn,hl⟩ hn2 hm2 hs2
 rw[List.set_set]at J
 exact J
end
abbrev Cx.pnd(X:Cx)(pins:List (Addr×Obj)):Cx:={ X with pn:=X.pn++pins }
abbrev Cx.mkd(X:Cx)(e:Addr):Cx:={ X with A:=X.A.mark (some (.ref e)),calm:=false,xe:=fun _ _=>False }
section
variable {X:Cx} {pins pins':List (Addr×Obj)} {σ:St} {H:Hp} {s:Shared}
theorem Cx.Ok.pnd(ok:X.Ok)(pins:List (Addr×Obj)):(X.pnd pins).Ok :=
 ⟨ok.mod,ok.kind,ok.glob,ok.blt,ok.above,ok.inj,ok.has,ok.cab,ok.hd,ok.frames,ok.stk,ok.exf,ok.bs,ok.bsz,ok.noex,ok.exfs,ok.funs,ok.frf⟩
theorem Cx.Ok.unpnd{pins:List (Addr×Obj)}(ok:(X.pnd pins).Ok):X.Ok :=
 ⟨ok.mod,ok.kind,ok.glob,ok.blt,ok.above,ok.inj,ok.has,ok.cab,ok.hd,ok.frames,ok.stk,ok.exf,ok.bs,ok.bsz,ok.noex,ok.exfs,ok.funs,ok.frf⟩
theorem Inv.pnd(I:Inv X pins σ H s):Inv (X.pnd pins) [] σ H s:=⟨I.ok.pnd pins,I.os,I.bare,I.base,I.loc,I.cell,I.free,I.freeC,fun p hp=>I.pin p (by simpa using hp),I.hok,I.len⟩
theorem Inv.unpnd(I:Inv (X.pnd pins) pins' σ H s):Inv X pins σ H s:=⟨I.ok.unpnd,I.os,I.bare,I.base,I.loc,I.cell,I.free,I.freeC,fun p hp=>I.pin p (Qz _ hp),I.hok,I.len⟩
theorem SP.unpnd{D:Zd2}{f:Flow}{s':Shared}(h:SP (X.pnd pins) pins' D f s'):SP X pins D f s':=by
 cases f with
 | next=>obtain⟨σ',H',I,q⟩:=h;exact⟨σ',H',I.unpnd,q⟩
 | brk=>obtain⟨σ',H',I,q⟩:=h;exact⟨σ',H',I.unpnd,q⟩
 | cont=>obtain⟨σ',H',I,q⟩:=h;exact⟨σ',H',I.unpnd,q⟩
 | ret u=>obtain⟨v,σ',H',I,r,q⟩:=h;exact⟨v,σ',H',I.unpnd,r,q⟩
theorem Inv.mkd(I:Inv X pins σ H s)(e:Addr):Inv (X.mkd e) pins σ H s :=
 ⟨⟨I.ok.mod,I.ok.kind,I.ok.glob,I.ok.blt,I.ok.above,I.ok.inj,I.ok.has,I.ok.cab,(fun h=>by cases h),I.ok.frames,I.ok.stk,I.ok.exf,I.ok.bs,I.ok.bsz,I.ok.noex,I.ok.exfs,I.ok.funs,I.ok.frf⟩,I.os,I.bare,I.base,I.loc,I.cell,I.free,I.freeC,I.pin,I.hok,I.len⟩
theorem Inv.unmkd{e:Addr}(I:Inv (X.mkd e) pins σ H s)(ok:X.Ok):Inv X pins σ H s:=⟨ok,I.os,I.bare,I.base,I.loc,I.cell,I.free,I.freeC,I.pin,I.hok,I.len⟩
theorem Inv.track{e:Addr}{o:HO}(I:Inv X pins σ H s)(he:X.s₀.heap.objs.size≤e)(hel:e≠X.env.locals)(hec:∀x c,X.env.cells.lookup x=some c→c≠e)(hn:H e=none)(hp:∀p∈X.pn++pins,p.1≠e)(new:Z6 X.prog X.w (upd H e o) s.heap e o):Inv X pins σ (upd H e o) s:=by
 have ne:∀ {b:Addr} {u:HO},H b=some u→b≠e:=fun h z=>by rw[z,hn]at h;cases h
 refine⟨I.ok,I.os,I.bare,⟨I.base.keep,I.base.slot,fun b o' hb n hx=>?_,I.base.there,fun b xs h=>?_,fun b o' u h=>?_,fun b qs h=>?_⟩,I.loc,I.cell,?_,fun x c hc=>?_,fun p hp'=>?_,fun a u ha=>?_,I.len⟩
 ·rw[Zc (fun z=>by rw[z]at hb;exact absurd (Qd hb) (Nat.not_lt.mpr he))]
  exact I.base.free b o' hb n hx
 ·have:=I.base.tups b xs h
  rw[Zc (ne this)];exact this
 ·have:=I.base.frzs b o' u h
  rw[Zc (ne this)];exact this
 ·obtain⟨more,this⟩:=I.base.tbls b qs h
  exact⟨more,by rw[Zc (ne this)];exact this⟩
 ·rw[Zc (Ne.symm hel)];exact I.free
 ·rw[Zc (hec x c hc)];exact I.freeC x c hc
 ·obtain⟨a1,a2,a3⟩:=I.pin p hp'
  exact⟨a1,by rw[Zc (hp p hp')];exact a2,a3⟩
 ·by_cases hae:a=e
  ·subst hae
   rw[Ze]at ha
   cases ha
   exact new
  ·rw[Zc hae]at ha
   exact(I.hok a u ha).stay (fun _ _ _ q=>q) (fun b hb=>by rw[Zc (ne hb)];exact hb) fun b xs hb=>by rw[Zc (ne hb)];exact hb
end
def Zdd(K:PySem.W.Frag)(C:Addr)(bm:List Value):Prop:=∃ (nm q:Str) (N:Addr) (bs:List Value) (hdct:Bool) (sn:List Str) (sub:List Value) (ab:Bool) (col:Option Bool) (dd:Option Addr) (k0 k1 k2 k3 k5:Option Value) (newId:String),
 K.lookup C=some (excClassObj nm q C N bs bm hdct sn sub ab col dd k0 k1 k2 k3 k5 newId)
abbrev exO(e C:Addr)(dd:Option Addr):HO:=.ext fun h=>∃oe vs,h.get? e=some oe∧oe.cls=.ref C∧oe.dict=dd∧oe.data=.fields vs
def ZhA(K:PySem.W.Frag)(C':Addr)(i:Nat)(ts:TS)(D:Zd2):St→XK:=fun σ cls dd H=>∃C bm,cls=.ref C∧Zdd K C bm∧(Value.ref C::bm).contains (.ref C')=true ∧
 ∀e,H e=none→ts { nx:=fun σ' H'=>D.nx (σ'.set i none) H',rt:=fun _ _=>False } (σ.set i (some (.ref e))) (upd H e (exO e C dd))
def Zkz(K:PySem.W.Frag)(C':Addr)(i:Nat)(tb:(St→XK)→TS)(ts:TS):TS:=fun D σ H=>tb (ZhA K C' i ts D) D σ H
section
variable {X:Cx}
theorem ZfJ{x n:Str}{np hpos pos:Pos}{body:List Stmt}{b₀:Stmt}{suite:List Stmt}{C':Addr}{bm':List Value}{i:Nat}{tb:(St→XK)→TS}{ts:TS}
  (hb:∀ (pins:List (Addr×Obj)) (E:St→XK),PSs ((X.pnd pins).wish (XE (X.pnd pins) E)) body (tb E)) (hsu:∀e,PSs (X.mkd e) (b₀::suite) ts)
  (hst:X.stack=X.env::X.outer∧X.env.frame=some X.env.locals) (hg:Gl X x) (hm:X.mg x=some (.ref C')) (hC':Zdd X.K C' bm') (hbase:bm'.contains (.type "BaseException")=true)
  (hN:X.N.Nodup) (hi:X.N[i]? = some n) (hk:X.env.kindOf n=some .local) (hsc:X.env.scope.names.lookup n=some .local) (hdb:(x == ("__debug__" : Str))=false:=by decide) :
  PS X (.Try body [.ExceptHandler (some (.Name x np)) (some n) (b₀::suite) hpos] [] [] pos) (Zkz X.K C' i tb ts):=by
 intro pins s σ H D I h
 refine wpAny_Try_except (wpAny_mono (hb pins (ZhA X.K C' i ts D) [] s σ H D (I.pnd.wish _) h) (fun f s1 h1=>?_) fun ev s1 h1=>?_)
 ·have h2:SP X pins D f s1:=h1.unwish.unpnd
  cases f with
  | next=>exact wpAny_execs_nil h2
  | brk=>exact h2
  | cont=>exact h2
  | ret u=>exact h2
 obtain⟨e,cls,dd,pins',σ',H',rfl,he,hel,hec,hn,I',hp,hx,C,bm,rfl,hC,hsub,hts⟩:=h1
 obtain⟨B,M,fl,hM,hI⟩:=I'.fly hst he hel hec hn hp hx
 have hfr:X.A.frames=some (X.env::X.outer):=by rw[← hst.1];exact I.ok.frames
 refine fl.noted hfr hst.2 fun h2 a b c=>?_
 refine Zbk fl.hB (s:={ s1 with heap:=h2 }) (F:=none) b a c fun h3 a3 b3 c3=>?_
 have I3:Inv X pins σ' H' { s1 with heap:=h3 }:=(hI h3 a3).unpnd
 have hpX:∀p∈X.pn++pins,p.1≠e:=fun p hp'=>hp p (Qz _ hp')
 refine Zf9 ?_
 refine ZaS (X:=X.mkd e) (I3.mkd e) hg hm ?_ hdb
 obtain⟨oe,vs,T,oT,ts',he1,hcl,hdd,_⟩:=c3.ex
 obtain⟨nm,q,N,bs,hdct,sn,sub,ab,col,dq,k0,k1,k2,k3,k5,newId,lC⟩:=hC
 obtain⟨nm',q',N',bs',hdct',sn',sub',ab',col',dq',k0',k1',k2',k3',k5',newId',lC'⟩:=hC'
 refine Zeh (I3.kIn _ _ lC) (I3.kIn _ _ lC') he1 hcl hbase hsub ⟨rfl,?_⟩
 refine Zbk fl.hB (s:={ s1 with heap:=h3 }) (F:=none) b3 a3 c3 fun h4 a4 b4 c4=>?_
 have I4:Inv X pins σ' H' { s1 with heap:=h4 }:=(hI h4 a4).unpnd
 obtain⟨oe4,vs4,T4,oT4,ts4,he4,hcl4,hdd4,hda4,_⟩:=c4.ex
 have I5:Inv X pins σ' (upd H' e (exO e C dd)) { s1 with heap:=h4 }:=I4.track he hel hec hn hpX ⟨⟨oe4,vs4,he4,hcl4,hdd4,hda4⟩,⟨oe4,he4⟩,fun h1 h2 z k=>by
  obtain⟨o,vs,z1,z2⟩:=z
  exact⟨o,vs,k o z1,z2⟩⟩
 refine Zbx (X:=X.mkd e) (I5.mkd e) hN hi (.inl hsc) (v:=.ref e) rfl (fun s5 I6=>?_) (.inr hsc)
 refine wpAny_mono (hsu e pins s5 _ _ _ I6 (hts e hn)) (fun f s6 h6=>?_) fun _ _ z=>z
 cases f with
 | next =>
  obtain⟨σ7,H7,I7,q7⟩:=h6
  exact Zgj (I7.unmkd I.ok) hN hi hk hsc fun s8 I8=>⟨_,_,I8,q7⟩
 | brk=>obtain⟨_,_,_,z⟩:=h6;exact z.elim
 | cont=>obtain⟨_,_,_,z⟩:=h6;exact z.elim
 | ret u=>obtain⟨_,_,_,_,_,z⟩:=h6;exact z.elim
end
open Builtin Builtin.ObjectAttr
section
variable {prog:Program} {w:World} {A:Around} {E:Value→Shared→Prop} {h:Heap} {g:Array GenState} {d:Drawn} {t:Nat} {os:OsState} {K:PySem.W.Frag}
variable {nm q:Str} {C N x:Addr} {bs bm:List Value} {sn:List Str} {sub:List Value} {ab:Bool} {col:Option Bool} {dd:Option Addr} {k0 k1 k2 k3 k5:Option Value} {newId:String}
 {mA:Str→Option Value} {name:Str} {v:Value}
theorem Zfu{tk:Tok}{Q:Fin→Shared→Prop}{ns:List Str}(X:K.In h)(hm:∀self:Value,refuseLoop self "__setattr__" bm=pure ())
  (hC:h.get? C=some (excClassObj nm q C N bs bm true sn sub ab col dd k0 k1 k2 k3 k5 newId)) (ha:PySem.W.findIn K (.ref C) name=some none) (hxC:x≠C) (I:h.Inst x C mA)
  (hq:∀h' tk',h'.Inst x C (fun y=>if y=name then some v else mA y) →
   (∀b o,b≠x→(∀o₀ dx,h.get? x=some o₀→o₀.dict=some dx→b≠dx)→h.get? b=some o→h'.get? b=some o) →
   (∀o₀,h.get? x=some o₀→∃o₁,h'.get? x=some o₁∧o₁.cls=o₀.cls∧o₁.data=o₀.data∧o₁.slots=o₀.slots∧(∀dx,o₀.dict=some dx→o₁.dict=some dx)∧(o₀.dict=none→o₁.dict=some h.objs.size))→Q (.done (.ret .none)) ⟨h',g,d,tk',os⟩) (hw:Within mA ns) (hsz:ns.length≤sizeLine) :
  wpAny (model prog w) A (Builtin.«object.__setattr__» ⟨[.ref x,.str name tk,v],[]⟩) Q E ⟨h,g,d,t,os⟩:=by
 obtain⟨o,hx,hc,hnc,hd⟩:=I
 have hpass:=hm (.ref x)
 have L:=QI (M:=model prog w) X ha
 unfold Builtin.«object.__setattr__»
 repeat (first|rw[refuse_eq]|(rw[refuseLoop_ref,hpass])|(with_reducible refine wpAny_loadPart_at hx ?_;rw[hc])|with_reducible refine wpAny_mroOf_exc hC ?_|(with_reducible refine wpAny_bind (L.at ?_))|wp_step)
 rcases hd with⟨hdn,hmA⟩|⟨dx,hdx,hne,hns⟩
 ·
  rw[hdn,if_neg (by simp[typeHasDict])]
  split
  ·rename_i hcd
   cases hcd
  split
  ·rename_i c hcd
   exact absurd hcd (hnc c)
  ·have hx₁:(h.push { cls:=.type "dict",data:=.dict #[] }).get? x=some o:=Qc _ hx
   have hxs:x≠h.objs.size:=Qp (Qd hx)
   refine wpAny_bind (wpAny_alloc' ?_)
   refine wpAny_bind (wpAny_update' hx₁ ?_)
   refine wpAny_pure ?_
   have hgd:((h.push { cls:=.type "dict",data:=.dict #[] }).update x fun o=>{ cls:=o.cls,dict:=some h.objs.size,data:=o.data,slots:=o.slots }).get? h.objs.size
     = some { cls:=.type "dict",data:=.dict #[] } :=
    (Q7 _ _ _ _ hxs.symm).trans (Heap.get?_push_at rfl rfl)
   have hnd:((h.push { cls:=.type "dict",data:=.dict #[] }).update x fun o=>{ cls:=o.cls,dict:=some h.objs.size,data:=o.data,slots:=o.slots }).Ns h.objs.size (fun _=>none) :=
    ⟨_,#[],_,hgd,rfl,fun e he=>absurd he (by simp),fun _=>rfl⟩
   show wpAny _ _ (storeInDict h.objs.size (.str name tk) name v) _ _ _
   unfold storeInDict newKeyGuard
   refine wpAny_bind (wpAny_pure (wpAny_bind (wpAny_nsSet1 (Heap.Ns1.of_empty hnd) fun h' hn' hs=>?_)))
   obtain⟨oD,esD,epD,hoD,hdD,hcD⟩:=hn'.count (Within.cons name v Within.nil)
   refine wpAny_bind (wpAny_lookBehind hoD (by rw[hdD];exact pastItsLine_dict (Qq hcD (by rw[QB,List.length_nil,sizeLine_eq];omega))) ?_)
   wp_walk
   have hx':h'.get? x=some { cls:=o.cls,dict:=some h.objs.size,data:=o.data,slots:=o.slots }:=?_
   refine hq h' _ ⟨{ cls:=o.cls,dict:=some h.objs.size,data:=o.data,slots:=o.slots },hx',hc,hnc,.inr ⟨h.objs.size,rfl,hxs.symm,?_⟩⟩ (fun b ob hbx _ hb=>?_)
    (fun o₀ h₀=>by obtain rfl:o=o₀:=Ql (hx.symm.trans h₀);exact⟨_,hx',rfl,rfl,rfl,fun dx e=>(by rw[hdn]at e;cases e),fun _=>rfl⟩)
   ·obtain⟨o',es,ep,e1,e2,e3,eu,e4⟩:=hn'
    exact⟨o',es,ep,e1,e2,e3,eu,fun y=>by rw[e4 y];by_cases hy:y=name<;>simp[hy,hmA]⟩
   ·exact(hs.2 b (Qp (Qd hb))).trans ((Q7 _ _ _ _ hbx).trans (Qc _ hb))
   ·refine(hs.2 x hxs).trans (QD _ hx₁ ?_)
    have hfr:=(Heap.get?_some_iff.mp hx).2
    obtain⟨oc,od,odt,osl⟩:=o
    cases odt<;>first|rfl|exact hfr
 ·
  rw[hdx]
  refine wpAny_pure ?_
  show wpAny _ _ (storeInDict dx (.str name tk) name v) _ _ _
  unfold storeInDict newKeyGuard
  refine wpAny_bind (wpAny_pure (wpAny_bind (wpAny_nsSet1 hns fun h' hn' hs=>?_)))
  obtain⟨oD,esD,epD,hoD,hdD,hcD⟩:=hn'.count (Within.cons name v hw)
  refine wpAny_bind (wpAny_lookBehind hoD (by rw[hdD];exact pastItsLine_dict (Qq hcD (by rw[QB];omega))) ?_)
  wp_walk
  refine hq h' _ ⟨o,(hs.2 x hne.symm).trans hx,hc,hnc,.inr ⟨dx,hdx,hne,hn'⟩⟩ (fun b ob _ hbd hb=>?_)
   (fun o₀ h₀=>⟨o₀,(hs.2 x hne.symm).trans h₀,rfl,rfl,rfl,fun _ e=>e,fun e=>by obtain rfl:o=o₀:=Ql (hx.symm.trans h₀);rw[hdx]at e;cases e⟩)
  exact(hs.2 b (hbd o dx hx hdx)).trans hb
theorem ZdR{Q:Unit→Shared→Prop}{ns:List Str}(X:K.In h)(hm:∀self:Value,refuseLoop self "__setattr__" bm=pure ())(hob:bm.contains (.type "object")=true)
  (hC:h.get? C=some (excClassObj nm q C N bs bm true sn sub ab col dd k0 k1 k2 k3 k5 newId)) (hs:PySem.W.findIn K (.ref C) "__setattr__" = some (some (.builtin "object.__setattr__"))) (ha:PySem.W.findIn K (.ref C) name=some none) (hxC:x≠C) (I:h.Inst x C mA)
  (hq:∀h' tk',h'.Inst x C (fun y=>if y=name then some v else mA y) →
   (∀b o,b≠x→(∀o₀ dx,h.get? x=some o₀→o₀.dict=some dx→b≠dx)→h.get? b=some o→h'.get? b=some o) →
   (∀o₀,h.get? x=some o₀→∃o₁,h'.get? x=some o₁∧o₁.cls=o₀.cls∧o₁.data=o₀.data∧o₁.slots=o₀.slots∧(∀dx,o₀.dict=some dx→o₁.dict=some dx)∧(o₀.dict=none→o₁.dict=some h.objs.size))→Q () ⟨h',g,d,tk',os⟩) (hw:Within mA ns) (hsz:ns.length≤sizeLine) :
  wpAny (model prog w) A (setAttr (.ref x) name v) Q E ⟨h,g,d,t,os⟩:=by
 have SF:=PySem.F.store_object
 obtain⟨o,hx,hc,hnc,hd⟩:=id I
 have L0:PySem.W.Looks (model prog w) h (typeOf (.ref x)) (.ref C):=hc ▸ (PySem.W.Looks.ld hx).andThen .now
 refine wpAny_bind (wpAny_mkText (wpAny_bind (wpAny_bind (wpAny_bind (L0 _ _ _ _ (fun _ _ e=>e) (QI X hs _ _ _ _ (fun _ _ e=>e) (wpAny_holding ?_)))))))
 rw[PySem.F.store_object.slot.bind]
 have hcB:(Value.ref C::bm).contains (.type "object")=true:=by rw[Qv,hob,Qaf]
 refine wpAny_bind (wpAny_pure (wpAny_bind (wpAny_call (codeAny_call_builtin SF.slot.plain SF.entry (@PySem.W.check_slot (model prog w) _ _ ⟨h,g,d,t+1,os⟩ "object.__setattr__" "object" "__setattr__" (.ref x) [.str name t,v] [] _ SF.kind SF.split (L0.andThen ?_) (SF.args (.ref x) (.str name t) v) (Zfu X hm hC ha hxC I (fun h' tk' I' hk hsame=>wpAny_pure (wpAny_pure (hq h' tk' I' hk hsame))) hw hsz))))))
 intro A' Q' E' s' k q'
 obtain⟨h2,g2,d2,t2,os2⟩:=s'
 refine wpAny_isSubtype_exc (k _ _ hC) ?_
 rw[hcB];exact q'
end
abbrev Zbp:List Value:=[.type "ValueError",.type "Exception",.type "BaseException",.type "object"]
structure XC (K:PySem.W.Frag) (C B:Addr):Prop where
 obj:∃ (nm q:Str) (N:Addr) (bs:List Value) (sn:List Str) (sub:List Value) (ab:Bool) (col:Option Bool) (dd:Option Addr) (k0 k1 k2 k3 k5:Option Value) (newId:String),
  K.lookup C=some (excClassObj nm q C N bs (.ref B::Zbp) true sn sub ab col dd k0 k1 k2 k3 k5 newId)
 sa:PySem.W.findIn K (.ref C) "__setattr__" = some (some (.builtin "object.__setattr__"))
theorem XC.cls{K:PySem.W.Frag}{C B:Addr}(c:XC K C B):Zdd K C (.ref B::Zbp):=by
 obtain⟨nm,q,N,bs,sn,sub,ab,col,dd,k0,k1,k2,k3,k5,newId,h⟩:=c.obj
 exact⟨nm,q,N,bs,true,sn,sub,ab,col,dd,k0,k1,k2,k3,k5,newId,h⟩
abbrev exN(e C:Addr)(dd:Option Addr):HO:=.ext fun h=>∃T,h.get? e=some { cls:=.ref C,dict:=dd,data:=.fields #[.ref T,.none,.none,.none,.bool false,.none] }
abbrev xdO(dx:Addr)(fs:List (Str×V)):HO:=.ext fun h=>∃mA,h.Ns1 dx mA∧(∀f,Za0 (fs.lookup f) (mA f))∧PySem.Within mA (fs.map (·.1))
section
variable {X:Cx} {pins:List (Addr×Obj)} {σ:St} {H:Hp} {s:Shared} {A:Around} {E:Value→Shared→Prop} {C B e dx:Addr} {f:Str} {fs:List (Str×V)}
theorem Zc3(B:Addr)(self:Value):refuseLoop self "__setattr__" (.ref B::Zbp)=pure ():=by rw[refuseLoop_ref];exact PySem.F.store_ValueError.passes self
theorem ZeT{P:Program}{w:World}{H:Hp}{h:Heap}{dd:Option Addr}{T:Addr}(he:h.get? e=some { cls:=.ref C,dict:=dd,data:=.fields #[.ref T,.none,.none,.none,.bool false,.none] }):Z6 P w H h e (exN e C dd) :=
 ⟨⟨T,he⟩,⟨_,he⟩,fun h1 h2 z k=>by obtain⟨T',z⟩:=z;exact⟨T',k _ z⟩⟩
theorem ZhB{P:Program}{w:World}{H:Hp}{h:Heap}{mA:Str→Option Value}(hn:h.Ns1 dx mA)(r:∀f,Za0 (fs.lookup f) (mA f))(wi:PySem.Within mA (fs.map (·.1))):Z6 P w H h dx (xdO dx fs) :=
 ⟨⟨mA,hn,r,wi⟩,let ⟨o,_,_,e',_⟩:=hn;⟨o,e'⟩,fun h1 h2 z k=>by obtain⟨m,z1,z2⟩:=z;exact⟨m,z1.at fun o q=>k o q,z2⟩⟩
theorem Zki{y:V}{u:Value}{Q:Unit→Shared→Prop}(I:Inv X pins σ H s)(c:XC X.K C B)(n:ZP X.K C f)(he:H e=some (exN e C none))(ry:ZA y u)
  (h:∀dx s',H dx=none→dx≠e→Inv X pins σ (upd (upd H e (exN e C (some dx))) dx (xdO dx [(f,y)])) s'→Q () s'):wpAny (model X.prog X.w) A (setAttr (.ref e) f u) Q E s:=by
 obtain⟨nm,q,N,bs,sn,sub,ab,col,dd,k0,k1,k2,k3,k5,newId,lC⟩:=c.obj
 obtain⟨⟨T,ho⟩,_,_⟩:=I.hok e _ he
 have hC:=I.kIn _ _ lC
 have eC:e≠C:=fun z=>by
  subst z
  have:=hC.symm.trans ho
  cases this
 obtain⟨hh,g,d,t,os⟩:=s
 refine ZdR (mA:=fun _=>none) (ns:=[]) I.kIn (Zc3 B) rfl hC c.sa n eC ⟨_,ho,rfl,(fun _ z=>by cases z),.inl ⟨rfl,fun _=>rfl⟩⟩ (fun h' tk' I' hk hs=>?_) (fun y hy=>absurd rfl hy) (Qu _)
 obtain⟨o1,e1,c1,d1,s1,_,dn⟩:=hs _ ho
 obtain⟨cl,di,da,sl⟩:=o1
 have dn':=dn rfl
 dsimp only at c1 d1 s1 dn' e1
 subst c1 d1 s1 dn'
 have fr:H hh.objs.size=none:=I.hok.fresh (Qe _)
 have el:e<hh.objs.size:=Qd ho
 have ne:hh.objs.size≠e:=Qad el
 obtain⟨o2,e2,_,_,hd⟩:=I'
 obtain rfl:_=o2:=Ql (e1.symm.trans e2)
 obtain⟨hdn,_⟩|⟨dx,hdx,_,hns⟩:=hd
 ·cases hdn
 cases hdx
 refine h hh.objs.size _ fr ne ?_
 have I1:Inv X pins σ (upd H e (exN e C (some hh.objs.size))) ⟨hh.update e fun o=>{ o with dict:=some hh.objs.size },g,d,tk',os⟩:=by
  have e3:(hh.update e fun o=>{ o with dict:=some hh.objs.size }).get? e=some { cls:=.ref C,dict:=some hh.objs.size,data:=.fields #[.ref T,.none,.none,.none,.bool false,.none] }:=QD _ ho rfl
  exact I.write (x:=e) (e:=e) (t':=tk') (by rw[he];exact True.intro) (.inl rfl) (fun b u hb q=>(Q7 _ _ _ _ hb).trans q) ⟨_,e3⟩ (ZeT e3)
 have e3:(hh.update e fun o=>{ o with dict:=some hh.objs.size }).get? e=some { cls:=.ref C,dict:=some hh.objs.size,data:=.fields #[.ref T,.none,.none,.none,.bool false,.none] }:=QD _ ho rfl
 refine I1.laid (a:=hh.objs.size) (h':=h') (t':=tk') (fun b u q=>?_) (Nat.le_of_eq (Heap.size_update _ _ _)) (ZhB hns (fun g'=>?_) fun g' hg=>?_)
 ·by_cases hb:b=e
  ·subst hb
   rw[e3]at q;cases q;exact e1
  ·exact hk b u hb (fun o₀ dx a b'=>by rw[ho]at a;cases a;cases b') ((Q7 _ _ _ _ hb).symm.trans q)
 ·show Za0 (List.lookup g' [(f,y)]) (if g'=f then some u else none)
  by_cases z:g'=f
  ·subst z;rw[if_pos rfl];simp only[List.lookup,beq_self_eq_true];exact ry
  ·rw[if_neg z];simp only[List.lookup,beq_eq_false_iff_ne.mpr z];exact True.intro
 ·by_cases z:g'=f
  ·subst z;simp
  ·exact absurd (if_neg z) hg
theorem ZkI{y:V}{u:Value}{Q:Unit→Shared→Prop}(I:Inv X pins σ H s)(c:XC X.K C B)(n:ZP X.K C f)(he:H e=some (exN e C (some dx)))(hdx:H dx=some (xdO dx fs))(hne:dx≠e)(hl:fs.length<1000)(ry:ZA y u)
  (h:∀s',Inv X pins σ (upd H dx (xdO dx (Zl f y fs))) s'→Q () s'):wpAny (model X.prog X.w) A (setAttr (.ref e) f u) Q E s:=by
 obtain⟨nm,q,N,bs,sn,sub,ab,col,dd,k0,k1,k2,k3,k5,newId,lC⟩:=c.obj
 obtain⟨⟨T,ho⟩,_,_⟩:=I.hok e _ he
 obtain⟨⟨mA,hns,r,wi⟩,_,_⟩:=I.hok dx _ hdx
 have hC:=I.kIn _ _ lC
 have eC:e≠C:=fun z=>by
  subst z
  have:=hC.symm.trans ho
  cases this
 obtain⟨hh,g,d,t,os⟩:=s
 refine ZdR (mA:=mA) (ns:=fs.map (·.1)) I.kIn (Zc3 B) rfl hC c.sa n eC ⟨_,ho,rfl,(fun _ z=>by cases z),.inr ⟨dx,rfl,hne,hns⟩⟩ (fun h' tk' I' hk hs=>?_) wi (by rw[Qb,sizeLine_eq];omega)
 obtain⟨o1,e1,c1,d1,s1,dn,_⟩:=hs _ ho
 obtain⟨cl,di,da,sl⟩:=o1
 have dn':=dn dx rfl
 dsimp only at c1 d1 s1 dn' e1
 subst c1 d1 s1 dn'
 obtain⟨o2,e2,_,_,hd⟩:=I'
 obtain rfl:_=o2:=Ql (e1.symm.trans e2)
 obtain⟨hdn,_⟩|⟨dx',hdx',_,hns'⟩:=hd
 ·cases hdn
 cases hdx'
 refine h _ (I.write (x:=dx) (e:=dx) (h':=h') (t':=tk') (by rw[hdx];exact True.intro) (.inl rfl) (fun b u hb q=>?_) (let ⟨o,_,_,e',_⟩:=hns';⟨o,e'⟩) (ZhB hns' (fun g'=>?_) fun g' hg=>?_))
 ·by_cases hbe:b=e
  ·subst hbe
   rw[show hh.get? b=_ from ho]at q;cases q;exact e1
  ·exact hk b u hbe (fun o₀ dx' a b'=>by rw[ho]at a;cases a;cases b';exact hb) q
 ·show Za0 ((Zl f y fs).lookup g') (if g'=f then some u else mA g')
  rw[Zj]
  by_cases q:g'=f
  ·rw[if_pos q,if_pos q];exact ry
  ·rw[if_neg q,if_neg q];exact r g'
 ·by_cases q:g'=f
  ·rw[q];exact(Za1 f y fs).1
  ·refine(Za1 f y fs).2 g' (wi g' fun z=>hg ?_)
   show (if g'=f then some u else mA g')=none
   rw[if_neg q];exact z
end
def sX0(K:PySem.W.Frag)(C B:Addr)(ta tv:TE)(f:Str):TS:=fun D σ H=>tv σ H fun y H1=>ta σ H1 fun x H2=>∃e,x=.ref e∧H2 e=some (exN e C none)∧∀dx,H2 dx=none→dx≠e→D.nx σ (upd (upd H2 e (exN e C (some dx))) dx (xdO dx [(f,y)]))
def sX1(K:PySem.W.Frag)(C B:Addr)(ta tv:TE)(f:Str):TS:=fun D σ H=>tv σ H fun y H1=>ta σ H1 fun x H2=>∃e dx fs,x=.ref e∧H2 e=some (exN e C (some dx))∧H2 dx=some (xdO dx fs)∧dx≠e∧fs.length<1000∧D.nx σ (upd H2 dx (xdO dx (Zl f y fs)))
section
variable {X:Cx} {C B:Addr} {f:Str} {o value:Expr} {ta tv:TE} {pos pos':Pos}
theorem Zkr(c:XC X.K C B)(n:ZP X.K C f)(ha:PE X o ta)(hv:PE X value tv)(hs:swapsWith value (some (.Attribute o f pos')) pos.line X.env=pure false):PS X (.Assign [.Attribute o f pos'] value pos) (sX0 X.K C B ta tv f):=by
 intro pins s σ H D I h
 refine plainObj_wpAny_Assign_Attribute (thn (hv pins s σ H _ I h) fun u s1 ⟨y,H1,I1,ry,h1⟩=>thn (ha pins s1 σ H1 _ I1 h1) ?_) hs
 rintro ov s2 ⟨x,H2,I2,rx,e,ex,he,q⟩
 subst ex
 obtain rfl:ov=Value.ref e:=rx
 exact Zki I2 c n he ry fun dx s' hd ne I'=>⟨_,_,I',q dx hd ne⟩
theorem Zka(c:XC X.K C B)(n:ZP X.K C f)(ha:PE X o ta)(hv:PE X value tv)(hs:swapsWith value (some (.Attribute o f pos')) pos.line X.env=pure false):PS X (.Assign [.Attribute o f pos'] value pos) (sX1 X.K C B ta tv f):=by
 intro pins s σ H D I h
 refine plainObj_wpAny_Assign_Attribute (thn (hv pins s σ H _ I h) fun u s1 ⟨y,H1,I1,ry,h1⟩=>thn (ha pins s1 σ H1 _ I1 h1) ?_) hs
 rintro ov s2 ⟨x,H2,I2,rx,e,dx,fs,ex,he,hd,ne,hl,q⟩
 subst ex
 obtain rfl:ov=Value.ref e:=rx
 exact ZkI I2 c n he hd ne hl ry fun s' I'=>⟨_,_,I',q⟩
end
abbrev FV:ExcBaseFacts "ValueError" "ValueError.__new__" "ValueError.__init__" Zbp:=PySem.F.excBase_ValueError
section
variable {prog:Program} {w:World} {A:Around} {E:Value→Shared→Prop} {h:Heap} {g:Array GenState} {d:Drawn} {t:Nat} {os:OsState} {K:PySem.W.Frag}
variable {nm q:Str} {C N B:Addr} {bs:List Value} {hdct:Bool} {sn:List Str} {sub:List Value} {ab:Bool} {col:Option Bool} {dd:Option Addr} {k0 k1 k2 k3 k5:Option Value}
theorem mvV(C B:Addr):(Value.ref C::.ref B::Zbp).contains (.type "ValueError")=true:=by rw[Qv,Qv,FV.hasB];simp
theorem Ze5{M:Model}{Zab:List Value}{Q:Unit→Shared→Prop}(hC:h.get? C=some (excClassObj nm q C N bs (.ref B::Zbp) hdct sn sub ab col dd k0 k1 k2 k3 k5 "ValueError.__new__"))(hq:Q () ⟨h,g,d,t,os⟩):wpAny M A (checkBuiltinCall "ValueError.__new__" ⟨.ref C::Zab,[]⟩) Q E ⟨h,g,d,t,os⟩:=by
 have hcont:=mvV C B
 have hstar:=FV.noStar
 simp only[checkBuiltinCall,FV.newKind,FV.newSplit,FV.newRow]
 repeat (first|refine wpAny_loadPart_at hC ?_|(refine wpAny_isSubtype_exc hC ?_;rw[hcont])|refine wpAny_staticBase_exc hC ?_|refine wpAny_madeBy_exc hC ?_|simp only[bne_self_eq_false,Bool.false_eq_true,if_false]|wp_step)
 exact hq
theorem Zg2{Bn newId initId:String}{bm bmB:List Value}(F:ExcBaseFacts Bn newId initId bmB)(c1:bm.contains (.type Bn)=true)(c2:bm.contains (.type "AttributeError")=false)(c3:bm.contains (.type "NameError")=false){R:Result→Shared→Prop}{Zab:List Value}(hC:h.get? C=some (excClassObj nm q C N bs bm hdct sn sub ab col dd k0 k1 k2 k3 k5 newId))
  (hq:R (.ok (.ret (.ref (h.objs.size+1)))) ⟨(h.push { cls:=.type "tuple",data:=.seq Zab.toArray }).push
   { cls:=.ref C,data:=.fields #[.ref h.objs.size,.none,.none,.none,.bool false,.none] },g,d,t,os⟩) (hrest:Zab.length≤sizeLine) :
  codeAny (model prog w) A (.builtin newId ⟨.ref C::Zab,[]⟩) R ⟨h,g,d,t,os⟩:=by
 have hends:=F.ends
 have hcB:(Value.ref C::bm).contains (.type Bn)=true:=by rw[Qv,c1,Qaf]
 have hcA:(Value.ref C::bm).contains (.type "AttributeError")=false:=by rw[Qv,c2];rfl
 have hcN:(Value.ref C::bm).contains (.type "NameError")=false:=by rw[Qv,c3];rfl
 refine codeAny_builtinAt F.entry ?_
 unfold Builtin.«BaseException.__new__»
 refine PySem.wpAt_bind ?_
 show PySem.wpAt _ _ _ (stack >>= _) _ _ _
 refine PySem.wpAt_bind (PySem.wpAt_stack fun p below=>PySem.wpAt_of_wpAny ?_)
 wp_walk
 refine PySem.wpAt_of_wpAny ?_
 rw[F.owner]
 repeat (first|with_reducible refine wpAny_madeHere_exc F.canon hC ?_|with_reducible refine wpAny_loadPart_at hC ?_|(with_reducible refine wpAny_isSubtype_exc hC ?_;first|rw[hcB]|rw[hcA]|rw[hcN])|wp_step)
 show R _ _
 rw[Qae]
 exact hq
theorem Zfn{Zab:List Value}{fI:Addr}{Q:Fin→Shared→Prop}(X:K.In h)(hC:h.get? C=some (excClassObj nm q C N bs (.ref B::Zbp) hdct sn sub ab col dd k0 k1 k2 k3 k5 "ValueError.__new__"))(hi:PySem.W.findIn K (.ref C) "__init__" = some (some (.ref fI)))(hfn:PySem.W.isFn K (.ref fI)=true)
  (hq:∀h' T,(∀b o,h.get? b=some o→h'.get? b=some o)→h'.get? (h.objs.size+1)=some { cls:=.ref C,data:=.fields #[.ref T,.none,.none,.none,.bool false,.none] }→wpAny (model prog w) A (call (.ref fI) (.ref (h.objs.size+1)::Zab)) (fun r s'=>r=.none∧Q (.done (.ret (.ref (h.objs.size+1)))) s') E ⟨h',g,d,t,os⟩) (hrest:Zab.length≤sizeLine) :
  wpAny (model prog w) A (Builtin.«type.__call__» ⟨.ref C::Zab,[]⟩) Q E ⟨h,g,d,t,os⟩:=by
 repeat (first|with_reducible refine wpAny_loadPart_at hC ?_|with_reducible refine wpAny_madeBy_exc hC ?_|wp_step)
 refine codeAny_call_builtin_code (Code.quiet_builtin _ FV.quiet) (Ze5 hC ?_)
 refine Zg2 FV (by rw[Qv,FV.hasB,Qaf]) (by rw[Qv,FV.noAttr];rfl) (by rw[Qv,FV.noName];rfl) hC ?_ hrest
 show wpAny _ _ _ _ _ _
 generalize hh1:h.push { cls:=.type "tuple",data:=.seq Zab.toArray }=h1
 have e1:h1.objs.size=h.objs.size+1:=by rw[← hh1];exact Qae _ _
 have k1:∀b o,h.get? b=some o→h1.get? b=some o:=fun b o hb=>by rw[← hh1];exact Qc _ hb
 generalize hh2:h1.push { cls:=.ref C,data:=.fields #[.ref h.objs.size,.none,.none,.none,.bool false,.none] }=h2
 have k2:∀b o,h.get? b=some o→h2.get? b=some o:=fun b o hb=>by rw[← hh2];exact Qc _ (k1 b o hb)
 have hget:h2.get? (h.objs.size+1)=some { cls:=.ref C,data:=.fields #[.ref h.objs.size,.none,.none,.none,.bool false,.none] }:=by rw[← hh2,← e1];exact Heap.get?_push_at rfl rfl
 have hC₁:=k2 _ _ hC
 have X2:K.In h2:=X.keeps k2
 have hcC:(Value.ref C::.ref B::Zbp).contains (.ref C)=true:=by simp
 unfold isInstance
 repeat (first|with_reducible refine wpAny_loadPart_at hget ?_|(with_reducible refine wpAny_isSubtype_exc hC₁ ?_;rw[hcC])|wp_step)
 show wpAny _ _ (typeLookup (.ref C) _) _ _ _
 refine(QI X2 hi).at ?_
 refine wpAny_holding (wpAny_bind ?_)
 refine(PySem.W.bind_fn X2 (.ref (h.objs.size+1)) (beq_iff_eq.mp hfn)).at ?_
 refine wpAny_bind (wpAny_mono (hq h2 h.objs.size k2 hget) (fun r s' hr=>?_) fun _ _ x=>x)
 obtain⟨rfl,hQ⟩:=hr
 wp_walk
 exact hQ
theorem Zkp{Zab:List Value}{fI:Addr}{Q:Value→Shared→Prop}(X:K.In h)(hC:h.get? C=some (excClassObj nm q C N bs (.ref B::Zbp) hdct sn sub ab col dd k0 k1 k2 k3 k5 "ValueError.__new__"))(hi:PySem.W.findIn K (.ref C) "__init__" = some (some (.ref fI)))(hfn:PySem.W.isFn K (.ref fI)=true)
  (hq:∀h' T,(∀b o,h.get? b=some o→h'.get? b=some o)→h'.get? (h.objs.size+1)=some { cls:=.ref C,data:=.fields #[.ref T,.none,.none,.none,.bool false,.none] }→wpAny (model prog w) (A.under (.builtin "type.__call__" ⟨.ref C::Zab,[]⟩)) (call (.ref fI) (.ref (h.objs.size+1)::Zab)) (fun r s'=>r=.none∧Q (.ref (h.objs.size+1)) s') E ⟨h',g,d,t,os⟩) (hrest:Zab.length≤sizeLine) :
  wpAny (model prog w) A (call (.ref C) Zab) Q E ⟨h,g,d,t,os⟩:=by
 have f1:=tc_lookup
 have f2:=tc_bind (.ref C)
 have hT:(⟨h,g,d,t,os⟩:Shared).TypeIs (.ref C) "type":=⟨_,hC,rfl⟩
 refine wpAny_call (codeAny_of_tree ?_)
 show wpAny _ _ (callAny (.ref C) _) _ _ _
 repeat (any_goals (first|assumption|with_reducible refine wpAny_loadPart_at hC ?_|wp_step))
 refine⟨rfl,codeAny_call_builtin_at (Code.quiet_builtin _ (by ac_rfl)) entry_typeCall (wpAny_check_type_call_sub hC (Zfn X hC hi hfn (fun h' T k hm=>hq h' T k hm) hrest))⟩
theorem ZeC{M:Model}{e:Addr}{oe:Obj}{Zab:List Value}{Q:Unit→Shared→Prop}(hC:h.get? C=some (excClassObj nm q C N bs (.ref B::Zbp) hdct sn sub ab col dd k0 k1 k2 k3 k5 "ValueError.__new__"))(he:h.get? e=some oe)(hcls:oe.cls=.ref C)(hq:Q () ⟨h,g,d,t,os⟩) :
  wpAny M A (checkBuiltinCall "ValueError.__init__" ⟨.ref e::Zab,[]⟩) Q E ⟨h,g,d,t,os⟩:=by
 have hcB:=mvV C B
 have hshort:=FV.noStar
 simp only[checkBuiltinCall,FV.initKind,FV.initSplit,FV.initRow]
 repeat (first|(with_reducible refine wpAny_loadPart_at he ?_;rw[hcls])|with_reducible refine wpAny_loadPart_at hC ?_|(with_reducible refine wpAny_isSubtype_exc hC ?_;rw[hcB])|wp_step)
 refine wpAny_onRaise ?_
 rw[show ∀ (a b:String) (n:Nat),Bind.check ⟨.positional, "*", "ValueError",.self,[⟨"args",.varPos,false⟩]⟩ a b n (List.map (fun x=>x.fst) ({ pos:=Value.ref e::Zab }:Args).kw)=pure () from
  fun a b n=>check_star_args _ _ _ _ _ _]
 exact wpAny_pure hq
theorem Zkc{e T:Addr}{u:Value}{di:Option Addr}{Q:Value→Shared→Prop}(hC:h.get? C=some (excClassObj nm q C N bs (.ref B::Zbp) hdct sn sub ab col dd k0 k1 k2 k3 k5 "ValueError.__new__"))(he:h.get? e=some { cls:=.ref C,dict:=di,data:=.fields #[.ref T,.none,.none,.none,.bool false,.none] })
  (hq:∀h',(∀b o,b≠e→h.get? b=some o→h'.get? b=some o)→(∃T',h'.get? e=some { cls:=.ref C,dict:=di,data:=.fields #[.ref T',.none,.none,.none,.bool false,.none] })→Q .none ⟨h',g,d,t,os⟩) :
  wpAny (model prog w) A (call (.builtin "ValueError.__init__") [.ref e,u]) Q E ⟨h,g,d,t,os⟩:=by
 refine wpAny_call (codeAny_call_builtin FV.init.plain FV.initEntry (ZeC hC he rfl ?_))
 wp_walk
 refine hq _ (fun b o hb ho=>?_) ⟨h.objs.size,?_⟩
 ·rw[QG _ _ (Ne.symm hb)]
  exact Qc _ ho
 ·rw[QD _ (Qc _ he) rfl]
  rfl
end
abbrev TJ:=Str→St→Hp→VK→Prop
def PJ(X:Cx)(es:List Expr)(t:TJ):Prop :=
 ∀ (pins:List (Addr×Obj)) (s:Shared) (σ:St) (H:Hp) (out:Str) (Q:VK),Inv X pins σ H s→t out σ H Q→wpAny (model X.prog X.w) X.A (joinParts out (evalEach es X.env)) (EP X pins σ Q) X.xe s
def ZkU:TJ:=fun out _ H Q=>out.length≤sizeLine∧Q (.str out) H
def ZkL(te:TE)(t:TJ):TJ:=fun out σ H Q=>te σ H fun v H1=>∃y,v=.str y∧(out++y).length≤sizeLine∧t (out++y) σ H1 Q
def Zj8(te:TE):TE:=fun σ H Q=>te σ H fun v H1=>∃i:Int,v=.int i∧i.natAbs.log2<1920∧Q (.str (toString i)) H1
section
variable {X:Cx} {e e1 e2:Expr} {es:List Expr} {te:TE} {t:TJ} {pos:Pos}
theorem Zjq:PJ X [] ZkU:=fun _ _ _ H out _ I h=>joinParts_nil ⟨.str out,H,I.tok _,⟨_,rfl⟩,h.2⟩ h.1
theorem ZbY(he:PE X e te)(hr:PJ X es t):PJ X (e::es) (ZkL te t):=by
 intro pins s σ H out Q I h
 refine joinParts_cons (thn (he pins s σ H _ I h) fun u s1 a=>?_)
 obtain⟨v,H1,I1,r,y,rfl,hz,q⟩:=a
 obtain⟨tk,rfl⟩:=(show ∃tk,u=Value.str y tk from r)
 exact⟨hz,hr pins s1 σ H1 _ Q I1 q⟩
theorem Zf4(h:PJ X (e1::e2::es) t):PE X (.JoinedStr (e1::e2::es) pos) (t Str.empty):=fun pins s σ H Q I q=>JoinedStr_many (h pins s σ H _ Q I q)
theorem ZfE(he:PE X e te):PE X (.FormattedValue e (-1) none pos) (Zj8 te):=by
 intro pins s σ H Q I h
 refine FormattedValue_plain (thn (he pins s σ H _ I h) fun u s1 a=>?_)
 obtain⟨v,H1,I1,r,i,rfl,hz,q⟩:=a
 obtain⟨tk,rfl⟩:=(show ∃tk,u=Value.int i tk from r)
 exact formatField_int_small hz ⟨.str (toString i),H1,I1.tok _,⟨_,rfl⟩,q⟩
end
structure XB (K:PySem.W.Frag) (B:Addr):Prop where
 sp:PySem.W.specialIn K (.ref B) "__getattribute__" = some (some (.builtin "type.__getattribute__"))
 rd:PySem.W.readsIn K B (.type "type")=true
 fi:PySem.W.findCls K (.ref B) (.type "type") "__init__" = some (.val (.builtin "ValueError.__init__"))
def tXI(C:Addr)(t:TA):TE:=fun σ H Q=>t σ H fun vs H1=>∃e x dd,vs=[.ref e,.str x]∧H1 e=some (exN e C dd)∧Q .non H1
structure XM (K:PySem.W.Frag) (C B f:Addr):Prop where
 obj:∃ (nm q:Str) (N:Addr) (bs:List Value) (sn:List Str) (sub:List Value) (ab:Bool) (col:Option Bool) (dd:Option Addr) (k0 k1 k2 k3 k5:Option Value),
  K.lookup C=some (excClassObj nm q C N bs (.ref B::Zbp) true sn sub ab col dd k0 k1 k2 k3 k5 "ValueError.__new__")
 init:PySem.W.findIn K (.ref C) "__init__" = some (some (.ref f))
 fn:PySem.W.isFn K (.ref f)=true
 kp:PySem.W.keepIn K (.ref C)=true
 sa:PySem.W.findIn K (.ref C) "__setattr__" = some (some (.builtin "object.__setattr__"))
theorem XM.xc{K:PySem.W.Frag}{C B f:Addr}(c:XM K C B f):XC K C B:=by
 obtain⟨nm,q,N,bs,sn,sub,ab,col,dd,k0,k1,k2,k3,k5,h⟩:=c.obj
 exact⟨⟨nm,q,N,bs,sn,sub,ab,col,dd,k0,k1,k2,k3,k5,_,h⟩,c.sa⟩
section
variable {X:Cx} {C B f:Addr} {x:Str} {p apos pos cpos:Pos} {e:Expr} {es:List Expr} {t:TA}
theorem ZhO{pl:Sem Bool}(c:XM X.K C B f)(b:XB X.K B)(hg:Gl X x)(hm:X.mg x=some (.ref B))(ha:PA X (e::es) t)(hdb:(x == ("__debug__" : Str))=false:=by decide)
  (he:starEach (e::es) X.env=(false,eval e X.env)::starEach es X.env:=by rfl) (hpl:(backTo pos (starEach es X.env)).any (·.1)=false:=by rfl)
  (ht:eval (.Call (.Attribute (.Name x p) "__init__" apos) (e::es) [] pos) X.env=(do
   let ov ← eval (.Name x p) X.env
   standAt apos.atName
   let (f,first) ← holding [ov] (getMethod ov "__init__" pl)
   callWith pos f first (backTo pos (starEach (e::es) X.env)) (backToKw pos (keywordEach [] X.env))):=by rfl) :
  PE X (.Call (.Attribute (.Name x p) "__init__" apos) (e::es) [] pos) (tXI C t):=by
 intro pins s σ H Q I h
 refine PySem.W.methodCall_KW (pl:=pl) (ZaS I hg hm ?_ hdb) ht
 refine PySem.W.method_cls I.kIn b.sp (PySem.W.cls_value I.kIn b.rd b.fi rfl ?_)
 refine PyProof.Rows.callWith_builtin1 (thn (ha pos pins _ σ H _ (I.tok _) h) fun us s1 a=>?_) he hpl
 obtain⟨vs,H1,I1,r,e',y,dd,rfl,hx,q⟩:=a
 obtain⟨nm,q',N,bs,sn,sub,ab,col,dq,k0,k1,k2,k3,k5,lC⟩:=c.obj
 obtain⟨⟨T,ho⟩,_,_⟩:=I1.hok e' _ hx
 cases r with
 | cons r1 r =>
  cases r with
  | cons r2 r =>
   cases r
   obtain rfl:=r1
   obtain⟨hh,g,d,tk,os⟩:=s1
   refine Zkc (I1.kIn _ _ lC) ho fun h' k hT=>?_
   obtain⟨T',hT⟩:=hT
   have I2:=I1.write (x:=e') (e:=e') (o:=exN e' C dd) (h':=h') (t':=tk) (by rw[hx];exact True.intro) (.inl rfl) (fun b u hb z=>k b u hb z) ⟨_,hT⟩ (ZeT hT)
   have eH:upd H1 e' (exN e' C dd)=H1:=by
    funext b
    by_cases z:b=e'
    ·rw[z,Ze,hx]
    ·rw[Zc z]
   rw[eH]at I2
   exact⟨.non,H1,I2,rfl,q⟩
end
section
variable {X:Cx} {pins:List (Addr×Obj)} {σ:St} {H:Hp} {s:Shared}
theorem Inv.untrack{e:Addr}{φ:Heap→Prop}(I:Inv X pins σ H s)(hx:H e=some (.ext φ)):Inv X pins σ (off e H) s:=by
 have nn:∀ {b:Addr},H b=none→off e H b=none:=fun h=>Zhz h
 have ne:∀ {b:Addr} {o:HO},H b=some o→o≠.ext φ→b≠e:=fun h n z=>by rw[z,hx]at h;cases h;exact n rfl
 refine⟨I.ok,I.os,I.bare,⟨I.base.keep,I.base.slot,fun b o hb n x=>nn (I.base.free b o hb n x),I.base.there,fun b xs h=>?_,fun b o u h=>?_,fun b ps h=>?_⟩,I.loc,I.cell,nn I.free,fun x c hc=>nn (I.freeC x c hc),fun p hp=>?_,fun a u ha=>?_,I.len⟩
 ·have:=I.base.tups b xs h
  exact ZbS this (ne this (by intro z;cases z))
 ·have:=I.base.frzs b o u h
  exact ZbS this (ne this (by intro z;cases z))
 ·obtain⟨more,this⟩:=I.base.tbls b ps h
  exact⟨more,ZbS this (ne this (by intro z;cases z))⟩
 ·obtain⟨a1,a2,a3⟩:=I.pin p hp
  exact⟨a1,nn a2,a3⟩
 ·exact(I.hok a u (ZjG a u ha)).stay (fun _ _ _ q=>q) (fun b hb=>ZbS hb (ne hb (by intro z;cases z))) fun b xs hb=>ZbS hb (ne hb (by intro z;cases z))
end
section
variable {M:Model} {A:Around} {E:Value→Shared→Prop} {env:Env}
theorem Zfm{s:Shared}{x:Sem Value}{Q:Flow→Shared→Prop}(hh:A.handled=none)
  (h:wpAny M A x (fun v s₁=>∃ (e C T:Addr) (di:Option Addr) (nm q:Str) (N:Addr) (bs bm:List Value) (hdct:Bool) (sn:List Str) (sub:List Value) (ab:Bool) (col:Option Bool) (dd:Option Addr) (k0 k1 k2 k3 k5:Option Value) (newId:String),
   v=.ref e∧s₁.heap.get? C=some (excClassObj nm q C N bs bm hdct sn sub ab col dd k0 k1 k2 k3 k5 newId)∧bm.contains (.type "BaseException")=true∧s₁.heap.get? e=some { cls:=.ref C,dict:=di,data:=.fields #[.ref T,.none,.none,.none,.bool false,.none] }∧E (.ref e) s₁) E s) :
  wpAny M A (raiseStmt env (some x) none) Q E s:=by
 unfold raiseStmt
 refine wpAny_bind (wpAny_mono h (fun v s₁ h₁=>?_) fun _ _ x=>x)
 obtain⟨e,C,T,di,nm,q,N,bs,bm,hdct,sn,sub,ab,col,dd,k0,k1,k2,k3,k5,newId,rfl,hC,hbase,he,hE⟩:=h₁
 obtain⟨hp,g,d,tk,os⟩:=s₁
 have hcB:(Value.ref C::bm).contains (.type "BaseException")=true:=by rw[Qv,hbase,Qaf]
 repeat (first|with_reducible refine wpAny_loadPart_at he ?_|with_reducible refine wpAny_loadPart_at hC ?_|(with_reducible refine wpAny_isSubtype_exc hC ?_;rw[hcB])|wp_step)
 exact wpAny_raiseNew_none hh hE
end
def Zg6(C:Addr)(sp:Sp)(E:St→XK)(t:TA):TS:=fun _ σ H=>t σ H fun vs H1=>∀e,H1 e=none →
 sp (.ref e::vs) (upd H1 e (exN e C none)) (fun v H2=>v=.non∧∃dd,H2 e=some (exN e C dd)∧E σ (.ref C) dd (off e H2)) fun _ _ _=>False
section
variable {X:Cx} {E:St→XK} {k:Nat} {f C B:Addr} {fd:FuncData} {ps:List Str} {sp:Sp} {x:Str} {p pos cpos:Pos} {e:Expr} {es:List Expr} {t:TA}
theorem ZkB{pins:List (Addr×Obj)}{σ:St}{H:Hp}{s:Shared}{us:List Value}{vs:List V}{Q:Hp→Option Addr→Addr→Prop}(M:XM X.K C B f)(F:ZaA X.prog X.w X.K X.mg X.base CX0 k f fd ps sp)(hr:ZM (k+1) X.A)(hb:Z7 X.K fd ps [])(hps:ps.length≤1000)
  (I:Inv X pins σ H s) (r:Zv vs us) (h:∀e,H e=none→sp (.ref e::vs) (upd H e (exN e C none)) (fun v H2=>v=.non∧∃dd,H2 e=some (exN e C dd)∧Q H2 dd e) fun _ _ _=>False) :
  wpAny (model X.prog X.w) X.A (call (.ref C) us) (fun u s'=>∃e dd H2,u=.ref e∧s.heap.objs.size≤e∧Inv X pins σ H2 s'∧H2 e=some (exN e C dd)∧Q H2 dd e) X.xe s:=by
 have hq:=h (s.heap.objs.size+1) (I.hok.fresh (QZ _))
 obtain⟨nm,q',N,bs,sn,sub,ab,col,dq,k0,k1,k2,k3,k5,lC⟩:=M.obj
 have r2:Zv (V.ref (s.heap.objs.size+1)::vs) (Value.ref (s.heap.objs.size+1)::us):=.cons rfl r
 have hl:(Value.ref (s.heap.objs.size+1)::us).length=ps.length:=by
  have e:=r2.length
  rw[F.len _ _ _ _ hq]at e
  exact e.symm
 obtain⟨hh,g,d,tk,os⟩:=s
 refine Zkp I.kIn (I.kIn _ _ lC) M.init M.fn (fun h' T kp ho=>?_) (by rw[QB]at hl;rw[sizeLine_eq];omega)
 have I2:Inv X pins σ (upd H (hh.objs.size+1) (exN (hh.objs.size+1) C none)) ⟨h',g,d,tk,os⟩:=I.laid (a:=hh.objs.size+1) (h':=h') (t':=tk) (fun b u z=>kp b u z) (QZ _) (ZeT ho)
 have hb':=hb _ (Value.ref (hh.objs.size+1)::us) I2.kIn (by rw[QU];exact hl)
 rw[QU]at hb'
 refine wpAny_call (codeAny_mono (F.run _ X.stack _ _ ⟨Value.ref (hh.objs.size+1)::us,[]⟩ (Value.ref (hh.objs.size+1)::us) _ _ (fun _ _ _=>False) (hr.make C us [])
  (I2.env0.make C us []) hb' r2 hq) fun r s' hq'=>?_)
 cases r with
 | error e=>exact False.elim hq'
 | ok fl =>
  cases fl with
  | ret u =>
   obtain⟨v,H',I3,rv,ev,dd,he,q3⟩:=I2.after hq'
   subst ev
   exact⟨rv,_,dd,H',rfl,QZ _,I3,he,q3⟩
  | next=>exact False.elim hq'
  | brk=>exact False.elim hq'
  | cont=>exact False.elim hq'
theorem Zgq(M:XM X.K C B f)(F:ZaA X.prog X.w X.K X.mg X.base CX0 k f fd ps sp)(hr:ZM (k+1) X.A)(hg:Gl X x)(hm:X.mg x=some (.ref C))(hb:Z7 X.K fd ps [])(hps:ps.length≤1000)(hx:∀ev s',XE X E ev s'→X.xe ev s')
  (ha:PA X (e::es) t) (hdb:(x == ("__debug__" : Str))=false:=by decide) (he:starEach (e::es) X.env=(false,eval e X.env)::starEach es X.env:=by rfl) (hpl:(backTo cpos (starEach es X.env)).any (·.1)=false:=by rfl) :
  PS X (.Raise (some (.Call (.Name x p) (e::es) [] cpos)) none pos) (Zg6 C sp E t):=by
 intro pins s σ H D I h
 rw[arm_exec_Raise]
 refine wpAny_bind (wpAny_standAt (Zfm hr.hd ?_))
 refine wpAny_bind (wpAny_mono (Q:=fun v s1=>∃ (e' C' T:Addr) (di:Option Addr) (nm q:Str) (N:Addr) (bs bm:List Value) (hdct:Bool) (sn:List Str) (sub:List Value) (ab:Bool) (col:Option Bool) (dd:Option Addr) (k0 k1 k2 k3 k5:Option Value) (newId:String),
   v=.ref e'∧s1.heap.get? C'=some (excClassObj nm q C' N bs bm hdct sn sub ab col dd k0 k1 k2 k3 k5 newId)∧bm.contains (.type "BaseException")=true∧s1.heap.get? e'=some { cls:=.ref C',dict:=di,data:=.fields #[.ref T,.none,.none,.none,.bool false,.none] }∧X.xe (.ref e') s1) (wpAny_Call_Name_kw (ZaS I hg hm ?_ hdb)) (fun v s₃ h₃=>wpAny_bind (wpAny_standAt (wpAny_pure h₃))) fun _ _ x=>x)
 refine QO (h₀:=X.base) I.ok.mod.kin M.kp (thn (ha cpos pins s σ H _ I h) fun us s1 a=>?_) he hpl
 obtain⟨vs,H1,I1,r,q⟩:=a
 refine⟨I1.kIn,thn (ZkB (Q:=fun H2 dd e=>E σ (.ref C) dd (off e H2)) M F hr hb hps I1 r q) fun u s2 z=>?_⟩
 obtain⟨e',dd,H2,rfl,hsz,I2,hx2,q2⟩:=z
 obtain⟨nm,q',N,bs,sn,sub,ab,col,dq,k0,k1,k2,k3,k5,lC⟩:=M.obj
 obtain⟨⟨T,ho⟩,_,_⟩:=I2.hok e' _ hx2
 have old:∀a o,s1.heap.get? a=some o→a≠e':=fun a o ha z=>by have:=Qd ha;rw[z]at this;exact absurd this (Nat.not_lt.mpr hsz)
 refine⟨e',C,T,dd,nm,q',N,bs,.ref B::Zbp,true,sn,sub,ab,col,dq,k0,k1,k2,k3,k5, "ValueError.__new__",rfl,I2.kIn _ _ lC,by rw[Qv,FV.hasBase,Qaf],ho,hx _ _ ?_⟩
 refine⟨e',.ref C,dd,pins,σ,off e' H2,rfl,Qq I1.sz hsz,fun z=>?_,fun y c hc z=>?_,by unfold off;rw[if_pos rfl],I2.untrack hx2,fun p hp z=>?_,.inl ⟨_,_,ho,rfl,rfl,rfl,rfl⟩,q2⟩
 ·obtain⟨m,⟨o,_,_,ho',_⟩,_⟩:=I1.loc
  exact old _ _ ho' z.symm
 ·obtain⟨v,o,ho',_⟩:=I1.cell y c hc
  exact old _ _ ho' z
 ·exact old _ _ (I1.pin p hp).1 z
end
abbrev Zjx(prog:Program)(w:World)(A:Around)(E:Value→Shared→Prop)(Q:Value→Shared→Prop):Result→Shared→Prop:=fun r s'=>match r with|.ok (.ret v)=>wpAny (model prog w) A (handedOut v) Q E s'|_=>False
structure XG (K:PySem.W.Frag) (C:Addr):Prop where
 ga:PySem.W.findIn K (.ref C) "__getattribute__" = some (some (.builtin "BaseException.__getattribute__"))
 gh:PySem.W.findIn K (.ref C) "__getattr__" = some none
 sb:PySem.W.subIn K (.ref C) (.type "BaseException")=some true
 hd:PySem.W.hasDictIn K C=true
 ca:PySem.W.findIn K (.ref C) "__class__" = some (some (.builtin "object.__class__"))
 hm:PySem.W.mroIn K C (.type "object")=some true
section
variable {prog:Program} {w:World} {A:Around} {E:Value→Shared→Prop} {s:Shared} {K:PySem.W.Frag} {C e:Addr} {oe:Obj} {od:Option Obj} {name:Str}
theorem ZfT{tk:Tok}{fill expr:Bool}{Q:Value→Shared→Prop}(X:K.In s.heap)(I:PySem.W.InstAt s.heap e oe C od)(c:XG K C)
  (h:wpAny (model prog w) A.in1 (Builtin.«object.__getattribute__» ⟨[.ref e,.str name tk],[]⟩)
   (fun fin s'=>match fin with|.done f=>Zjx prog w A E Q (.ok f) s'|.again c'=>c'.quiet=true∧codeAny (model prog w) A c' (Zjx prog w A E Q) s') (fun ev s'=>Zjx prog w A E Q (.error ev) s') s) :
  wpAny (model prog w) A (getAttrBy (.ref e) (.str name tk) fill expr) Q E s:=by
 have L0:=I.type (M:=model prog w)
 have L1:=QI (M:=model prog w) X c.ga
 have L2:=QI (M:=model prog w) X c.gh
 unfold getAttrBy
 refine wpAny_holding (wpAny_bind (L0.here (wpAny_bind (L1.here ?_))))
 dsimp only
 have hx2:(Value.builtin "BaseException.__getattribute__" == Value.builtin "object.__getattribute__")=false:=by ac_rfl
 rw[hx2,Bool.and_false,if_neg (by decide)]
 unfold getAttrByItsOwn hookBefore callGetattribute boundAndCalled
 have hx0:(expr&&onTheHeap (Value.builtin "BaseException.__getattribute__"))=false:=by cases expr<;>rfl
 rw[show onTheHeap (Value.ref C)=true from rfl,if_pos rfl,hx0,if_neg (by decide),PySem.F.excAttr_ValueError.ga.bind]
 refine wpAny_bind (L2.here (wpAny_bind (wpAny_attempt (wpAny_holding (wpAny_bind (wpAny_pure (wpAny_call ?_)))))))
 refine codeAny_call_builtin PySem.F.excAttr_ValueError.ga.plain PySem.F.entry_bexc_ga ?_
 refine @PySem.W.check_slot (model prog w) _ _ s "BaseException.__getattribute__" "BaseException" "__getattribute__" (.ref e) [.str name tk] [] _ (by ac_rfl) (by ac_rfl) (L0.andThen (PySem.W.looks_subIn X c.sb)) (PySem.F.args_bexc_ga (.ref e) (.str name tk)) ?_
 refine wpAny_mono h (fun fin s' z=>?_) fun _ _ z=>z.elim
 cases fin with
 | done f=>cases f<;>first|exact z|exact z.elim
 | again c'=>exact⟨z.1,codeAny_mono z.2 fun r s2 y=>by rcases r with _|(_|_|_|_)<;>first|exact y|exact y.elim⟩
theorem ZgN{expr:Bool}{v:Value}{Q:Value→Shared→Prop}(X:K.In s.heap)(I:PySem.W.InstAt s.heap e oe C od)(c:XG K C)(hf:PySem.W.findObj K C od name=some (.value v))(hh:PySem.W.handedIn v=true)
  (h:Q v { s with toks:=s.toks+1 }):wpAny (model prog w) A (getAttr (.ref e) name expr) Q E s:=by
 refine wpAny_bind (wpAny_mkText (ZfT (s:={ s with toks:=s.toks+1 }) X I c ?_))
 obtain⟨h0,g,d,tt,os⟩:=s
 have L0:=I.type (M:=model prog w)
 have L1:=PySem.W.looks_find (M:=model prog w) X I hf
 unfold Builtin.«object.__getattribute__»
 refine wpAny_bind (wpAny_pure (wpAny_bind (wpAny_pure (wpAny_bind (L0.at (wpAny_bind (L1.at ?_)))))))
 refine wpAny_pure ?_
 show wpAny _ _ (handedOut v) _ _ _
 rw[PySem.W.handedOut_of hh];exact wpAny_pure h
theorem Zjo{Q:Option Value→Shared→Prop}(X:K.In s.heap)(I:PySem.W.InstAt s.heap e oe C od)(c:XG K C)(hf:PySem.W.findObj K C od "__class__" = some (.bind (.builtin "getset_descriptor.__get__") (.builtin "object.__class__")))
  (h:Q (some (.ref C)) { s with toks:=s.toks+1 }):wpAny (model prog w) A (getAttr? (.ref e) "__class__") Q E s:=by
 refine wpAny_bind (wpAny_mkText (wpAny_bind (wpAny_attempt (ZfT (s:={ s with toks:=s.toks+1 }) X I c ?_))))
 obtain⟨h0,g,d,tt,os⟩:=s
 have L0:=I.type (M:=model prog w)
 have L1:=PySem.W.looks_find (M:=model prog w) X I hf
 unfold Builtin.«object.__getattribute__»
 refine wpAny_bind (wpAny_pure (wpAny_bind (wpAny_pure (wpAny_bind (L0.at (wpAny_bind (L1.at ?_)))))))
 show wpAny _ _ (Builtin.ObjectAttr.bindTo _ _ _ _) _ _ _
 unfold Builtin.ObjectAttr.bindTo
 refine wpAny_bind (wpAny_holding (wpAny_call (PySem.W.class_get (s:=⟨h0,g,d,tt+1,os⟩) (ox:=oe) (od:=od) X I c.hm ?_)))
 refine wpAny_pure ?_
 show wpAny _ _ (handedOut (.ref C)) _ _ _
 rw[PySem.W.handedOut_of rfl];exact wpAny_pure (wpAny_pure h)
theorem Zk9(c:XG K C)(hn:PySem.W.specialIn K (.builtin "object.__class__") "__get__" = some (some (.builtin "getset_descriptor.__get__")))(htk:PySem.W.takesIn K (.builtin "object.__class__")=some true) :
  PySem.W.KitX K (.ref e) (.ref C) (fun h=>∃oe od,PySem.W.InstAt h e oe C od) where
 ty:=fun _ _ _ I=>by obtain⟨oe,od,I⟩:=I;exact I.type
 it:=fun _ _ X _=>by
  obtain⟨cdD,hcD,_⟩:=Qai c.hd
  unfold PySem.W.clsIn at hcD
  split at hcD
  ·rename_i c' d' cd' sl' ho
   intro A' Q' E' s' k q
   unfold isType loadHead
   exact wpAny_bind (wpAny_loadPart (k _ _ (X _ _ ho)) (wpAny_pure q))
  ·cases hcD
 ne:=fun h tp dd its n sl X htp=>by
  obtain⟨cdD,hcD,_⟩:=Qai c.hd
  refine Bool.eq_false_iff.mpr fun q=>?_
  have e:C=tp:=Value.ref.inj (beq_iff_eq.mp q)
  subst e
  unfold PySem.W.clsIn at hcD
  split at hcD
  ·rename_i c' d' cd' sl' ho
   have z:=(X _ _ ho).symm.trans htp
   cases z
  ·cases hcD
 ca:=fun X I k=>by
  obtain⟨oe,od,I⟩:=I
  refine Zjo X I c ?_ k
  obtain⟨cd,hc,_⟩:=Qai c.hd
  unfold PySem.W.findObj
  rw[hc,c.ca]
  simp only[Option.bind_some,hn,htk]
end
end L2
namespace L2
open PySem PySem.Spec PyProof.Rows
def tXF(K:PySem.W.Frag)(ta:TE)(f:Str):TE:=fun σ H Q=>ta σ H fun x H1=>∃e C dx fs v,x=.ref e∧H1 e=some (exO e C (some dx))∧H1 dx=some (xdO dx fs)∧XG K C∧ZP K C f∧fs.lookup f=some v∧Q v H1
def Zlk(K:PySem.W.Frag):List V→Hp→VK→Prop:=fun vs H Q=>∃e C dd c b,vs=[.ref e,c]∧H e=some (exO e C dd)∧XG K C∧(dd=none∨∃dx fs,dd=some dx∧H dx=some (xdO dx fs)) ∧
 (∀u,ZA c u→PySem.W.kitOne K (.ref C) u=some b)∧PySem.W.specialIn K (.builtin "object.__class__") "__get__" = some (some (.builtin "getset_descriptor.__get__"))∧PySem.W.takesIn K (.builtin "object.__class__")=some true∧Q (.bl b) H
def Ziy:V→List V→Hp→VK→Prop:=fun x vs H Q=>∃ (l:Addr) (ns:List Bool) (n:Bool),x=.ref l∧vs=[.bl n]∧H l=some (.lst (ns.map V.bl))∧Q (.int ((ns.count n:Nat):Int)) H
theorem Zb9(n:Bool):∀ {ns:List Bool} {us:List Value},Zv (ns.map V.bl) us→us.countP (isBoolOf n)=ns.count n
 | [],_,h=>by cases h;rfl
 | m::r,_,h=>by
  cases h with
  | cons h1 h2 =>
   obtain rfl:=h1
   rw[List.countP_cons,List.count_cons,Zb9 n h2]
   rfl
section
variable {X:Cx} {pins:List (Addr×Obj)} {σ:St} {H:Hp} {s:Shared} {e C:Addr} {dd:Option Addr}
theorem Zkm(I:Inv X pins σ H s)(he:H e=some (exO e C dd))(hd:dd=none∨∃dx fs,dd=some dx∧H dx=some (xdO dx fs)):∃oe od,PySem.W.InstAt s.heap e oe C od:=by
 obtain⟨⟨oe,vs,h1,h2,h3,h4⟩,_,_⟩:=I.hok e _ he
 have nc:PySem.W.notCls oe=true:=by unfold PySem.W.notCls;rw[h4]
 rcases hd with rfl|⟨dx,fs,rfl,hd⟩
 ·exact⟨oe,none,h1,h2,nc,by rw[h3];exact True.intro⟩
 ·obtain⟨_,⟨od,h5⟩,_⟩:=I.hok dx _ hd
  exact⟨oe,some od,h1,h2,nc,by rw[h3];exact h5⟩
theorem ZiT{o:Expr}{f:Str}{pos:Pos}{ta:TE}(ha:PE X o ta)(hb:attributeBase o f X.env (eval o X.env)=eval o X.env):PE X (.Attribute o f pos) (tXF X.K ta f):=by
 intro pins s σ H Q I h
 refine ZfQ hb (thn (ha pins s σ H _ I h) fun u s1 a=>?_)
 obtain⟨x,H1,I1,rx,e,C,dx,fs,v,rfl,he,hd,c,n,l,q⟩:=a
 obtain rfl:u=Value.ref e:=rx
 obtain⟨⟨oe,vs,h1,h2,h3,h4⟩,_,_⟩:=I1.hok e _ he
 obtain⟨⟨mA,hns,r,_⟩,_,_⟩:=I1.hok dx _ hd
 obtain⟨od,ho,hl⟩:=Zdu hns
 have nc:PySem.W.notCls oe=true:=by unfold PySem.W.notCls;rw[h4]
 have J:PySem.W.InstAt s1.heap e oe C (some od):=⟨h1,h2,nc,by rw[h3];exact ho⟩
 have rf:=r f
 rw[l]at rf
 cases hm:mA f with
 | none=>rw[hm]at rf;exact rf.elim
 | some u =>
  rw[hm]at rf
  exact ZgN I1.kIn J c (PySem.W.findObj_own c.hd n rfl (by rw[hl,hm])) (ZdF rf) ⟨v,H1,I1.tok _,rf,q⟩
theorem isX(K:PySem.W.Frag)(hK:X.K=K:=by rfl):Zau X (.builtin "isinstance") (Zlk K):=by
 subst hK
 intro pins s σ H vs us Q I r h
 obtain⟨e,C,dd,c,b,rfl,he,g,hd,hc,hn,ht,q⟩:=h
 cases r with
 | cons r1 r =>
  cases r with
  | cons r2 r =>
   cases r
   obtain rfl:=r1
   exact PySem.W.kia_one (Zk9 g hn ht) I.kIn (Zkm I he hd) (hc _ r2) (fun z=>nomatch z) fun tk=>⟨.bl b,H,I.tok _,rfl,q⟩
theorem Zi8:MtM X "list.count" Ziy:=by
 intro pins s σ H x vs v us Q I rx rv h
 obtain⟨l,ns,n,rfl,rfl,hH,q⟩:=h
 cases rx
 obtain⟨u,rfl,ru⟩:=rv.one
 obtain rfl:=ru
 obtain⟨z,its,n',r,hl,e⟩:=I.lstM hH
 refine call_meets F.slot_list_count ⟨_,e,rfl⟩ F.entry_list_count (F.args_list_count_2 _ _) (SeqAt.list_countAt l its.toArray n' _ _ (.bool n) (isBoolOf n)) ⟨e,?_,?_⟩
 ·intro y hy
  obtain⟨m,hm⟩:=List.mem_iff_getElem?.mp (List.mem_toArray.mp hy)
  have hml:m<ns.length:=by have:=(Qk.mp hm).1;have:=r.length;rw[Qb]at this;omega
  have hv:(ns.map V.bl)[m]? = some (V.bl ns[m]):=by rw[Qt,Qa hml];rfl
  obtain⟨y',hy',ry⟩:=r.get hv
  rw[hm]at hy'
  cases hy'
  obtain rfl:=ry
  exact SeqAt.EqAt.bool_bool _ _
 ·rw[Zb9 n r]
  exact⟨.int _,H,I.tok _,⟨_,rfl⟩,q⟩
theorem ZcA{x:Str}{pos:Pos}{C:Addr}(hm:X.mg x=some (.ref C))(hg:Gl X x:=by rfl)(hdb:(x == ("__debug__" : Str))=false:=by decide):PE X (.Name x pos) (tC (.ref C)) :=
 fun _ _ _ H _ I h=>ZaS I hg hm ⟨.ref C,H,I,rfl,h⟩ hdb
end
theorem Zld{X:Cx}{E:St→XK}(hst:X.stack=X.env::X.outer∧X.env.frame=some X.env.locals):PassesOwn (model X.prog X.w) X.A X.env (XE X E):=fun ev s h=>by
 have ok:X.A.frames=some X.stack:=by obtain⟨_,_,_,_,_,_,_,_,_,_,_,I,_⟩:=h;exact I.ok.frames
 exact Zla ok hst ev s h
structure D1f (P:Program) (w:World) (K:PySem.W.Frag) (mg:Str→Option Value) (base:Heap) (k:Nat) (x:Str) (ps:List Str) (sp:Sp):Prop where
 ex:∃f fd,ZaA P w K mg base (CX1 P w) k f fd ps sp∧mg x=some (.ref f)∧PySem.W.keepIn K (.ref f)=true∧Z7 K fd ps []
structure C1f (P:Program) (w:World) (K:PySem.W.Frag) (mg:Str→Option Value) (base:Heap) (k:Nat) (C:Addr) (x:Str) (ps:List Str) (sp:Sp):Prop where
 ex:∃f fd,ZaA P w K mg base (CX1 P w) k f fd ps sp∧Mk K C f∧Z7 K fd ps []∧mg x=some (.ref C)
structure Xf (P:Program) (w:World) (K:PySem.W.Frag) (mg:Str→Option Value) (base:Heap) (k:Nat) (C B:Addr) (x:Str) (ps:List Str) (sp:Sp):Prop where
 ex:∃f fd,ZaA P w K mg base CX0 k f fd ps sp∧XM K C B f∧Z7 K fd ps []∧mg x=some (.ref C)
structure Zg8 (K:PySem.W.Frag) (mg:Str→Option Value) (C B:Addr) (x qual:Str) (st:Stmt) (ps:List Str):Prop where
 ex:∃f fd,Fun K "__init__" qual st f fd∧XM K C B f∧Z7 K fd ps []∧mg x=some (.ref C)
section
variable {P:Program} {w:World} {K:PySem.W.Frag} {mg:Str→Option Value} {base:Heap}
theorem Zg8.xf{C B:Addr}{x qual:Str}{st:Stmt}{N ps:List Str}{k:Nat}{sp:Sp}(T:Zg8 K mg C B x qual st ps)(S:Zo N ps (Zd st))(len:∀vs H Q E,sp vs H Q E→vs.length=ps.length)
  (hbody:∀ (cdv:Value) (f:Addr) (A:Around) (outer:List Env) (s:Shared) (H:Hp) (vs:List V) (Q:VK) (E:XK),ZM k (A.deeper (envOfC qual (Zd st) s.heap.objs.size f cdv))→XM K C B f→sp vs H Q E →
   ∃t,PSs (ZbJ CX0 P w K mg base N qual (Zd st) f cdv A outer s H E).nox (Zm st) t∧t { nx:=fun _ H'=>Q .non H',rt:=Q } (ZaR N vs) H):Xf P w K mg base (k+1) C B x ps sp:=by
 obtain⟨f,fd,F,m,b,g⟩:=T.ex
 exact⟨f,fd,F.ok S len (fun cdv A outer s H vs Q E hr h=>hbody cdv f A outer s H vs Q E hr m h),m,b,g⟩
theorem Zg8.cls{C B:Addr}{x qual:Str}{st:Stmt}{ps:List Str}(T:Zg8 K mg C B x qual st ps):Zdd K C (.ref B::Zbp):=by
 obtain⟨f,fd,F,m,b,g⟩:=T.ex
 exact m.xc.cls
abbrev cx1(P:Program)(w:World)(K:PySem.W.Frag)(mg:Str→Option Value)(base:Heap)(N:List Str)(qual:Str)(sc:Scope)(f:Addr)(cdv:Value)(A:Around)(outer:List Env)(s:Shared)(H:Hp)(E:XK):Cx :=
 (ZbJ (CX1 P w) P w K mg base N qual sc f cdv A outer s H E).wish (XE (ZbJ (CX1 P w) P w K mg base N qual sc f cdv A outer s H E) (fun _=>E))
theorem Top.df1{x:Str}{st:Stmt}{N ps:List Str}{k:Nat}{sp:Sp}(T:Top K mg x st ps)(S:Zo N ps (Zd st))(len:∀vs H Q E,sp vs H Q E→vs.length=ps.length)
  (hbody:∀ (cdv:Value) (f:Addr) (A:Around) (outer:List Env) (s:Shared) (H:Hp) (vs:List V) (Q:VK) (E:XK),ZM k (A.deeper (envOfC x (Zd st) s.heap.objs.size f cdv))→sp vs H Q E →
   ∃t,PSs (cx1 P w K mg base N x (Zd st) f cdv A outer s H E) (Zm st) t∧t { nx:=fun _ H'=>Q .non H',rt:=Q } (ZaR N vs) H):D1f P w K mg base (k+1) x ps sp:=by
 obtain⟨f,fd,F,m,b⟩:=T.ex
 exact⟨f,fd,F.ok1 S len (fun cdv A outer s H vs Q E hr h=>hbody cdv f A outer s H vs Q E hr h),m,F.kp,b⟩
theorem ZgC.cf1{C:Addr}{x qual:Str}{st:Stmt}{N ps:List Str}{k:Nat}{sp:Sp}(T:ZgC K mg C x qual st ps)(S:Zo N ps (Zd st))(len:∀vs H Q E,sp vs H Q E→vs.length=ps.length)
  (hbody:∀ (cdv:Value) (f:Addr) (A:Around) (outer:List Env) (s:Shared) (H:Hp) (vs:List V) (Q:VK) (E:XK),ZM k (A.deeper (envOfC qual (Zd st) s.heap.objs.size f cdv))→sp vs H Q E →
   ∃t,PSs (cx1 P w K mg base N qual (Zd st) f cdv A outer s H E) (Zm st) t∧t { nx:=fun _ H'=>Q .non H',rt:=Q } (ZaR N vs) H):C1f P w K mg base (k+1) C x ps sp:=by
 obtain⟨f,fd,F,m,b,g⟩:=T.ex
 exact⟨f,fd,F.ok1 S len (fun cdv A outer s H vs Q E hr h=>hbody cdv f A outer s H vs Q E hr h),m,b,g⟩
end
section
variable {X:Cx} {E:St→XK} {k j:Nat} {C B:Addr} {x:Str} {ps:List Str} {sp:Sp} {e:Expr} {es:List Expr} {t:TA} {p pos cpos:Pos}
theorem Zjg(F:D1f X.prog X.w X.K X.mg X.base k x ps sp)(hx:∀ev s',XE X E ev s'→X.xe ev s')(hr:ZM j X.A)(ha:PA X (e::es) t)(hjk:k≤j:=by decide)(hg:Gl X x:=by rfl)(hdb:(x == ("__debug__" : Str))=false:=by decide)
  (he:starEach (e::es) X.env=(false,eval e X.env)::starEach es X.env:=by rfl) (hpl:(backTo pos (starEach es X.env)).any (·.1)=false:=by rfl) :
  PE X (.Call (.Name x p) (e::es) [] pos) (ZgF sp E t):=by
 obtain⟨f,fd,F,m,kp,b⟩:=F.ex
 exact ZhL F (hr.mono hjk) hg m kp b hx ha hdb he hpl
theorem Zja(F:C1f X.prog X.w X.K X.mg X.base k C x ps sp)(hx:∀ev s',XE X E ev s'→X.xe ev s')(hr:ZM j X.A)(ha:PA X (e::es) t)(hjk:k+1≤j:=by decide)(hg:Gl X x:=by rfl)(hdb:(x == ("__debug__" : Str))=false:=by decide)
  (he:starEach (e::es) X.env=(false,eval e X.env)::starEach es X.env:=by rfl) (hpl:(backTo pos (starEach es X.env)).any (·.1)=false:=by rfl) :
  PE X (.Call (.Name x p) (e::es) [] pos) (ZgK C sp E t):=by
 obtain⟨f,fd,F,g,b,gm⟩:=F.ex
 exact Zg4 g F (hr.mono hjk) hg gm b hx ha hdb he hpl
theorem Zkb(F:Xf X.prog X.w X.K X.mg X.base k C B x ps sp)(hx:∀ev s',XE X E ev s'→X.xe ev s')(hr:ZM j X.A)(ha:PA X (e::es) t)(hps:ps.length≤1000:=by decide)(hjk:k+1≤j:=by decide)(hg:Gl X x:=by rfl)(hdb:(x == ("__debug__" : Str))=false:=by decide)
  (he:starEach (e::es) X.env=(false,eval e X.env)::starEach es X.env:=by rfl) (hpl:(backTo cpos (starEach es X.env)).any (·.1)=false:=by rfl) :
  PS X (.Raise (some (.Call (.Name x p) (e::es) [] cpos)) none pos) (Zg6 C sp E t):=by
 obtain⟨f,fd,F,g,b,gm⟩:=F.ex
 exact Zgq g F (hr.mono hjk) hg gm b hps hx ha hdb he hpl
end
section
variable {K:PySem.W.Frag} {C D:Addr}
theorem ZgR:PySem.W.kitOne K (.ref C) (.ref C)=some true:=by unfold PySem.W.kitOne;rw[if_pos (by simp)]
theorem ZgI(h1:PySem.W.isClsIn K D=true)(h2:PySem.W.typeIn K (.ref D)=some (.type "type"))(h3:PySem.W.subIn K (.ref C) (.ref D)=some true):PySem.W.kitOne K (.ref C) (.ref D)=some true:=by
 unfold PySem.W.kitOne
 split
 ·rfl
 ·unfold PySem.W.kitCls
  have h1':(PySem.W.clsIn K D).isSome=true:=h1
  dsimp only
  rw[h1',h2,if_pos (by rfl)]
  exact h3
theorem Zci(h1:PySem.W.isClsIn K D=true)(h2:PySem.W.typeIn K (.ref D)=some (.type "type"))(h3:PySem.W.subIn K (.ref C) (.ref D)=some false)(h4:PySem.W.subIn K (.ref C) (.ref C)=some true):PySem.W.kitOne K (.ref C) (.ref D)=some false:=by
 have ne:C≠D:=fun z=>by subst z;rw[h3]at h4;cases h4
 unfold PySem.W.kitOne
 rw[if_neg (by simp[ne])]
 unfold PySem.W.kitCls
 have h1':(PySem.W.clsIn K D).isSome=true:=h1
 dsimp only
 rw[h1',h2,if_pos (by rfl)]
 exact h3
theorem Zky(h:PySem.W.subIn K (.ref C) (.type "ValueError")=some true):PySem.W.kitOne K (.ref C) (.type "ValueError")=some true:=by
 unfold PySem.W.kitOne
 rw[if_neg (fun z=>by cases z)]
 unfold PySem.W.kitCls
 dsimp only
 rw[if_pos (by ac_rfl)]
 exact h
end
theorem Zcv:bootBuiltins "ValueError" = some (.type "ValueError"):=by first|rfl|ac_rfl
end L2
set_option maxHeartbeats 1000000
namespace My
open PySem L2 PyProof.Rows
abbrev Ztl:=@List.tail Stmt
abbrev Zt2(x:List Stmt):=Ztl (Ztl x)
abbrev Zt4(x:List Stmt):=Zt2 (Zt2 x)
abbrev Zt8(x:List Stmt):=Zt4 (Zt4 x)
abbrev Zt16(x:List Stmt):=Zt8 (Zt8 x)
abbrev Zt32(x:List Stmt):=Zt16 (Zt16 x)
local macro_rules|`(‹$i:num›)=>`(@pv _ $i _ _ (by rfl) (Or.inl rfl) (by decide) (by decide))
local macro_rules|`(tactic|trivial)=>`(tactic|first|exact .inl rfl|exact .inr rfl|decide|exact Nat.le_refl _|omega)
local macro_rules
|`(#[Xns,$a,$b,$c])=>`(PySem.W.nsIn $a mainGlobals $b=some (some (.ref $c)))
|`(#[Xfi,$a,$b,$c,$d])=>`(PySem.W.findIn $a (.ref $b) $c=some (some (.ref $d)))
|`(#[Xlk,$z,$a,$b,$c,$d,$e,$f,$g,$h,$i,$j,$k,$l,$m])=>`(($z).lookup $a=some ⟨$b,$c,.func (PySem.W.fnOf $d $e (Zq $f) (Zm $f) (Zd $f) .none $g $h $i $j $k $l),$m⟩)
|`(#[Xci,$a,$b,$c])=>`(PySem.W.codeIn $a $b $c=true)
|`(#[Xki,$a,$b])=>`(PySem.W.keepIn $a (.ref $b)=true)
|`(#[Xif,$a,$b])=>`(PySem.W.isFn $a (.ref $b)=true)
|`(#[Zf,$a,$b])=>`(@Zf _ _ _ _ _ $a $b)
|`(#[Zy,$a,$b,$c,$d])=>`(@Zy _ _ $a _ _ _ _ $b rfl $c $d (by rfl) (by trivial))
|`(#[ZF,$a,$b,$c])=>`(@ZF _ _ _ _ _ _ _ _ $a $b $c)
|`(#[Zh])=>`(@Zh _ _ _ _)
|`(#[Zi,$a])=>`(@Zi _ _ _ $a)
|`(#[Zu,$a])=>`(@Zu _ _ _ _ $a)
|`(#[ZaZ,$a,$b,$c])=>`(@ZaZ _ _ _ _ _ _ _ _ $a $b $c)
|`(#[Zr,$a,$b,$c,$d])=>`(@Zr _ _ _ _ _ _ _ _ $a $b $c $d)
|`(#[Zs,$a,$b,$c,$d])=>`(@Zs _ _ _ _ _ _ _ _ _ $a (by rfl) $b $c $d (by decide) (by decide) (by rfl) (by rfl))
|`(#[Za,$a,$b])=>`(@Za _ _ _ _ _ $a $b (by rfl))
|`(#[Zg])=>`(@Zg _)
|`(#[ZI,$a,$b,$c])=>`(@ZI _ _ _ _ _ _ _ $a $b $c (fun _ _=>rfl))
|`(#[Zas,$a])=>`(@Zas _ _ _ _ $a)
|`(#[Zao,$a,$b,$c,$d,$e])=>`(@Zao _ _ _ _ _ _ _ _ _ $a $b $c $d $e (by decide) (by decide) (by rfl) (by rfl))
|`(#[Zbe,$a,$b])=>`(@Zbe _ _ _ _ _ _ $a $b (by rfl) (by rfl) (by rfl))
|`(#[Zcj,$a,$b,$c])=>`(@Zcj _ _ _ _ _ _ _ $a $b $c (by intro _;rfl))
|`(#[Zak,$a,$b,$c])=>`(@Zak _ _ _ _ _ _ _ _ $a $b $c)
|`(#[ZD,$a,$b,$c,$d])=>`(@ZD _ _ _ _ _ _ _ _ _ _ _ $a $b $c (by trivial) $d (by decide) (by rfl) (by rfl))
|`(#[Zz])=>`(@Zz _ _ _ _)
|`(#[ZcB,$a,$b,$c,$d,$e])=>`(@ZcB _ _ _ _ _ _ _ _ _ _ _ _ _ _ $a rfl rfl rfl $b $c $d $e (by intro _;rfl))
|`(#[ZaK,$a,$b])=>`(@ZaK _ _ _ _ _ _ rfl $a $b (by rfl))
|`(#[pv,$a,$b])=>`(@pv _ $a _ _ (by rfl) $b (by decide) (by decide))
|`(#[cg,$a,$b])=>`(@cg _ _ _ _ _ _ _ _ _ _ _ $a $b rfl (by ac_rfl) (by rfl))
|`(#[cv,$a,$b])=>`(@cv _ _ _ _ _ _ _ _ _ _ _ $a $b rfl (by ac_rfl) (by rfl) (by decide) (by decide))
|`(#[Zel,$a,$b,$c,$d,$e,$f])=>`(@Zel _ _ _ _ _ _ _ _ _ _ _ _ $a $b $c $d $e $f (by rfl) (by rfl) (by rfl) (by rfl) (by rfl))
|`(#[ZbW,$a,$b,$c,$d])=>`(@ZbW _ _ _ _ _ _ _ _ $a rfl $b $c $d (by intro _;rfl))
|`(#[ZJ,$a,$b])=>`(@ZJ _ _ $a _ $b rfl (Or.inl rfl) (by trivial))
|`(#[ZaG,$a])=>`(@ZaG _ _ _ _ $a (by rfl))
|`(#[iE,$a,$b,$c])=>`(@iE _ $a _ _ _ _ _ _ _ $b $c (by rfl) (by rfl) (by rfl))
|`(#[gT,$a,$b,$c])=>`(@gT _ $a _ _ _ $b _ $c (by rfl) (by rfl) (by rfl) (by rfl))
|`(#[ZK,$a,$b])=>`(@ZK _ _ _ _ _ $a $b (by rfl))
|`(#[Zbh,$a])=>`(@Zbh _ _ _ _ _ $a)
|`(#[ZZ])=>`(@ZZ _ _ _)
|`(#[Zbr,$a,$b,$c,$d])=>`(@Zbr _ _ _ _ _ _ _ _ _ _ $a $b $c $d)
|`(#[Zax,$a])=>`(@Zax _ _ _ _ _ $a (by rfl))
|`(#[Zdb,$a,$b,$c,$d])=>`(@Zdb _ _ _ _ _ _ _ _ _ _ _ _ $a $b $c $d (by trivial) (by rfl))
|`(#[ZaE,$a,$b])=>`(@ZaE _ _ _ _ _ _ _ _ $a $b (by rfl))
|`(#[ZW])=>`(@ZW _ _)
|`(#[ZfN,$a,$b,$c,$d,$e])=>`(@ZfN _ _ _ _ _ _ _ _ _ _ _ _ _ _ _ $a $b $c $d $e (by trivial) (by rfl) (by rfl) (by rfl))
|`(#[Zhu,$a,$b,$c])=>`(@Zhu _ _ _ _ _ _ _ _ _ _ _ _ $a $b $c (by trivial) (by rfl) (by decide) (by rfl) (by rfl))
|`(#[ZcA,$a])=>`(@ZcA _ _ _ _ $a (by rfl) (by decide))
|`(#[ZcO,$a,$b,$c,$d,$e,$f,$g])=>`(@ZcO _ _ _ _ _ $a _ _ _ _ _ _ _ _ _ _ _ _ $b rfl (Or.inl rfl) $c rfl rfl rfl $d $e $f $g (by rfl) (by intro _;rfl) (by trivial))
|`(#[cw,$a,$b])=>`(@cw _ _ _ _ _ _ _ _ _ _ _ $a $b rfl (by ac_rfl) (by rfl) (by decide) (by decide))
theorem xw4{α0:Type _}{α1:Type _}{α2:Type _}{α3:Type _}{p:α0→α1→α2→α3→Prop}(a0:α0)(a1:α1)(a2:α2)(a3:α3)(h:p a0 a1 a2 a3):∃a0 a1 a2 a3,p a0 a1 a2 a3:=⟨a0,a1,a2,a3,h⟩
theorem xw5{α0:Type _}{α1:Type _}{α2:Type _}{α3:Type _}{α4:Type _}{p:α0→α1→α2→α3→α4→Prop}(a0:α0)(a1:α1)(a2:α2)(a3:α3)(a4:α4)(h:p a0 a1 a2 a3 a4):∃a0 a1 a2 a3 a4,p a0 a1 a2 a3 a4:=⟨a0,a1,a2,a3,a4,h⟩
theorem xw7{α0:Type _}{α1:Type _}{α2:Type _}{α3:Type _}{α4:Type _}{α5:Type _}{α6:Type _}{p:α0→α1→α2→α3→α4→α5→α6→Prop}(a0:α0)(a1:α1)(a2:α2)(a3:α3)(a4:α4)(a5:α5)(a6:α6)(h:p a0 a1 a2 a3 a4 a5 a6):∃a0 a1 a2 a3 a4 a5 a6,p a0 a1 a2 a3 a4 a5 a6:=⟨a0,a1,a2,a3,a4,a5,a6,h⟩
theorem xw9{α0:Type _}{α1:Type _}{α2:Type _}{α3:Type _}{α4:Type _}{α5:Type _}{α6:Type _}{α7:Type _}{α8:Type _}{p:α0→α1→α2→α3→α4→α5→α6→α7→α8→Prop}(a0:α0)(a1:α1)(a2:α2)(a3:α3)(a4:α4)(a5:α5)(a6:α6)(a7:α7)(a8:α8)(h:p a0 a1 a2 a3 a4 a5 a6 a7 a8):∃a0 a1 a2 a3 a4 a5 a6 a7 a8,p a0 a1 a2 a3 a4 a5 a6 a7 a8:=⟨a0,a1,a2,a3,a4,a5,a6,a7,a8,h⟩
def hdS:List Stmt→Stmt
 | a::_=>a
 | []=>.Pass ⟨0,0,0,0⟩
abbrev Z9:List Stmt:=PySem.Challenge.pw_mergetree_k17_rows_out_of_order.main.body
abbrev Zdq:Stmt:=hdS (Zt4 (Ztl Z9))
abbrev ZeQ:Stmt:=hdS (Zt16 (Zt4 Z9))
abbrev Zby:Stmt:=hdS (Zt16 (Zt4 (Ztl Z9)))
abbrev Za2:Stmt:=hdS (Zt8 Z9)
abbrev ZbC:Stmt:=hdS (Zt8 (Zt2 Z9))
abbrev Zbw:Stmt:=hdS (Zt8 (Zt2 (Ztl Z9)))
abbrev Zai:Stmt:=hdS (Zt8 (Zt4 Z9))
abbrev Zaj:Stmt:=hdS (Zt8 (Zt4 (Ztl Z9)))
abbrev ZaD:Stmt:=hdS (Zt8 (Zt4 (Zt2 Z9)))
abbrev Zaa:Stmt:=hdS (Zt16 Z9)
abbrev ZaY:Stmt:=hdS (Zt16 (Ztl Z9))
abbrev Z5:Stmt:=hdS (Zt16 (Zt4 (Zt2 Z9)))
abbrev ZbD:Stmt:=hdS (Zt16 (Zt8 Z9))
abbrev Za8:Stmt:=hdS (Zt16 (Zt8 (Ztl Z9)))
abbrev Za4:Stmt:=hdS (Zt16 (Zt8 (Zt2 Z9)))
abbrev Zav:Stmt:=hdS (Zt16 (Zt8 (Zt2 (Ztl Z9))))
abbrev Za3:Stmt:=hdS (Zt16 (Zt8 (Zt4 Z9)))
abbrev Zbb:Stmt:=hdS (Zt16 (Zt8 (Zt4 (Ztl Z9))))
abbrev Zbv:Stmt:=hdS (Zt16 (Zt8 (Zt4 (Zt2 Z9))))
abbrev Zbc:Stmt:=hdS (Zt16 (Zt8 (Zt4 (Zt2 (Ztl Z9)))))
abbrev ZaI:Stmt:=hdS (Zt32 Z9)
abbrev Zap:Stmt:=hdS (Zt32 (Ztl Z9))
abbrev Zat:Stmt:=hdS (Zt32 (Zt2 Z9))
abbrev ZaP:Stmt:=hdS (Zt32 (Zt2 (Ztl Z9)))
abbrev ZB:Stmt:=ZaH Zdq 0
abbrev Zad:Stmt:=ZaH ZeQ 0
abbrev Z3:Stmt:=ZaH ZeQ 2
abbrev Zac:Stmt:=ZaH ZeQ 3
abbrev ZS:Stmt:=ZaH Zby 0
abbrev ZO:Stmt:=ZaH Zby 7
abbrev ZE:Stmt:=ZaH Zby 13
abbrev ZT:Stmt:=ZaH Zby 14
abbrev ZV:Stmt:=ZaH Zby 17
theorem Zex:Zo ["_law_cell", "_law_k", "_law_m"] ["_law_cell", "_law_k"] (Zd ZbD):=⟨rfl,rfl,rfl,by ac_rfl,rfl,by ac_rfl,by ac_rfl⟩
theorem ZdM:Zo ["_law_script", "_law_k", "_law_cell"] ["_law_script", "_law_k"] (Zd Za8):=⟨rfl,rfl,rfl,by ac_rfl,rfl,by ac_rfl,by ac_rfl⟩
theorem ZdD:Zo ["_law_left_here", "_law_many_here", "_law_digit"] ["_law_left_here", "_law_many_here"] (Zd Za4):=⟨rfl,rfl,rfl,by ac_rfl,rfl,by ac_rfl,by ac_rfl⟩
theorem Zdj:Zo ["_law_left_here", "_law_some"] ["_law_left_here"] (Zd Zav):=⟨rfl,rfl,rfl,by ac_rfl,rfl,by ac_rfl,by ac_rfl⟩
theorem ZeB:Zo ["_law_left_here", "_law_stems_here", "_law_tail"] ["_law_left_here", "_law_stems_here"] (Zd Za3):=⟨rfl,rfl,rfl,by ac_rfl,rfl,by ac_rfl,by ac_rfl⟩
theorem ZaW:Zo ["one", "other", "far", "at"] ["one", "other", "far"] (Zd Zaj):=⟨rfl,rfl,rfl,by ac_rfl,rfl,by ac_rfl,by ac_rfl⟩
theorem ZgO:Zo ["one", "other"] ["one", "other"] (Zd ZbC):=⟨rfl,rfl,rfl,by ac_rfl,rfl,by ac_rfl,by ac_rfl⟩
theorem Za9:Zo ["_law_left_here", "_law_stems_here", "_law_most", "_law_found", "_law_k", "_law_key_here"] ["_law_left_here", "_law_stems_here", "_law_most"] (Zd Zbb):=⟨rfl,rfl,rfl,by ac_rfl,rfl,by ac_rfl,by ac_rfl⟩
theorem ZbH:Zo ["row", "told", "place", "key"] ["row"] (Zd ZaY):=⟨rfl,rfl,rfl,by ac_rfl,rfl,by ac_rfl,by ac_rfl⟩
theorem ZeD:Zo ["one", "other", "at"] ["one", "other", "at"] (Zd ZaD):=⟨rfl,rfl,rfl,by ac_rfl,rfl,by ac_rfl,by ac_rfl⟩
theorem ZgE:Zo ["one", "other"] ["one", "other"] (Zd Zbw):=⟨rfl,rfl,rfl,by ac_rfl,rfl,by ac_rfl,by ac_rfl⟩
theorem ZbM:Zo ["one", "other", "far", "at"] ["one", "other", "far"] (Zd Zai):=⟨rfl,rfl,rfl,by ac_rfl,rfl,by ac_rfl,by ac_rfl⟩
theorem Zbq:Zo ["keys", "place"] ["keys"] (Zd Zaa):=⟨rfl,rfl,rfl,by ac_rfl,rfl,by ac_rfl,by ac_rfl⟩
theorem Zdw:Zo ["numbers", "middle"] ["numbers"] (Zd Za2):=⟨rfl,rfl,rfl,by ac_rfl,rfl,by ac_rfl,by ac_rfl⟩
theorem ZdL:Zo ["_law_left_here", "_law_way"] ["_law_left_here"] (Zd Zbc):=⟨rfl,rfl,rfl,by ac_rfl,rfl,by ac_rfl,by ac_rfl⟩
theorem ZdW:Zo ["self"] ["self"] (Zd Z3):=⟨rfl,rfl,rfl,by ac_rfl,rfl,by ac_rfl,by ac_rfl⟩
theorem Zem:Zo ["self"] ["self"] (Zd Zac):=⟨rfl,rfl,rfl,by ac_rfl,rfl,by ac_rfl,by ac_rfl⟩
theorem Zeq:Zo ["self", "keys"] ["self", "keys"] (Zd Zad):=⟨rfl,rfl,rfl,by ac_rfl,rfl,by ac_rfl,by ac_rfl⟩
theorem Z8:Zo ["self", "rows", "number", "keys"] ["self", "rows"] (Zd ZS):=⟨rfl,rfl,rfl,by ac_rfl,rfl,by ac_rfl,by ac_rfl⟩
theorem ZbX:Zo ["self"] ["self"] (Zd ZE):=⟨rfl,rfl,rfl,by ac_rfl,rfl,by ac_rfl,by ac_rfl⟩
theorem ZG:Zo ["self", "numbers", "first_side", "other_side", "one", "other", "winner", "loser", "far"] ["self", "numbers"] (Zd ZT):=⟨rfl,rfl,rfl,by ac_rfl,rfl,by ac_rfl,by ac_rfl⟩
theorem Zaz:Zo ["self", "one", "other", "far", "order", "alike_far", "seen"] ["self", "one", "other", "far"] (Zd ZV):=⟨rfl,rfl,rfl,by ac_rfl,rfl,by ac_rfl,by ac_rfl⟩
theorem Zal:Zo ["number", "keys", "place"] ["number", "keys"] (Zd Z5):=⟨rfl,rfl,rfl,by ac_rfl,rfl,by ac_rfl,by ac_rfl⟩
theorem Zhd:Zo ["_law_left_here", "_law_stems_here", "_law_most"] ["_law_left_here", "_law_stems_here", "_law_most"] (Zd Zbv):=⟨rfl,rfl,rfl,by ac_rfl,rfl,by ac_rfl,by ac_rfl⟩
theorem Zcf:Zo ["_law_left_here", "_law_stems_here", "_law_most"] ["_law_left_here"] (Zd ZaI):=⟨rfl,rfl,rfl,by ac_rfl,rfl,by ac_rfl,by ac_rfl⟩
theorem ZbR:Zo ["self", "row", "place"] ["self", "row", "place"] (Zd ZB):=⟨rfl,rfl,rfl,by ac_rfl,rfl,by ac_rfl,by ac_rfl⟩
theorem ZaC:Zo ["_law_left_here", "_law_row_here", "_law_keys_here", "_law_k", "_law_places"] ["_law_left_here", "_law_row_here"] (Zd Zap):=⟨rfl,rfl,rfl,by ac_rfl,rfl,by ac_rfl,by ac_rfl⟩
theorem ZQ:Zo ["_law_ask", "_law_merge", "_law_given", "_law_more", "_law_caught", "error", "_law_some"] ["_law_ask", "_law_merge", "_law_given", "_law_more"] (Zd Zat):=⟨rfl,rfl,rfl,by ac_rfl,rfl,by ac_rfl,by ac_rfl⟩
theorem ZaV:Zo ["_law_script", "_law_k", "_law_left_here", "_law_rows_here", "_law_turn", "_law_made", "_law_at", "_law_place", "_law_kept", "_law_found"] ["_law_script"] (Zd ZaP):=⟨rfl,rfl,rfl,by ac_rfl,rfl,by ac_rfl,by ac_rfl⟩
theorem ZcQ:Zo ["self"] ["self"] (Zd ZO):=⟨rfl,rfl,rfl,by ac_rfl,rfl,by ac_rfl,by ac_rfl⟩
abbrev zsc(l:List (Str×NameKind)):Scope:={ kind:=.function,names:=l,isGenerator:=false,isCoroutine:=false,more:=[] }
def Zh4:Scope:=zsc [(".0",.«local»),("_law_k",.«local»),("_law_pick",.globalImplicit),("_law_left_here",.free),("_law_some",.free)]
theorem Zhf:Z0 ["_law_left_here", "_law_some"] ["_law_left_here", "_law_some", "_law_k"] (Zd Zav) Zh4:=⟨rfl,rfl,by ac_rfl,by ac_rfl,by ac_rfl,by decide,by ac_rfl,by ac_rfl⟩
def ZhY:Scope:=zsc [(".0",.«local»),("_law_k",.«local»),("_law_pick",.globalImplicit),("_law_left_here",.free)]
theorem ZiB:Z0 ["_law_left_here", "_law_stems_here", "_law_tail"] ["_law_left_here", "_law_stems_here", "_law_tail", "_law_k"] (Zd Za3) ZhY:=⟨rfl,rfl,by ac_rfl,by ac_rfl,by ac_rfl,by decide,by ac_rfl,by ac_rfl⟩
def ZiI:Scope:=zsc [(".0",.«local»),("_law_k",.«local»),("_law_row",.globalImplicit),("_law_left_here",.free),("_law_most",.free),("_law_stems_here",.free)]
theorem Zgg:Z0 ["_law_left_here", "_law_stems_here", "_law_most"] ["_law_left_here", "_law_stems_here", "_law_most", "_law_k"] (Zd ZaI) ZiI:=⟨rfl,rfl,by ac_rfl,by ac_rfl,by ac_rfl,by decide,by ac_rfl,by ac_rfl⟩
def Zit:Scope:=zsc [(".0",.«local»),("_law_k",.«local»),("_law_keys_here",.free)]
theorem Zft:Z0 ["_law_left_here", "_law_row_here", "_law_keys_here", "_law_k", "_law_places"] ["_law_left_here", "_law_row_here", "_law_keys_here", "?_law_k", "_law_places", "_law_k"] (Zd Zap) Zit:=⟨rfl,rfl,by ac_rfl,by ac_rfl,by ac_rfl,by decide,by ac_rfl,by ac_rfl⟩
def Zh3:Scope:=zsc [(".0",.«local»),("_law_row_here",.«local»),("list",.globalImplicit)]
theorem ZiF:Z0 ["_law_script", "_law_k", "_law_left_here", "_law_rows_here", "_law_turn", "_law_made", "_law_at", "_law_place", "_law_kept", "_law_found"] ["_law_script", "_law_k", "_law_left_here", "_law_rows_here", "_law_turn", "_law_made", "_law_at", "_law_place", "_law_kept", "_law_found", "_law_row_here"] (Zd ZaP) Zh3:=⟨rfl,rfl,by ac_rfl,by ac_rfl,by ac_rfl,by decide,by ac_rfl,by ac_rfl⟩
def Zib:Scope:=zsc [(".0",.«local»),("_law_row_here",.«local»),("list",.globalImplicit)]
theorem ZiE:Z0 ["_law_script", "_law_k", "_law_left_here", "_law_rows_here", "_law_turn", "_law_made", "_law_at", "_law_place", "_law_kept", "_law_found"] ["_law_script", "_law_k", "_law_left_here", "_law_rows_here", "_law_turn", "_law_made", "_law_at", "_law_place", "_law_kept", "_law_found", "_law_row_here"] (Zd ZaP) Zib:=⟨rfl,rfl,by ac_rfl,by ac_rfl,by ac_rfl,by decide,by ac_rfl,by ac_rfl⟩
structure Bt (mg:Str→Option Value):Prop where
 n_ValueError:mg "ValueError" = none
 n_abs:mg "abs" = none
 n_enumerate:mg "enumerate" = none
 n_int:mg "int" = none
 n_isinstance:mg "isinstance" = none
 n_len:mg "len" = none
 n_list:mg "list" = none
 n_range:mg "range" = none
 n_sorted:mg "sorted" = none
 n_str:mg "str" = none
structure Zag (K:PySem.W.Frag) (mg:Str→Option Value) (cRow:Addr) (cMerge:Addr) (cMergeError:Addr) (cFull:Addr) (cNoRow:Addr) (cOutOfOrder:Addr) (cBadLine:Addr):Prop where
 b:Bt mg
 t_halves:Top K mg "halves" Za2 ["numbers"]
 t_alike:Top K mg "alike" ZbC ["one", "other"]
 t_liken:Top K mg "liken" Zbw ["one", "other"]
 t_liken_from:Top K mg "liken_from" Zai ["one", "other", "far"]
 t_alike_from:Top K mg "alike_from" Zaj ["one", "other", "far"]
 t_order_at:Top K mg "order_at" ZaD ["one", "other", "at"]
 t_first_break:Top K mg "first_break" Zaa ["keys"]
 t_alikes:Top K mg "alikes" ZaY ["row"]
 t_refuse_break:Top K mg "refuse_break" Z5 ["number", "keys"]
 t_l_mix:Top K mg "_law_mix" ZbD ["_law_cell", "_law_k"]
 t_l_left:Top K mg "_law_left" Za8 ["_law_script", "_law_k"]
 t_l_pick:Top K mg "_law_pick" Za4 ["_law_left_here", "_law_many_here"]
 t_l_stems:Top K mg "_law_stems" Zav ["_law_left_here"]
 t_l_key:Top K mg "_law_key" Za3 ["_law_left_here", "_law_stems_here"]
 t_l_keys:Top K mg "_law_keys" Zbb ["_law_left_here", "_law_stems_here", "_law_most"]
 t_l_row:Top K mg "_law_row" Zbv ["_law_left_here", "_law_stems_here", "_law_most"]
 t_l_many:Top K mg "_law_many" Zbc ["_law_left_here"]
 t_l_rows:Top K mg "_law_rows" ZaI ["_law_left_here"]
 t_l_broken:Top K mg "_law_broken" Zap ["_law_left_here", "_law_row_here"]
 t_l_refused:Top K mg "_law_refused" Zat ["_law_ask", "_law_merge", "_law_given", "_law_more"]
 t_OutOfOrder_init:Zg8 K mg cOutOfOrder cMergeError "OutOfOrder" "OutOfOrder.__init__" ZB ["self", "row", "place"]
 t_Row_init:ZgC K mg cRow "Row" "Row.__init__" Zad ["self", "keys"]
 t_Row_to_go:ZeF K cRow "to_go" "Row.to_go" Z3 ["self"]
 t_Row_head:ZeF K cRow "head" "Row.head" Zac ["self"]
 t_Merge_init:ZgC K mg cMerge "Merge" "Merge.__init__" ZS ["self", "rows"]
 t_Merge_looks:ZeF K cMerge "looks" "Merge.looks" ZO ["self"]
 t_Merge_play_all:ZeF K cMerge "play_all" "Merge.play_all" ZE ["self"]
 t_Merge_play:ZeF K cMerge "play" "Merge.play" ZT ["self", "numbers"]
 t_Merge_meet:ZeF K cMerge "meet" "Merge.meet" ZV ["self", "one", "other", "far"]
 cl_Row:Cls K cRow
 na_Row_all_keys:ZP K cRow "all_keys"
 na_Row_fars:ZP K cRow "fars"
 na_Row_gone:ZP K cRow "gone"
 cl_Merge:Cls K cMerge
 na_Merge_best:ZP K cMerge "best"
 na_Merge_likened:ZP K cMerge "likened"
 na_Merge_looked:ZP K cMerge "looked"
 na_Merge_next_number:ZP K cMerge "next_number"
 na_Merge_rows:ZP K cMerge "rows"
 na_Merge_stays:ZP K cMerge "stays"
 m_MergeError:mg "MergeError" = some (.ref cMergeError)
 m_Full:mg "Full" = some (.ref cFull)
 m_NoRow:mg "NoRow" = some (.ref cNoRow)
 m_OutOfOrder:mg "OutOfOrder" = some (.ref cOutOfOrder)
 m_BadLine:mg "BadLine" = some (.ref cBadLine)
 x_MergeError:Zdd K cMergeError Zbp
 xb_MergeError:XB K cMergeError
 na_OutOfOrder_row:ZP K cOutOfOrder "row"
 na_OutOfOrder_place:ZP K cOutOfOrder "place"
 xg_OutOfOrder:XG K cOutOfOrder
 ki_OutOfOrder_MergeError:PySem.W.kitOne K (.ref cOutOfOrder) (.ref cMergeError)=some true
 ki_OutOfOrder_Full:PySem.W.kitOne K (.ref cOutOfOrder) (.ref cFull)=some false
 ki_OutOfOrder_NoRow:PySem.W.kitOne K (.ref cOutOfOrder) (.ref cNoRow)=some false
 ki_OutOfOrder_OutOfOrder:PySem.W.kitOne K (.ref cOutOfOrder) (.ref cOutOfOrder)=some true
 ki_OutOfOrder_BadLine:PySem.W.kitOne K (.ref cOutOfOrder) (.ref cBadLine)=some false
 ki_OutOfOrder_V:PySem.W.kitOne K (.ref cOutOfOrder) (.type "ValueError")=some true
 kg:PySem.W.specialIn K (.builtin "object.__class__") "__get__" = some (some (.builtin "getset_descriptor.__get__"))
 kt:PySem.W.takesIn K (.builtin "object.__class__")=some true
def ZR(H:Hp)(p:Addr)(c:Int):Prop:=∃a b:Int,H p=some (.lst [.int a,.int b,.int c])∧0≤c
def But(p:Addr)(H H':Hp):Prop:=∀b o,H b=some o→b≠p→H' b=some o
theorem But.trans{p:Addr}{H H1 H2:Hp}(a:But p H H1)(b:But p H1 H2):But p H H2:=fun c o h n=>b c o (a c o h n) n
theorem But.same{p:Addr}{H H1:Hp}(a:ZH H H1):But p H H1:=fun c o h _=>a c o h
theorem Zk{H:Hp}{p:Addr}(h:H p=none)(o:HO):ZH H (upd H p o):=fun b u q=>by rw[Zc (Zb q h)];exact q
theorem Zbn{n:Nat}(h:n≤1000):n≤sizeLine:=QV (Zp h)
def ZgQ:Sp:=fun vs H Q _=>∃a k:Int,vs=[.int a,.int k] ∧ -(2 ^ 62)<k∧k<2 ^ 62∧∀r:Int,0≤r→r<2000000000→Q (.int r) H
def Zhj(K:PySem.W.Frag):Sp:=fun vs H Q _=>∃ (a:Addr) (ns:List Int) (k:Int),vs=[.ref a,.int k]∧SqL K H a (ns.map V.int)∧ns.length≤63∧0≤k∧k<100 ∧
 ∀ (p:Addr) (H':Hp),H p=none→ZR H' p 0→ZH H H'→Q (.ref p) H'
def Zbz:Sp:=fun vs H Q _=>∃ (p:Addr) (c m:Int),vs=[.ref p,.int m]∧ZR H p c∧c<2 ^ 60∧0<m∧m<1000000 ∧
 ∀ (r:Int) (H':Hp),0≤r→r<m→ZR H' p (c+1)→But p H H'→Q (.int r) H'
theorem Zjz{ns:List Int}{k:Int}(h0:0≤k)(h:k<(ns.length:Int)):∃v:Int,atI (ns.map V.int) k=some (.int v):=by
 have hk:k.toNat<ns.length:=by omega
 have ek:k=((k.toNat:Nat):Int):=by omega
 have q:atI (ns.map V.int) ((k.toNat:Nat):Int)=some (.int ns[k.toNat]):=Zar (by rw[Qt,Qa hk]<;>rfl)
 rw[← ek]at q
 exact⟨_,q⟩
theorem ZeW{ss:List Str}{k:Int}(h0:0≤k)(h:k<(ss.length:Int)):∃s∈ss,atI (ss.map V.str) k=some (.str s):=by
 have hk:k.toNat<ss.length:=by omega
 have ek:k=((k.toNat:Nat):Int):=by omega
 have q:atI (ss.map V.str) ((k.toNat:Nat):Int)=some (.str ss[k.toNat]):=Zar (by rw[Qt,Qa hk]<;>rfl)
 rw[← ek]at q
 exact⟨_,Q6 hk,q⟩
theorem ZiQ(b:Bool):-(2 ^ 64)<(if b=true then (1:Int) else 0)∧(if b=true then (1:Int) else 0)<2 ^ 64:=by cases b<;>decide
theorem Zca{z:Str}{k:Int}(h0:0≤k)(h:k<(z.length:Int)):∃c:Nat,z.cps.toList[k.toNat]? = some c∧atI z.cps.toList k=some c:=by
 have hl:z.cps.toList.length=z.length:=by simp[Str.length]
 have hk:k.toNat<z.cps.toList.length:=by omega
 have ek:k=((k.toNat:Nat):Int):=by omega
 have q:atI z.cps.toList ((k.toNat:Nat):Int)=some z.cps.toList[k.toNat]:=Zar (Qa hk)
 rw[← ek]at q
 exact⟨_,Qa hk,q⟩
theorem ZhF(sep:Str)(ys:List Str):(Txt.join sep ys).length≤(ys.map (·.length)).sum+ys.length*sep.length:=by
 have e:Txt.join sep ys=Str.join sep ys:=by simpa using join_plain_closes sep ys
 rw[e]
 exact StrLaws.join_length_le sep ys
theorem Zet:∀ss:List Str,(∀s∈ss,s.length≤1)→(ss.map (·.length)).sum≤ss.length
 | [],_=>Qe _
 | s::r,h=>by
  have h1:=h s QN
  have h2:=Zet r fun x hx=>h x (Qo _ hx)
  rw[Qx,List.sum_cons,QB]
  omega
def lcp:List Nat→List Nat→Nat
 | a::r,b::s=>if a=b then lcp r s+1 else 0
 | _,_=>0
theorem ZdV:∀ (x y:List Nat),lcp x y≤x.length∧lcp x y≤y.length
 | [],_=>⟨Qu _,Qu _⟩
 | _::_,[]=>⟨Qu _,Qu _⟩
 | a::r,b::s=>by
  have h:=ZdV r s
  unfold lcp
  split
  ·exact⟨Nat.succ_le_succ h.1,Nat.succ_le_succ h.2⟩
  ·exact⟨Qu _,Qu _⟩
theorem Zhg:∀ (x y:List Nat) (k:Nat),k≤lcp x y→∀a,x[k]? = some a→y[k]? = some a→k+1≤lcp x y
 | [],_,k,_,a,h,_=>by simp at h
 | _::_,[],k,_,a,_,h=>by simp at h
 | a::r,b::s,0,_,c,h1,h2=>by
  simp at h1 h2
  unfold lcp
  rw[if_pos (by rw[h1,h2])]
  omega
 | a::r,b::s,k+1,h,c,h1,h2=>by
  unfold lcp at h ⊢
  by_cases e:a=b
  ·rw[if_pos e]at h ⊢
   have:=Zhg r s k (by omega) c (by simpa using h1) (by simpa using h2)
   omega
  ·rw[if_neg e]at h;omega
theorem ZhP:∀ (x y:List Nat) (k:Nat),k<lcp x y→x[k]? = y[k]?
 | [],_,k,h=>by unfold lcp at h;omega
 | _::_,[],k,h=>by unfold lcp at h;omega
 | a::r,b::s,0,h=>by
  unfold lcp at h
  by_cases e:a=b
  ·simp[e]
  ·rw[if_neg e]at h;omega
 | a::r,b::s,k+1,h=>by
  unfold lcp at h
  by_cases e:a=b
  ·rw[if_pos e]at h
   simpa using ZhP r s k (by omega)
  ·rw[if_neg e]at h;omega
theorem ZdX(x y:List Nat)(k:Nat)(h:k≤lcp x y)(n:x.length≤k∨y.length≤k∨∃a b,x[k]? = some a∧y[k]? = some b∧a≠b):lcp x y=k:=by
 have l:=ZdV x y
 rcases n with n|n|⟨a,b,h1,h2,ne⟩
 ·omega
 ·omega
 ·by_cases q:k<lcp x y
  ·have:=ZhP x y k q
   rw[h1,h2]at this
   exact absurd (Ql this) ne
  ·omega
abbrev cds(z:Str):List Nat:=z.cps.toList
def AZ(z:Str):Prop:=∀c∈cds z,97≤c∧c≤122
theorem ZiH(x y:Str):cds (x++y)=cds x++cds y:=by
 show (x++y).cps.toList=_
 rw[PySem.Str.cps_append]
 simp
theorem AZ.app{x y:Str}(a:AZ x)(b:AZ y):AZ (x++y):=fun c h=>by
 rw[ZiH]at h
 exact(Qg.mp h).elim (a c) (b c)
theorem AZ.nil:AZ "":=by unfold AZ cds;ac_rfl
theorem AZ.join:∀ys:List Str,(∀s∈ys,AZ s)→AZ (Str.join "" ys)
 | [],_=>fun c h=>by cases (show c∈([]:List Nat) from h)
 | [x],h=>h x (by simp)
 | x::y::r,h=>((h x (by simp)).app AZ.nil).app (AZ.join (y::r) fun s hs=>h s (Qo _ hs))
theorem AZ.joinT(ys:List Str)(h:∀s∈ys,AZ s):AZ (Txt.join "" ys):=by
 have e:Txt.join "" ys=Str.join "" ys:=by simpa using join_plain_closes "" ys
 rw[e]
 exact AZ.join ys h
theorem AZ.one{z:Str}(a:AZ z){k:Nat}{c:Nat}(h:z.cps.toList[k]? = some c):AZ ⟨#[c]⟩:=fun d hd=>by
 have e:d=c:=by simpa using hd
 rw[e]
 exact a c (Qs h)
theorem AZ.ok{z:Str}(a:AZ z):PyData.strOk z=true:=by
 unfold PyData.strOk
 rw[Array.all_eq_true]
 intro i hi
 have:=a z.cps[i] (by simp)
 exact decide_eq_true (by omega)
theorem Zjw:AZ "ababcz":=by unfold AZ cds;ac_rfl
def ZcC:Sp:=fun vs H Q _=>∃x y:Str,vs=[.str x,.str y]∧x.length≤1000∧y.length≤1000∧Q (.int (lcp (cds x) (cds y))) H
def ZaU:Sp:=fun vs H Q _=>∃ (x y:Str) (far:Nat),vs=[.str x,.str y,.int far]∧x.length≤1000∧y.length≤1000∧far≤lcp (cds x) (cds y)∧Q (.int (lcp (cds x) (cds y))) H
def IsD(H:Hp):Nat→V→V→Prop
 | 0,_,_=>False
 | n+1,x,y=>(x=y∧(x=.non∨(∃b,x=.bl b)∨(∃i,x=.int i)∨∃s,x=.str s)) ∨
   (∃ (p q:Addr) (xs ys:List V),x=.ref p∧y=.ref q∧((H p=some (.lst xs)∧H q=some (.lst ys))∨(H p=some (.tup xs)∧H q=some (.tup ys)))∧xs.length=ys.length∧xs.length≤1000∧∀ (i:Nat) (x y:V),xs[i]? = some x→ys[i]? = some y→IsD H n x y)
section
variable (K:PySem.W.Frag)
open PySem.W
end
section
variable {P:Program} {w:World} {K:PySem.W.Frag} {mg:Str→Option Value} {base:Heap} {cRow cMerge cMergeError cFull cNoRow cOutOfOrder cBadLine:Addr}
theorem Zjb(T:Zag K mg cRow cMerge cMergeError cFull cNoRow cOutOfOrder cBadLine):Df P w K mg base 1 "_law_mix" ["_law_cell", "_law_k"] ZgQ:=by
 refine T.t_l_mix.df Zex (fun vs H Q E h=>?_) (fun cdv f A outer s H vs Q E hr h=>?_)
 ·obtain⟨a,k,rfl,_⟩:=h
  rfl
 obtain⟨a,k,rfl,k1,k2,q⟩:=h
 refine⟨_,#[Zf,#[Zy,2,Zex.nd,(Or.inl rfl),#[ZF,ZcM,#[ZF,Zch,#[ZF,ZaN,#[ZF,ZaN,#[ZF,ZcM,‹0›,#[Zh]],#[ZF,Zch,#[ZF,Zch,‹1›,‹1›],#[Zh]]],#[Zh]],#[Zh]],#[Zh]]],#[Zi,#[Zu,#[ZF,ZcM,#[ZF,Zch,‹2›,‹2›],#[Zh]]]]],?_⟩
 refine⟨_,rfl,_,_,rfl,rfl,(by show (0:Int)<_;decide),_,rfl,_,rfl,_,_,rfl,rfl,.inl ⟨by omega,by omega⟩,_,_,rfl,rfl,.inr ⟨by decide,by decide⟩,_,_,rfl,rfl,_,_,rfl,rfl,_,_,rfl,rfl,.inr ⟨by decide,by decide⟩,_,_,rfl,rfl,(by show (0:Int)<_;decide),?_⟩
 have m0:=Int.emod_nonneg ((a % 2147483629+k*k*7919+11)*48271) (show (2147483647:Int)≠0 by decide)
 have m1:=Qac ((a % 2147483629+k*k*7919+11)*48271) (show (0:Int)<2147483647 by decide)
 refine⟨_,rfl,_,rfl,_,_,rfl,rfl,.inl ⟨by omega,by omega⟩,_,_,rfl,rfl,(by show (0:Int)<_;decide),?_⟩
 exact q _ (Int.emod_nonneg _ (by decide)) (Int.lt_trans (Qac _ (by decide)) (by decide))
theorem Ziv(T:Zag K mg cRow cMerge cMergeError cFull cNoRow cOutOfOrder cBadLine):Df P w K mg base 1 "_law_left" ["_law_script", "_law_k"] (Zhj K):=by
 refine T.t_l_left.df ZdM (fun vs H Q E h=>?_) (fun cdv f A outer s H vs Q E hr h=>?_)
 ·obtain⟨a,ns,k,rfl,_⟩:=h
  rfl
 obtain⟨a,ns,k,rfl,hS,h63,k0,k1,q⟩:=h
 refine⟨_,#[Zf,#[Zy,2,ZdM.nd,(Or.inl rfl),#[ZaZ,#[Zr,ZdP,‹1›,#[Zs,(Zcs K),T.b.n_len,Qr,#[Za,‹0›,#[Zg]]],(Zw _)],#[ZI,(ixL K),‹0›,‹1›],#[Zh]]],#[Zi,#[Zu,#[Zas,#[Za,#[ZF,Zch,#[Zs,ZeL,T.b.n_abs,boot_abs,#[Za,‹2›,#[Zg]]],#[Zao,Zgt,(by rfl),T.b.n_int,boot_int,#[Za,(@Zil _ _ _ _ _ _ _ _ ZkG #[Zs,ZeL,T.b.n_abs,boot_abs,#[Za,‹2›,#[Zg]]] #[ZF,Zi5,#[Zh],#[Zh]] (Zw _)),#[Zg]]]],#[Za,#[ZF,ZaN,‹2›,#[ZF,Zch,#[Zh],‹1›]],#[Za,#[Zh],#[Zg]]]]]]]],?_⟩
 have hl:(ns.map V.int).length=ns.length:=Qb _
 have pw:ZjS 10 18:=⟨by decide,by decide,by decide⟩
 refine⟨_,rfl,_,rfl,a,_,rfl,.inl hS,_,_,rfl,rfl,_,rfl,?_⟩
 refine Zbi (fun c=>?_) (fun c=>?_)
 ·have c':k<(((ns.map V.int).length:Nat):Int):=of_decide_eq_true c
  rw[hl]at c'
  obtain⟨v,hv⟩:=Zjz (ns:=ns) k0 c'
  refine⟨_,rfl,_,rfl,xw4 a _ _ _ ⟨rfl,rfl,hS,hv,?_⟩⟩
  refine⟨_,rfl,_,rfl,_,rfl,_,rfl,_,_,rfl,rfl,pw,_,_,rfl,rfl,.inr ⟨_,rfl,_,_,rfl,rfl,.inr (ZiQ _),_,rfl,_,rfl,_,_,rfl,rfl,.inl ⟨by decide,by decide⟩,_,_,rfl,rfl,(by show 3≤sizeLine;decide),fun p hp=>?_⟩⟩
  exact q p _ hp ⟨_,_,Ze,Int.le_refl _⟩ (Zk hp _)
 ·refine⟨_,rfl,_,rfl,_,rfl,_,rfl,_,_,rfl,rfl,pw,_,_,rfl,rfl,.inr ⟨_,rfl,_,_,rfl,rfl,.inr (ZiQ _),_,rfl,_,rfl,_,_,rfl,rfl,.inl ⟨by decide,by decide⟩,_,_,rfl,rfl,(by show 3≤sizeLine;decide),fun p hp=>?_⟩⟩
  exact q p _ hp ⟨_,_,Ze,Int.le_refl _⟩ (Zk hp _)
theorem Zin(T:Zag K mg cRow cMerge cMergeError cFull cNoRow cOutOfOrder cBadLine)(f_l_mix:Df P w K mg base 1 "_law_mix" ["_law_cell", "_law_k"] ZgQ):Df P w K mg base 2 "_law_pick" ["_law_left_here", "_law_many_here"] Zbz:=by
 refine T.t_l_pick.df ZdD (fun vs H Q E h=>?_) (fun cdv f A outer s H vs Q E hr h=>?_)
 ·obtain⟨p,c,m,rfl,_⟩:=h
  rfl
 obtain⟨p,c,m,rfl,⟨a,b,hp,c0⟩,c1,m0,m1,q⟩:=h
 refine⟨_,#[Zf,#[Zbe,#[ZF,ZaN,#[ZI,(ixL K),‹0›,#[Zh]],#[Zh]],#[Zcj,‹0›,#[Zh],Zdf]],#[Zf,#[Zak,#[Zr,ZgL,#[ZI,(ixL K),‹0›,#[Zh]],#[Zh],(Zw _)],#[Zf,#[Zy,2,ZdD.nd,(Or.inl rfl),#[ZF,ZcM,#[ZI,(ixL K),‹0›,#[Zh]],‹1›]],#[Zf,#[Zbe,#[ZF,ZdY,#[ZI,(ixL K),‹0›,#[Zh]],‹1›],#[Zcj,‹0›,#[Zh],Zdf]],#[Zi,#[Zu,‹2›]]]],(@ZL _)],#[Zi,#[Zu,#[ZF,ZcM,#[ZF,ZdY,#[ZD,f_l_mix,hr,#[Za,#[ZD,f_l_mix,hr,#[Za,#[ZI,(ixL K),‹0›,#[Zh]],#[Za,#[ZI,(ixL K),‹0›,#[Zh]],#[Zg]]],(by rfl)],#[Za,#[ZF,ZaN,#[ZI,(ixL K),‹0›,#[Zh]],#[Zh]],#[Zg]]],(by rfl)],#[Zh]],‹1›]]]]],?_⟩
 have u1:(upd H p (.lst [.int a,.int b,.int (c+1)])) p=some (.lst [.int a,.int b,.int (c+1)]):=Ze
 refine⟨_,rfl,xw4 p _ _ _ ⟨rfl,rfl,SqL.of hp,rfl,_,_,rfl,rfl,_,rfl,p,_,_,2,rfl,rfl,hp,rfl,?_⟩⟩
 refine⟨_,rfl,xw4 p _ _ _ ⟨rfl,rfl,SqL.of u1,rfl,_,_,rfl,rfl,_,rfl,?_⟩⟩
 refine Zbi (fun d=>?_) (fun d=>?_)
 ·refine⟨_,rfl,xw4 p _ _ _ ⟨rfl,rfl,SqL.of u1,rfl,_,rfl,_,_,rfl,rfl,m0,?_⟩⟩
  refine⟨_,rfl,xw4 p _ _ _ ⟨rfl,rfl,SqL.of u1,rfl,_,rfl,_,_,rfl,rfl,⟨m0,by omega⟩,_,rfl,p,_,_,0,rfl,rfl,u1,rfl,?_⟩⟩
  refine⟨_,rfl,?_⟩
  refine q _ _ (Int.emod_nonneg _ (by omega)) (Qac _ m0) ⟨a / m,b,Ze,by omega⟩ fun e o h n=>?_
  rw[Zc n,Zc n]
  exact h
 ·refine⟨_,rfl,xw4 p _ _ _ ⟨rfl,rfl,SqL.of u1,rfl,_,rfl,xw4 p _ _ _ ⟨rfl,rfl,SqL.of u1,rfl,_,_,rfl,by omega,by omega,fun r r0 r1=>?_⟩⟩⟩
  refine⟨_,rfl,xw4 p _ _ _ ⟨rfl,rfl,SqL.of u1,rfl,_,_,rfl,rfl,_,_,rfl,by omega,by omega,fun r' r0' r1'=>?_⟩⟩
  refine⟨_,_,rfl,rfl,⟨by decide,by decide⟩,_,rfl,_,_,rfl,rfl,m0,?_⟩
  refine q _ _ (Int.emod_nonneg _ (by omega)) (Qac _ m0) ⟨a,b,Ze,by omega⟩ fun e o h n=>?_
  rw[Zc n]
  exact h
def Zay:List Str:=["", "a", "ab", "aba", "abab", "b", "zebra", "aaaaaaaa", "knowswho", "z", "abababababab",Txt.mul "a" 24]
theorem ZeJ:∀s∈Zay,s.length≤24:=by ac_rfl
theorem Ze4:∀s∈Zay,AZ s:=by unfold AZ cds;ac_rfl
def Zeg:Sp:=fun vs H Q _=>∃ (p:Addr) (c:Int),vs=[.ref p]∧ZR H p c∧c<2 ^ 50 ∧
 ∀ (l:Addr) (ss:List Str) (c':Int) (H':Hp),H l=none→H' l=some (.lst (ss.map V.str))→1≤ss.length→ss.length≤4→(∀s∈ss,s.length≤24∧AZ s)→ZR H' p c'→c≤c'→c'≤c+5→But p H H'→Q (.ref l) H'
def Zhb:Sp:=fun vs H Q _=>∃ (p l:Addr) (c:Int) (ss:List Str),vs=[.ref p,.ref l]∧ZR H p c∧c<2 ^ 50∧H l=some (.lst (ss.map V.str))∧1≤ss.length∧ss.length≤4∧(∀s∈ss,s.length≤24∧AZ s) ∧
 ∀ (z:Str) (c':Int) (H':Hp),z.length≤28→AZ z→ZR H' p c'→c≤c'→c'≤c+6→But p H H'→Q (.str z) H'
theorem Zhx(T:Zag K mg cRow cMerge cMergeError cFull cNoRow cOutOfOrder cBadLine)(f_l_pick:Df P w K mg base 2 "_law_pick" ["_law_left_here", "_law_many_here"] Zbz):Df P w K mg base 3 "_law_stems" ["_law_left_here"] Zeg:=by
 refine T.t_l_stems.df Zdj (fun vs H Q E h=>?_) (fun cdv f A outer s H vs Q E hr h=>?_)
 ·obtain⟨p,c,rfl,_⟩:=h
  rfl
 obtain⟨p,c,rfl,hL,c1,q⟩:=h
 refine⟨_,#[Zf,#[Zy,1,Zdj.nd,(Or.inr rfl),#[Zas,#[Za,#[Zz],#[Za,#[Zz],#[Za,#[Zz],#[Za,#[Zz],#[Za,#[Zz],#[Za,#[Zz],#[Za,#[Zz],#[Za,#[Zz],#[Za,#[Zz],#[Za,#[Zz],#[Za,#[Zz],#[Za,#[ZF,ZiG,#[Zz],#[Zh]],#[Zg]]]]]]]]]]]]]]],#[Zi,#[Zu,#[ZcB,Zhf,#[ZaK,T.b.n_range,#[Za,#[ZF,ZaN,#[Zh],#[ZD,f_l_pick,hr,#[Za,#[pv,0,(Or.inr (Or.inl rfl))],#[Za,#[Zh],#[Zg]]],(by rfl)]],#[Zg]]],(fun _ _ _ _=>#[cg,2,Zhf]),(fun _ _ _ _=>(@Zcb _)),(fun _ _ _ _=>#[ZI,(ixL K),#[cv,1,Zhf],#[ZD,f_l_pick,hr,#[Za,#[cv,0,Zhf],#[Za,#[Zh],#[Zg]]],(Za5 Zhf rfl (by ac_rfl))]])]]]],?_⟩
 refine⟨_,_,rfl,rfl,by decide,by decide,by decide,(by show 12≤sizeLine;decide),fun l hl=>?_⟩
 have npl:p≠l:=by obtain⟨a,b,hp,_⟩:=hL;exact Zb hp hl
 have hL1:ZR (upd H l (.lst (Zay.map V.str))) p c:=by obtain⟨a,b,hp,c0⟩:=hL;exact⟨a,b,by rw[Zc npl];exact hp,c0⟩
 refine⟨_,rfl,p,c,_,rfl,hL1,by omega,by decide,by decide,fun r H1 r0 r1 L1 B1=>?_⟩
 refine⟨_,_,rfl,rfl,_,rfl,by omega,by omega,fun D hD=>?_⟩
 have c0:0≤c:=by obtain⟨a,b,hp,c0⟩:=hL;exact c0
 have h1l:H1 l=some (.lst (Zay.map V.str)):=B1 l _ Ze npl.symm
 have npD:p≠D:=by obtain⟨a,b,hp,_⟩:=L1;exact Zb hp hD
 have nlD:l≠D:=Zb h1l hD
 refine ZbP (fun i ys σ H2=>∃ (ss:List Str) (v:Option V) (c2:Int),σ=[some (.ref p),some (.ref l),v]∧ys=ss.map V.str∧ss.length=i∧(∀s∈ss,s.length≤24∧AZ s)∧ZR H2 p c2∧c+1≤c2∧c2≤c+1+i ∧
   H2 l=some (.lst (Zay.map V.str))∧H2 D=some (.lst ys)∧But p H H2) ?_ ?_ ?_
 ·refine⟨[],none,c+1,rfl,rfl,rfl,(fun s hs=>by cases hs),?_,by omega,by omega,?_,Ze,?_⟩
  ·obtain⟨a,b,hp,q0⟩:=L1
   exact⟨a,b,by rw[Zc npD];exact hp,q0⟩
  ·rw[Zc nlD];exact h1l
  ·intro b o e n
   have e1:(upd H l (.lst (Zay.map V.str))) b=some o:=by rw[Zc (Zb e hl)];exact e
   have e2:=B1 b o e1 n
   rw[Zc (Zb e2 hD)]
   exact e2
 ·rintro i ys σ H2 hi ⟨ss,v,c2,rfl,rfl,hn,hs,L2',b1,b2,hl2,hD2,B2⟩
  refine⟨_,rfl,_,rfl,p,c2,_,rfl,L2',by omega,by decide,by decide,fun r' H3 r0' r1' L3 B3=>?_⟩
  obtain⟨s,hs1,hs2⟩:=ZeW (ss:=Zay) r0' r1'
  have hD3:H3 D=some (.lst (ss.map V.str)):=B3 D _ hD2 npD.symm
  have hl3:H3 l=some (.lst (Zay.map V.str)):=B3 l _ hl2 npl.symm
  refine(xw4 l _ _ _ ⟨rfl,rfl,SqL.of hl3,hs2,hD3,(by rw[Qb,hn];exact Zp (by omega)),ss++[s],_,c2+1,rfl,?_,?_,?_,?_,by omega,by omega,?_,Ze,?_⟩)
  ·rw[Qh];rfl
  ·rw[Qm,hn];rfl
  ·intro x hx
   rcases Qg.mp hx with hx|hx
   ·exact hs x hx
   ·rw[Qj.mp hx];exact⟨ZeJ s hs1,Ze4 s hs1⟩
  ·obtain⟨a,b,hp,q0⟩:=L3
   exact⟨a,b,by rw[Zc npD];exact hp,q0⟩
  ·rw[Zc nlD];exact hl3
  ·intro b o e n
   have e2:=B3 b o (B2 b o e n) n
   have e3:H D=none:=by
    cases w':H D with
    | none=>rfl
    | some u =>
     have nDp:D≠p:=npD.symm
     have z1:(upd H l (.lst (Zay.map V.str))) D=some u:=by rw[Zc nlD.symm];exact w'
     rw[B1 D u z1 nDp]at hD
     cases hD
   rw[Zc (Zb e e3)]
   exact e2
 ·rintro ys σ H2 ⟨ss,v,c2,rfl,rfl,hn,hs,L2',b1,b2,hl2,hD2,B2⟩
  have e3:H D=none:=by
   cases w':H D with
   | none=>rfl
   | some u =>
    have z1:(upd H l (.lst (Zay.map V.str))) D=some u:=by rw[Zc nlD.symm];exact w'
    rw[B1 D u z1 npD.symm]at hD
    cases hD
  exact q D ss c2 H2 e3 hD2 (by omega) (by omega) hs L2' (by omega) (by omega) B2
theorem Zjc(T:Zag K mg cRow cMerge cMergeError cFull cNoRow cOutOfOrder cBadLine)(f_l_pick:Df P w K mg base 2 "_law_pick" ["_law_left_here", "_law_many_here"] Zbz):Df P w K mg base 3 "_law_key" ["_law_left_here", "_law_stems_here"] Zhb:=by
 refine T.t_l_key.df ZeB (fun vs H Q E h=>?_) (fun cdv f A outer s H vs Q E hr h=>?_)
 ·obtain⟨p,l,c,ss,rfl,_⟩:=h
  rfl
 obtain⟨p,l,c,ss,rfl,hL,c1,hl,n1,n4,h24,q⟩:=h
 refine⟨_,#[Zf,#[Zy,2,ZeB.nd,(Or.inl rfl),#[Zel,PySem.F.plainAttrs_str,PySem.F.slot_str_join,PySem.F.type_str_join,(Zj2 K),#[Zz],#[Za,#[ZcB,ZiB,#[ZaK,T.b.n_range,#[Za,#[ZD,f_l_pick,hr,#[Za,#[pv,0,(Or.inr (Or.inl rfl))],#[Za,#[Zh],#[Zg]]],(by rfl)],#[Zg]]],(fun _ _ _ _=>#[cg,3,ZiB]),(fun _ _ _ _=>(@Zcb _)),(fun _ _ _ _=>#[ZI,ZcX,#[Zz],#[ZD,f_l_pick,hr,#[Za,#[cv,0,ZiB],#[Za,#[Zh],#[Zg]]],(Za5 ZiB rfl (by ac_rfl))]])],#[Zg]]]],#[Zi,#[Zu,#[ZF,Ze7,#[ZI,(ixL K),‹1›,#[ZD,f_l_pick,hr,#[Za,#[pv,0,(Or.inr (Or.inl rfl))],#[Za,#[Zs,(Zcs K),T.b.n_len,Qr,#[Za,‹1›,#[Zg]]],#[Zg]]],(by rfl)]],‹2›]]]],?_⟩
 have c0:0≤c:=by obtain⟨a,b,hp,c0⟩:=hL;exact c0
 have npl:p≠l:=by
  obtain⟨a,b,hp,_⟩:=hL
  refine Zhl hp hl fun e=>?_
  have e1:=congrArg List.length (HO.lst.inj e)
  cases ss with
  | nil=>cases e1
  | cons x r=>exact absurd (HO.lst.inj e) (by intro z;cases z)
 refine⟨rfl,_,rfl,p,c,_,rfl,hL,by omega,by decide,by decide,fun r H1 r0 r1 L1 B1=>?_⟩
 refine⟨_,rfl,by omega,by omega,fun D hD=>?_⟩
 have npD:p≠D:=by obtain⟨a,b,hp,_⟩:=L1;exact Zb hp hD
 have h1l:=B1 l _ hl npl.symm
 have nlD:l≠D:=Zb h1l hD
 have hDn:H D=none:=by
  cases w':H D with
  | none=>rfl
  | some u=>rw[B1 D u w' npD.symm]at hD;cases hD
 refine ZbP (fun i ys σ H2=>∃ (ts:List Str) (v:Option V) (c2:Int),σ=[some (.ref p),some (.ref l),none,v]∧ys=ts.map V.str∧ts.length=i∧(∀s∈ts,s.length≤1∧AZ s)∧ZR H2 p c2∧c+1≤c2∧c2≤c+1+i ∧
   H2 D=some (.lst ys)∧But p H H2) ?_ ?_ ?_
 ·refine⟨[],none,c+1,rfl,rfl,rfl,(fun s hs=>by cases hs),?_,by omega,by omega,Ze,?_⟩
  ·obtain⟨a,b,hp,q0⟩:=L1
   exact⟨a,b,by rw[Zc npD];exact hp,q0⟩
  ·intro b o e n
   rw[Zc (Zb e hDn)]
   exact B1 b o e n
 ·rintro i ys σ H2 hi ⟨ts,v,c2,rfl,rfl,hn,hs,L2',b1,b2,hD2,B2⟩
  refine⟨_,rfl,p,c2,_,rfl,L2',by omega,by decide,by decide,fun r' H3 r0' r1' L3 B3=>?_⟩
  obtain⟨ch,hcm,hch⟩:=Zca (z := "ababcz") r0' r1'
  have hD3:H3 D=some (.lst (ts.map V.str)):=B3 D _ hD2 npD.symm
  refine⟨_,_,_,rfl,rfl,(by ac_rfl),hch,hD3,(by rw[Qb,hn];exact Zp (by omega)),ts++[⟨#[ch]⟩],_,c2+1,rfl,?_,?_,?_,?_,by omega,by omega,Ze,?_⟩
  ·rw[Qh];rfl
  ·rw[Qm,hn];rfl
  ·intro x hx
   rcases Qg.mp hx with hx|hx
   ·exact hs x hx
   ·rw[Qj.mp hx];exact⟨Qe 1,Zjw.one hcm⟩
  ·obtain⟨a,b,hp,q0⟩:=L3
   exact⟨a,b,by rw[Zc npD];exact hp,q0⟩
  ·intro b o e n
   rw[Zc (Zb e hDn)]
   exact B3 b o (B2 b o e n) n
 ·rintro ys σ H2 ⟨ts,v,c2,rfl,rfl,hn,hs,L2',b1,b2,hD2,B2⟩
  have hsum:=Zet ts fun s h=>(hs s h).1
  have hjl:=ZhF "" ts
  have e0:("" : Str).length=0:=by ac_rfl
  rw[e0]at hjl
  have hl2:=B2 l _ hl npl.symm
  refine⟨_,D,ts,rfl,rfl,SqL.of hD2,(by rw[e0];omega),?_⟩
  have hlen:(((ss.map V.str).length:Nat):Int)=(ss.length:Int):=by rw[Qb]
  refine⟨_,rfl,_,rfl,_,rfl,l,_,rfl,.inl (SqL.of hl2),p,c2,_,rfl,L2',by omega,by omega,by omega,fun r' H3 r0' r1' L3 B3=>?_⟩
  obtain⟨st,hs1,hs2⟩:=ZeW (ss:=ss) r0' (by omega)
  have hst:=(h24 st hs1).1
  refine(xw4 l _ _ _ ⟨rfl,rfl,SqL.of (B3 l _ hl2 npl.symm),hs2,_,rfl,_,_,rfl,rfl,Zbn (by omega),?_⟩)
  refine q _ (c2+1) H3 ?_ ((h24 st hs1).2.app (AZ.joinT ts fun s h=>(hs s h).2)) L3 (by omega) (by omega) (B2.trans B3)
  rw[PySem.Str.length_append]
  omega
theorem Zdm(T:Zag K mg cRow cMerge cMergeError cFull cNoRow cOutOfOrder cBadLine):Df P w K mg base 1 "alike_from" ["one", "other", "far"] ZaU:=by
 refine T.t_alike_from.df ZaW (fun vs H Q E h=>?_) (fun cdv f A outer s H vs Q E hr h=>?_)
 ·obtain⟨x,y,far,rfl,_⟩:=h
  rfl
 obtain⟨x,y,far,rfl,hx,hy,hf,q⟩:=h
 refine⟨_,#[Zf,#[Zy,3,ZaW.nd,(Or.inl rfl),‹2›],#[Zf,(@ZgJ _ _ _ _ _ _ PassesOwn.never (@PW.pt _ _ _ (@ZcL _ _ _ _ _ _ _ #[Zr,ZdP,‹3›,#[Zs,Zae,T.b.n_len,Qr,#[Za,‹0›,#[Zg]]],(Zw _)] (@ZcL _ _ _ _ _ _ _ #[Zr,ZdP,‹3›,#[Zs,Zae,T.b.n_len,Qr,#[Za,‹1›,#[Zg]]],(Zw _)] (@Zcz _ _ _ _ #[Zr,Zbl,#[ZI,ZcX,‹0›,‹3›],#[ZI,ZcX,‹1›,‹3›],(Zw _)])))) #[Zi,(@Zje _ _ 3 _ _ _ _ _ _ ZaW.nd rfl (Or.inl rfl) #[Zh] Zjy (by trivial))]),#[Zi,#[Zu,‹3›]]]],?_⟩
 refine⟨_,rfl,?_⟩
 have lx:(cds x).length=x.length:=by simp[Str.length]
 have ly:(cds y).length=y.length:=by simp[Str.length]
 have ll:=ZdV (cds x) (cds y)
 refine⟨fun m σ H2=>∃k:Nat,σ=[some (.str x),some (.str y),some (.int far),some (.int k)]∧H2=H∧k≤lcp (cds x) (cds y)∧m=lcp (cds x) (cds y)-k,⟨_,far,rfl,rfl,hf,rfl⟩,?_⟩
 rintro m σ H2 ⟨k,rfl,rfl,hk,rfl⟩
 refine⟨_,rfl,_,rfl,x,rfl,Zbn hx,_,_,rfl,rfl,_,rfl,?_⟩
 refine Zbi (fun d1=>?_) (fun d1=>?_)
 ·have d1':(k:Int)<(x.length:Int):=of_decide_eq_true d1
  refine⟨_,rfl,_,rfl,y,rfl,Zbn hy,_,_,rfl,rfl,_,rfl,?_⟩
  refine Zbi (fun d2=>?_) (fun d2=>?_)
  ·have d2':(k:Int)<(y.length:Int):=of_decide_eq_true d2
   obtain⟨a,ha,ha'⟩:=Zca (z:=x) (k:=k) (by omega) d1'
   obtain⟨b,hb,hb'⟩:=Zca (z:=y) (k:=k) (by omega) d2'
   rw[Int.toNat_natCast]at ha hb
   refine⟨_,rfl,_,rfl,x,_,a,rfl,rfl,Zbn hx,ha',_,rfl,_,rfl,y,_,b,rfl,rfl,Zbn hy,hb',rfl,_,rfl,?_⟩
   refine Zbi (fun d3=>?_) (fun d3=>?_)
   ·have d3':a=b:=by
     have:=of_decide_eq_true d3
     injection this with e
     injection e with e
     simpa using e
    subst d3'
    have:=Zhg _ _ k hk a ha hb
    refine⟨fun σ' H'=>σ'=[some (.str x),some (.str y),some (.int far),some (.int ((k+1:Nat):Int))]∧H'=H2,fun σ' H' ⟨e1,e2⟩=>⟨_,?_,k+1,e1,e2,this,rfl⟩,?_⟩
    ·omega
    ·exact⟨_,rfl,_,_,rfl,rfl,rfl,rfl⟩
   ·refine⟨_,rfl,?_⟩
    have e:=ZdX _ _ k hk (.inr (.inr ⟨a,b,ha,hb,fun e=>d3 (by subst e;exact decide_eq_true rfl)⟩))
    rw[e]at q
    exact q
  ·refine Zcu ⟨_,rfl,?_⟩
   have d2':¬ (k:Int)<(y.length:Int):=of_decide_eq_false (Bool.eq_false_iff.mpr d2)
   have e:=ZdX _ _ k hk (.inr (.inl (by omega)))
   rw[e]at q
   exact q
 ·refine Zcu ⟨_,rfl,?_⟩
  have d1':¬ (k:Int)<(x.length:Int):=of_decide_eq_false (Bool.eq_false_iff.mpr d1)
  have e:=ZdX _ _ k hk (.inl (by omega))
  rw[e]at q
  exact q
theorem Zhw(T:Zag K mg cRow cMerge cMergeError cFull cNoRow cOutOfOrder cBadLine)(f_alike_from:Df P w K mg base 1 "alike_from" ["one", "other", "far"] ZaU):Df P w K mg base 2 "alike" ["one", "other"] ZcC:=by
 refine T.t_alike.df ZgO (fun vs H Q E h=>?_) (fun cdv f A outer s H vs Q E hr h=>?_)
 ·obtain⟨x,y,rfl,_⟩:=h
  rfl
 obtain⟨x,y,rfl,hx,hy,q⟩:=h
 refine⟨_,#[Zi,#[Zu,#[ZD,f_alike_from,hr,#[Za,‹0›,#[Za,‹1›,#[Za,#[Zh],#[Zg]]]],(by rfl)]]],?_⟩
 exact⟨_,rfl,_,rfl,x,y,0,rfl,hx,hy,Qu _,q⟩
theorem Zen{c A B:Prop}[Decidable c](hc:c)(h:A):if decide c=true then A else B:=by
 rw[if_pos (decide_eq_true hc)]
 exact h
theorem ZdG{c A B:Prop}[Decidable c](hc:¬ c)(h:B):if decide c=true then A else B:=by
 rw[if_neg (by rw[decide_eq_false hc];exact Qi)]
 exact h
theorem ZR.new{H:Hp}{p l:Addr}{c:Int}{o:HO}(h:ZR H p c)(n:H l=none):ZR (upd H l o) p c:=by
 obtain⟨a,b,hp,c0⟩:=h
 exact⟨a,b,by rw[Zc (Zb hp n)];exact hp,c0⟩
theorem ZR.ge{H:Hp}{p:Addr}{c:Int}(h:ZR H p c):0≤c:=by obtain⟨a,b,hp,c0⟩:=h;exact c0
theorem ZR.here{H:Hp}{p:Addr}{c:Int}(h:ZR H p c):∃o,H p=some o:=by obtain⟨a,b,hp,c0⟩:=h;exact⟨_,hp⟩
theorem ZR.at{H:Hp}{p l:Addr}{c:Int}{o:HO}(h:ZR H p c)(n:p≠l):ZR (upd H l o) p c:=by
 obtain⟨a,b,hp,c0⟩:=h
 exact⟨a,b,by rw[Zc n];exact hp,c0⟩
theorem Zdg:∀ss:List Str,(∀s∈ss,AZ s)→PyData.canLayAll0 (ss.map PyData.str)=true
 | [],_=>rfl
 | x::r,h=>by simp[PyData.canLayAll0,PyData.canLay0,(h x (by simp)).ok,Zdg r fun s hs=>h s (List.mem_cons_of_mem _ hs)]
theorem ZbT:∀ss:List Str,PyData.depthAll (ss.map PyData.str)=0
 | []=>rfl
 | _::r=>by simp[PyData.depthAll,PyData.depth,ZbT r]
theorem ZeG(ss:List Str)(h:∀s∈ss,AZ s):SeqAt.shaped (.list (ss.map PyData.str))=true:=by simp[SeqAt.shaped,PyData.canLay0,PyData.depth,Zdg ss h,ZbT]
theorem Zd8{K:PySem.W.Frag}{H:Hp}:∀ss:List Str,DVs K H (ss.map V.str) (ss.map PyData.str)
 | []=>.nil
 | s::r=>.cons (.str s) (Zd8 r)
def Zfw:Sp:=fun vs H Q _=>∃ (p l:Addr) (c most:Int) (ss:List Str),vs=[.ref p,.ref l,.int most]∧ZR H p c∧c<2 ^ 40∧0≤most∧most≤60∧H l=some (.lst (ss.map V.str))∧1≤ss.length∧ss.length≤4∧(∀s∈ss,s.length≤24∧AZ s) ∧
 ∀ (r:Addr) (ts:List Str) (c':Int) (H':Hp),H r=none→H' r=some (.lst (ts.map V.str))→(ts.length:Int)≤most→(∀s∈ts,s.length≤28∧AZ s)→ZR H' p c'→c≤c'→c'≤c+600→But p H H'→Q (.ref r) H'
theorem Zia(T:Zag K mg cRow cMerge cMergeError cFull cNoRow cOutOfOrder cBadLine)(f_l_pick:Df P w K mg base 2 "_law_pick" ["_law_left_here", "_law_many_here"] Zbz)(f_l_key:Df P w K mg base 3 "_law_key" ["_law_left_here", "_law_stems_here"] Zhb):Df P w K mg base 4 "_law_keys" ["_law_left_here", "_law_stems_here", "_law_most"] Zfw:=by
 refine T.t_l_keys.df Za9 (fun vs H Q E h=>?_) (fun cdv f A outer s H vs Q E hr h=>?_)
 ·obtain⟨p,l,c,most,ss,rfl,_⟩:=h
  rfl
 obtain⟨p,l,c,most,ss,rfl,hL,c1,m0,m1,hl,n1,n4,h24,q⟩:=h
 refine⟨_,#[Zf,#[Zy,3,Za9.nd,(Or.inl rfl),#[Zas,#[Zg]]],#[Zf,#[ZbW,PassesOwn.never,#[ZaK,T.b.n_range,#[Za,#[ZD,f_l_pick,hr,#[Za,‹0›,#[Za,#[ZF,ZaN,‹2›,#[Zh]],#[Zg]]],(by rfl)],#[Zg]]],#[ZJ,4,Za9.nd],#[Zf,#[Zy,5,Za9.nd,(Or.inl rfl),#[ZD,f_l_key,hr,#[Za,‹0›,#[Za,‹1›,#[Zg]]],(by rfl)]],#[Zf,#[Zak,(@PW.pt _ _ _ (@ZcL _ _ _ _ _ _ _ #[Zr,(@neD _ K _ hr (by rfl)),‹3›,#[Zas,#[Zg]],(Zw _)] (@Zcz _ _ _ _ #[Zr,Zbl,#[ZD,f_l_pick,hr,#[Za,‹0›,#[Za,#[Zh],#[Zg]]],(by rfl)],#[Zh],(Zw _)]))),#[Zi,#[Zy,5,Za9.nd,(Or.inl rfl),#[ZI,(ixL K),‹3›,#[ZD,f_l_pick,hr,#[Za,‹0›,#[Za,#[Zs,(Zcs K),T.b.n_len,Qr,#[Za,‹3›,#[Zg]]],#[Zg]]],(by rfl)]]]],(@ZL _)],#[Zi,#[ZaG,#[Zel,QY,Q8,Q9,ZbE,‹3›,#[Za,‹5›,#[Zg]]]]]]]],#[Zi,#[Zu,‹3›]]]],?_⟩
 have c0:=hL.ge
 refine⟨(by show 0≤sizeLine;decide),fun r hr0=>?_⟩
 have npr:p≠r:=by obtain⟨o,ho⟩:=hL.here;exact Zb ho hr0
 have nlr:l≠r:=Zb hl hr0
 have npl:p≠l:=by
  obtain⟨a,b,hp,_⟩:=hL
  refine Zhl hp hl fun e=>?_
  cases ss with
  | nil=>exact absurd (congrArg List.length (HO.lst.inj e)) (by simp)
  | cons x r=>exact absurd (HO.lst.inj e) (by intro z;cases z)
 refine⟨_,rfl,_,rfl,_,_,rfl,rfl,p,c,_,rfl,hL.new hr0,by omega,by omega,by omega,fun n H1 w0 w1 L1 B1=>?_⟩
 refine⟨_,rfl,by omega,by omega,?_⟩
 have hr1:H1 r=some (.lst []):=B1 r _ Ze npr.symm
 have B01:But p H H1:=(But.same (Zk hr0 _)).trans B1
 refine ZbI (fun i σ H2=>∃ (ts:List Str) (v1 v2:Option V) (c2:Int),σ=[some (.ref p),some (.ref l),some (.int most),some (.ref r),v1,v2]∧H2 r=some (.lst (ts.map V.str))∧ts.length=i∧(∀s∈ts,s.length≤28∧AZ s)∧ZR H2 p c2∧c+1≤c2∧c2≤c+1+8*i∧(∀b o,H b=some o→b≠p→H2 b=some o)) ⟨[],none,none,c+1,rfl,hr1,rfl,(fun s hs=>by cases hs),L1,by omega,by omega,B01⟩ ?_ ?_
 ·rintro i σ H2 hi ⟨ts,v1,v2,c2,rfl,hr2,hn,h28,L2,a1,a2,B2⟩
  have hi60:(i:Int)<61:=by omega
  have hl2:=B2 l _ hl npl.symm
  refine⟨_,rfl,_,rfl,p,l,c2,ss,rfl,L2,by omega,hl2,n1,n4,h24,fun key c3 H3 hkey hkaz L3 a3 a4 B3=>?_⟩
  have hr3:=B3 r _ hr2 npr.symm
  have fin:∀ (k2:Str) (c4:Int) (H4:Hp),k2.length≤28∧AZ k2→ZR H4 p c4→c2≤c4→c4≤c2+8→H4 r=some (.lst (ts.map V.str))→(∀b o,H b=some o→b≠p→H4 b=some o) →
    ∃ (ts':List Str) (v1 v2:Option V) (c5:Int),[some (V.ref p),some (V.ref l),some (V.int most),some (V.ref r),some (V.int (0+(i:Int))),some (V.str k2)]=[some (.ref p),some (.ref l),some (.int most),some (.ref r),v1,v2] ∧
     (upd H4 r (.lst (ts.map V.str++[.str k2]))) r=some (.lst (ts'.map V.str))∧ts'.length=i+1∧(∀s∈ts',s.length≤28∧AZ s)∧ZR (upd H4 r (.lst (ts.map V.str++[.str k2]))) p c5∧c+1≤c5∧c5≤c+1+8*((i+1:Nat):Int) ∧
     (∀b o,H b=some o→b≠p→(upd H4 r (.lst (ts.map V.str++[.str k2]))) b=some o):=fun k2 c4 H4 hk L4 b1 b2 hr4 B4=>by
   refine⟨ts++[k2],_,_,c4,rfl,?_,by rw[Qm,hn];rfl,?_,L4.at npr,by omega,by omega,fun b o e n=>?_⟩
   ·rw[Ze,Qh];rfl
   ·intro x hx
    rcases Qg.mp hx with hx|hx
    ·exact h28 x hx
    ·rw[Qj.mp hx];exact hk
   ·rw[Zc (Zb e hr0)]
    exact B4 b o e n
  have hlt:(ts.map V.str).length<sizeLine:=by rw[Qb,hn];exact Zp (by omega)
  refine⟨_,rfl,(by show 0≤sizeLine;decide),fun e he=>?_⟩
  have hr3':(upd H3 e (.lst [])) r=some (.lst (ts.map V.str)):=by rw[Zc (Zb hr3 he)];exact hr3
  refine⟨.list (ts.map PyData.str),.list [],.lst (SqL.of hr3') (Zd8 ts),.lst (SqL.of Ze) .nil,ZeG ts (fun s h=>(h28 s h).2),(by ac_rfl),_,rfl,?_⟩
  have B3':∀b o,H b=some o→b≠p→(upd H3 e (.lst [])) b=some o:=fun b o z n=>Zk he _ b o (B3 b o (B2 b o z n) n)
  cases ts with
  | nil =>
   have ev:(if true=true then !PyData.eqv (.list (([]:List Str).map PyData.str)) (.list []) else PyData.eqv (.list (([]:List Str).map PyData.str)) (.list []))=false:=by ac_rfl
   rw[ev]
   refine Zcu (Zcu ?_)
   refine⟨_,rfl,.inl ⟨rfl,_,SqL.of hr3'⟩,_,rfl,r,_,_,rfl,rfl,hr3',hlt,?_⟩
   exact fin key c3 _ ⟨hkey,hkaz⟩ (L3.new he) (by omega) (by omega) hr3' B3'
  | cons t0 tr =>
   have ev:(if true=true then !PyData.eqv (.list ((t0::tr).map PyData.str)) (.list []) else PyData.eqv (.list ((t0::tr).map PyData.str)) (.list []))=true:=by simp[PyData.eqv,PyData.eqvAll]
   rw[ev]
   refine Zh6 ⟨_,rfl,p,c3,_,rfl,L3.new he,by omega,by decide,by decide,fun d H5 d0 d1 L5 B5=>?_⟩
   have hr5:=B5 r _ hr3' npr.symm
   refine⟨rfl,_,rfl,Zbi (fun _=>?_) (fun _=>?_)⟩
   ·have hlen:((((t0::tr).map V.str).length:Nat):Int)=((t0::tr).length:Int):=by rw[Qb]
    have hpos:(0:Int)<((t0::tr).length:Int):=by simp
    refine⟨_,rfl,_,rfl,_,rfl,r,_,rfl,.inl (SqL.of hr5),p,c3+1,_,rfl,L5,by omega,by omega,by omega,fun d' H6 d0' d1' L6 B6=>?_⟩
    obtain⟨st,hs1,hs2⟩:=ZeW (ss:=t0::tr) d0' (by omega)
    have hr6:=B6 r _ hr5 npr.symm
    refine(xw4 r _ _ _ ⟨rfl,rfl,SqL.of hr6,hs2,?_⟩)
    refine⟨_,rfl,.inl ⟨rfl,_,SqL.of hr6⟩,_,rfl,r,_,_,rfl,rfl,hr6,hlt,?_⟩
    exact fin st _ _ (h28 st hs1) L6 (by omega) (by omega) hr6 fun b o z n=>B6 b o (B5 b o (B3' b o z n) n) n
   ·refine⟨_,rfl,.inl ⟨rfl,_,SqL.of hr5⟩,_,rfl,r,_,_,rfl,rfl,hr5,hlt,?_⟩
    exact fin key _ _ ⟨hkey,hkaz⟩ L5 (by omega) (by omega) hr5 fun b o z n=>B5 b o (B3' b o z n) n
 ·rintro σ H2 ⟨ts,v1,v2,c2,rfl,hr2,hn,h28,L2,a1,a2,B2⟩
  exact⟨_,rfl,q r ts c2 H2 hr0 hr2 (by omega) h28 L2 (by omega) (by omega) B2⟩
def ZbL(ss:List Str)(i:Nat):Int:=if i=0 then 0 else (lcp (cds (ss.getD (i-1) "")) (cds (ss.getD i "")):Nat)
def Zdc(K:PySem.W.Frag):Sp:=fun vs H Q _=>∃ (a:Addr) (ss:List Str),vs=[.ref a]∧SqL K H a (ss.map V.str)∧ss.length≤100∧(∀s∈ss,s.length≤1000) ∧
 ∀ (r:Addr) (H':Hp),H r=none→H' r=some (.lst ((List.range ss.length).map fun j=>.int (ZbL ss j)))→ZH H H'→Q (.ref r) H'
theorem Zgd(T:Zag K mg cRow cMerge cMergeError cFull cNoRow cOutOfOrder cBadLine)(f_alike:Df P w K mg base 2 "alike" ["one", "other"] ZcC):Df P w K mg base 3 "alikes" ["row"] (Zdc K):=by
 refine T.t_alikes.df ZbH (fun vs H Q E h=>?_) (fun cdv f A outer s H vs Q E hr h=>?_)
 ·obtain⟨a,ss,rfl,_⟩:=h
  rfl
 obtain⟨a,ss,rfl,hS,hn,hlen,q⟩:=h
 refine⟨_,#[Zf,#[Zy,1,ZbH.nd,(Or.inl rfl),#[Zas,#[Zg]]],#[Zf,#[ZbW,PassesOwn.never,#[iE,K,T.b.n_enumerate,#[Za,‹0›,#[Zg]]],#[gT,K,2,#[ZK,#[ZJ,2,ZbH.nd],#[ZK,#[ZJ,3,ZbH.nd],(@Zbf _)]]],#[Zi,#[ZaG,#[Zel,QY,Q8,Q9,ZbE,‹1›,#[Za,#[ZaZ,#[Zr,Zbl,‹2›,#[Zh],(Zw _)],#[Zh],#[ZD,f_alike,hr,#[Za,#[ZI,(ixL K),‹0›,#[ZF,Zda,‹2›,#[Zh]]],#[Za,‹3›,#[Zg]]],(by rfl)]],#[Zg]]]]]],#[Zi,#[Zu,‹1›]]]],?_⟩
 refine⟨(by show 0≤sizeLine;decide),fun r hr0=>?_⟩
 have s1:ZH H (upd H r (.lst [])):=Zk hr0 _
 refine⟨_,rfl,a,ss.map V.str,rfl,s1.seq hS,?_⟩
 refine Zc8 (K:=K) (a:=a) (xs:=ss.map V.str) (fun i σ H2=>(∃v1 v2:Option V,σ=[some (.ref a),some (.ref r),v1,v2])∧H2 r=some (.lst ((List.range i).map fun j=>.int (ZbL ss j)))∧ZH H H2∧i≤ss.length) ⟨⟨none,none,rfl⟩,Ze,s1,Qu _⟩ (fun _ _ _ hq=>by obtain⟨_,_,s2,_⟩:=hq;exact s2.seq hS) ?_ ?_
 ·rintro i x σ H2 p hx ⟨⟨v1,v2,rfl⟩,hr2,s2,hi⟩ hp
  rw[Qt]at hx
  cases hy:ss[i]? with
  | none=>rw[hy]at hx;cases hx
  | some y =>
   rw[hy]at hx
   cases hx
   have hil:i<ss.length:=(Qk.mp hy).1
   have npr:r≠p:=Zb hr2 hp
   have s3:ZH H (upd H2 p (.tup [.int i,.str y])):=s2.trans (Zk hp _)
   have hr3:(upd H2 p (.tup [.int i,.str y])) r=some (.lst ((List.range i).map fun j=>.int (ZbL ss j))):=by rw[Zc npr];exact hr2
   have hlt:((List.range i).map fun j=>V.int (ZbL ss j)).length<sizeLine:=by rw[Qb,List.length_range];exact Zp (by omega)
   have fin:∀z:Int,z=ZbL ss i→(∃v1 v2:Option V,[some (V.ref a),some (V.ref r),some (V.int i),some (V.str y)]=[some (.ref a),some (.ref r),v1,v2]) ∧
     (upd (upd H2 p (.tup [.int i,.str y])) r (.lst (((List.range i).map fun j=>.int (ZbL ss j))++[.int z]))) r=some (.lst ((List.range (i+1)).map fun j=>.int (ZbL ss j))) ∧
     ZH H (upd (upd H2 p (.tup [.int i,.str y])) r (.lst (((List.range i).map fun j=>.int (ZbL ss j))++[.int z])))∧i+1≤ss.length:=fun z e=>by
    refine⟨⟨_,_,rfl⟩,?_,fun b o h=>?_,hil⟩
    ·rw[Ze,List.range_succ,Qh,e];rfl
    ·rw[Zc (Zb h hr0)];exact s3 b o h
   refine⟨p,_,rfl,SqT.of Ze,rfl,_,_,rfl,_,_,rfl,rfl,?_⟩
   refine⟨_,rfl,.inl ⟨rfl,_,SqL.of hr3⟩,_,rfl,rfl,_,rfl,?_⟩
   by_cases e0:i=0
   ·subst e0
    exact Zen rfl ⟨r,_,_,rfl,rfl,hr3,hlt,fin 0 rfl⟩
   ·have hprev:i-1<ss.length:=by omega
    have ei:((i:Int)-1)=((i-1:Nat):Int):=by omega
    have hat:atI (ss.map V.str) ((i:Int)-1)=some (.str ss[i-1]):=by rw[ei];exact Zar (by rw[Qt,Qa hprev]<;>rfl)
    refine ZdG (fun z=>by injection z with z;omega) ⟨_,rfl,_,rfl,_,_,rfl,rfl,xw4 a _ _ _ ⟨rfl,rfl,s3.seq hS,hat,_,rfl,ss[i-1],y,rfl,hlen _ (Q6 hprev),hlen _ (Qs hy),r,_,_,rfl,rfl,hr3,hlt,fin _ ?_⟩⟩
    unfold ZbL
    rw[if_neg e0,List.getD_eq_getElem?_getD,List.getD_eq_getElem?_getD,Qa hprev,hy]
    rfl
 ·rintro σ H2 ⟨⟨v1,v2,rfl⟩,hr2,s2,hi⟩
  rw[Qb]at hr2
  exact⟨_,rfl,q r H2 hr0 hr2 s2⟩
def ZC:List Nat→List Nat→Int
 | [],[]=>0
 | [],_::_ =>-1
 | _::_,[]=>1
 | a::r,b::s=>if a=b then ZC r s else if a<b then -1 else 1
theorem ZdK:∀ (x y:List Nat),Spec.ltCps y x=false→ZC x y≤0
 | [],[],_=>by unfold ZC;omega
 | [],_::_,_=>by unfold ZC;omega
 | _::_,[],h=>by unfold Spec.ltCps at h;cases h
 | a::r,b::s,h=>by
  have ih:=ZdK r s
  unfold Spec.ltCps at h
  unfold ZC
  rw[Bool.or_eq_false_iff,Bool.and_eq_false_iff]at h
  obtain⟨h1,h2⟩:=h
  have h1':¬ b<a:=of_decide_eq_false h1
  by_cases e:a=b
  ·rw[if_pos e]
   rcases h2 with z|z
   ·rw[e]at z;simp at z
   ·exact ih z
  ·rw[if_neg e,if_pos (by omega)]
   omega
theorem Zbg:∀ (x y z:List Nat),ZC x y≤0→ZC y z≤0→ZC x z≤0
 | [],_,[],_,_=>by unfold ZC;omega
 | [],_,_::_,_,_=>by unfold ZC;omega
 | _::_,[],_,h,_=>by unfold ZC at h;omega
 | _::_,_::_,[],_,h=>by unfold ZC at h;omega
 | a::r,b::s,c::t,h1,h2=>by
  unfold ZC at h1 h2 ⊢
  have ih:=Zbg r s t
  by_cases e1:a=b
  ·rw[if_pos e1]at h1
   by_cases e2:b=c
   ·rw[if_pos e2]at h2
    rw[if_pos (e1.trans e2)]
    exact ih h1 h2
   ·rw[if_neg e2]at h2
    rw[if_neg (fun e=>e2 (e1.symm.trans e))]
    split at h2
    ·rw[if_pos (by omega)];omega
    ·omega
  ·rw[if_neg e1]at h1
   split at h1
   ·by_cases e2:b=c
    ·rw[if_neg (fun e=>e1 (e.trans e2.symm)),if_pos (by omega)];omega
    ·rw[if_neg e2]at h2
     split at h2
     ·rw[if_neg (by omega),if_pos (by omega)];omega
     ·omega
   ·omega
theorem ZdU:∀ (ss:List Str) (p:Str),risingS p ss=true→∀ (k:Nat) (x y:Str),(p::ss)[k]? = some x→ss[k]? = some y→ZC (cds x) (cds y)≤0
 | [],p,_,k,x,y,_,h=>by simp at h
 | z::r,p,h,0,x,y,h1,h2=>by
  unfold risingS at h
  rw[Bool.and_eq_true]at h
  simp at h1 h2
  subst h1 h2
  exact ZdK _ _ (by simpa using h.1)
 | z::r,p,h,k+1,x,y,h1,h2=>by
  unfold risingS at h
  rw[Bool.and_eq_true]at h
  exact ZdU r z h.2 k x y (by simpa using h1) (by simpa using h2)
theorem Zgs{ss:List Str}(h:sortedS ss=true)(k:Nat)(x y:Str)(h1:ss[k]? = some x)(h2:ss[k+1]? = some y):ZC (cds x) (cds y)≤0:=by
 cases ss with
 | nil=>simp at h1
 | cons p r=>exact ZdU r p h k x y h1 (by simpa using h2)
theorem Zcy{ss:List Str}{k:Nat}(h:k<ss.length):atI (ss.map V.str) (k:Int)=some (.str ss[k]):=Zar (by rw[Qt,Qa h]<;>rfl)
theorem ZR.same{H H':Hp}{p:Addr}{c:Int}(h:ZR H p c)(s:ZH H H'):ZR H' p c:=by obtain⟨b1,b2,hb,c0⟩:=h;exact⟨b1,b2,s _ _ hb,c0⟩
def mid(ns:List Int):Nat:=(ns.length+1) / 2
def ZkD(ns:List Int):List Int:=ns.take (mid ns)
def ZjY(ns:List Int):List Int:=ns.drop (mid ns)
theorem ZhR(ns:List Int):((((ns.map V.int).length:Nat):Int)+1) / 2=((mid ns:Nat):Int):=by
 rw[Qb];unfold mid;omega
theorem ZfL{ns:List Int}{k:Int}(h0:0≤k)(h:k<(ns.length:Int)):∃v∈ns,atI (ns.map V.int) k=some (.int v):=by
 have hk:k.toNat<ns.length:=by omega
 have ek:k=((k.toNat:Nat):Int):=by omega
 have q:atI (ns.map V.int) ((k.toNat:Nat):Int)=some (.int ns[k.toNat]):=Zar (by rw[Qt,Qa hk]<;>rfl)
 rw[← ek]at q
 exact⟨_,Q6 hk,q⟩
theorem Zi0(ns:List Int)(m:Nat)(h:m≤ns.length):Zcc (ns.map V.int) none (some (m:Int))=(ns.take m).map V.int:=by
 unfold Zcc
 have e:HT.sIx (ns.map V.int).length (ns.map V.int).length (some (m:Int))=m:=by
  unfold HT.sIx
  simp only[List.length_map]
  rw[if_neg (by omega)]
  omega
 have e0:HT.sIx (ns.map V.int).length 0 none=0:=rfl
 rw[e,e0,List.drop_zero,Nat.sub_zero,List.map_take]
theorem ZhH(ns:List Int)(m:Nat)(h:m≤ns.length):Zcc (ns.map V.int) (some (m:Int)) none=(ns.drop m).map V.int:=by
 unfold Zcc
 have e:HT.sIx (ns.map V.int).length 0 (some (m:Int))=m:=by
  unfold HT.sIx
  simp only[List.length_map]
  rw[if_neg (by omega)]
  omega
 have e0:HT.sIx (ns.map V.int).length (ns.map V.int).length none=(ns.map V.int).length:=rfl
 rw[e,e0,List.map_drop,Q0 (by rw[QX,Qb];omega)]
theorem ZfF(z:Str):(cds z).length=z.length:=by simp[Str.length]
theorem ZfW:∀ (x y:List Nat),(lcp x y=x.length→lcp x y=y.length→ZC x y=0)∧(lcp x y=x.length→lcp x y≠y.length→ZC x y = -1)∧(lcp x y≠x.length→lcp x y=y.length→ZC x y=1) ∧
  ∀a b,x[lcp x y]? = some a→y[lcp x y]? = some b→ZC x y=if a<b then -1 else 1
 | [],[]=>⟨fun _ _=>rfl,fun _ h=>absurd rfl h,fun h _=>absurd rfl h,fun a b h _=>by simp at h⟩
 | [],_::_=>⟨fun _ h=>by unfold lcp at h;simp at h,fun _ _=>rfl,fun h _=>absurd rfl h,fun a b h _=>by simp at h⟩
 | _::_,[]=>⟨fun h _=>by unfold lcp at h;simp at h,fun h _=>by unfold lcp at h;simp at h,fun _ _=>rfl,fun a b _ h=>by simp at h⟩
 | a::r,b::s=>by
  obtain⟨h1,h2,h3,h4⟩:=ZfW r s
  unfold lcp ZC
  by_cases e:a=b
  ·rw[if_pos e,if_pos e]
   simp only[List.length_cons,List.getElem?_cons_succ]
   exact⟨fun p q=>h1 (by omega) (by omega),fun p q=>h2 (by omega) (by omega),fun p q=>h3 (by omega) (by omega),h4⟩
  ·rw[if_neg e,if_neg e]
   simp only[List.length_cons,List.getElem?_cons_zero]
   refine⟨fun p=>by omega,fun p=>by omega,fun _ p=>by omega,fun c d p q=>?_⟩
   cases p;cases q
   rfl
theorem ZaO:∀ (x y:List Nat),ZC y x =-ZC x y
 | [],[]=>rfl
 | [],_::_=>rfl
 | _::_,[]=>rfl
 | a::r,b::s=>by
  have ih:=ZaO r s
  unfold ZC
  by_cases e:a=b
  ·rw[if_pos e,if_pos e.symm,ih]
  ·rw[if_neg e,if_neg fun z=>e z.symm]
   by_cases l:a<b
   ·rw[if_pos l,if_neg (by omega)];rfl
   ·rw[if_neg l,if_pos (by omega)]
theorem Zi1(a b:Nat):decide ((⟨#[a]⟩:Str).cps.toList<(⟨#[b]⟩:Str).cps.toList)=decide (a<b):=by
 have e:([a]:List Nat)<[b]↔a<b:=by
  constructor
  ·intro h
   cases h with
   | rel h=>exact h
   | cons h=>cases h
  ·exact fun h=>List.Lex.rel h
 exact decide_eq_decide.mpr e
def Zej:Sp:=fun vs H Q _=>∃x y:Str,vs=[.str x,.str y]∧x.length≤1000∧y.length≤1000∧Q (.int (ZC (cds x) (cds y))) H
def Zcx:Sp:=fun vs H Q _=>∃x y:Str,vs=[.str x,.str y,.int (lcp (cds x) (cds y):Nat)]∧x.length≤1000∧y.length≤1000∧Q (.int (ZC (cds x) (cds y))) H
theorem ZgT(T:Zag K mg cRow cMerge cMergeError cFull cNoRow cOutOfOrder cBadLine):Df P w K mg base 1 "order_at" ["one", "other", "at"] Zcx:=by
 refine T.t_order_at.df ZeD (fun vs H Q E h=>?_) (fun cdv f A outer s H vs Q E hr h=>?_)
 ·obtain⟨x,y,rfl,_⟩:=h
  rfl
 obtain⟨x,y,rfl,hx,hy,q⟩:=h
 refine⟨_,#[Zf,#[Zak,(@PW.pt _ _ _ (@ZcL _ _ _ _ _ _ _ #[Zr,Zbl,‹2›,#[Zs,Zae,T.b.n_len,Qr,#[Za,‹0›,#[Zg]]],(Zw _)] (@Zcz _ _ _ _ #[Zr,Zbl,‹2›,#[Zs,Zae,T.b.n_len,Qr,#[Za,‹1›,#[Zg]]],(Zw _)]))),#[Zi,#[Zu,#[Zh]]],(@ZL _)],#[Zf,#[Zak,#[Zr,Zbl,‹2›,#[Zs,Zae,T.b.n_len,Qr,#[Za,‹0›,#[Zg]]],(Zw _)],#[Zi,#[Zu,(@ZgW _ _ _ _ _ _ ZeS #[Zh])]],(@ZL _)],#[Zf,#[Zak,#[Zr,Zbl,‹2›,#[Zs,Zae,T.b.n_len,Qr,#[Za,‹1›,#[Zg]]],(Zw _)],#[Zi,#[Zu,#[Zh]]],(@ZL _)],#[Zi,#[Zu,#[ZaZ,#[Zr,ZdB,#[ZI,ZcX,‹0›,‹2›],#[ZI,ZcX,‹1›,‹2›],(Zw _)],(@ZgW _ _ _ _ _ _ ZeS #[Zh]),#[Zh]]]]]]],?_⟩
 obtain⟨o1,o2,o3,o4⟩:=ZfW (cds x) (cds y)
 have ll:=ZdV (cds x) (cds y)
 have lx:=ZfF x
 have ly:=ZfF y
 have inj:∀ {m n:Nat},V.int (m:Int)=V.int (n:Int)→m=n:=fun {m n} e=>by injection e with e;omega
 refine⟨_,rfl,_,rfl,x,rfl,Zbn hx,rfl,_,rfl,Zbi (fun d=>?_) (fun d=>?_)⟩
 ·have d1:=inj (of_decide_eq_true d)
  refine⟨_,rfl,_,rfl,y,rfl,Zbn hy,rfl,_,rfl,Zbi (fun d2=>?_) (fun d2=>?_)⟩
  ·have d2':=inj (of_decide_eq_true d2)
   rw[o1 (by omega) (by omega)]at q
   exact q
  ·have d2':¬ lcp (cds x) (cds y)=y.length:=fun e=>d2 (by rw[e];exact decide_eq_true rfl)
   refine⟨_,rfl,_,rfl,x,rfl,Zbn hx,rfl,_,rfl,Zen (by rw[d1]) ?_⟩
   rw[o2 (by omega) (by omega)]at q
   exact⟨_,rfl,q⟩
 ·have d1:¬ lcp (cds x) (cds y)=x.length:=fun e=>d (by rw[e];exact decide_eq_true rfl)
  refine Zcu ⟨_,rfl,_,rfl,x,rfl,Zbn hx,rfl,_,rfl,ZdG (fun e=>d1 (inj e)) ?_⟩
  refine⟨_,rfl,_,rfl,y,rfl,Zbn hy,rfl,_,rfl,Zbi (fun d2=>?_) (fun d2=>?_)⟩
  ·have d2':=inj (of_decide_eq_true d2)
   rw[o3 (by omega) (by omega)]at q
   exact q
  ·have d2':¬ lcp (cds x) (cds y)=y.length:=fun e=>d2 (by rw[e];exact decide_eq_true rfl)
   obtain⟨a,ha,ha'⟩:=Zca (z:=x) (k:=(lcp (cds x) (cds y):Nat)) (by omega) (by omega)
   obtain⟨b,hb,hb'⟩:=Zca (z:=y) (k:=(lcp (cds x) (cds y):Nat)) (by omega) (by omega)
   rw[Int.toNat_natCast]at ha hb
   refine⟨_,rfl,_,rfl,x,_,a,rfl,rfl,Zbn hx,ha',_,rfl,_,rfl,y,_,b,rfl,rfl,Zbn hy,hb',_,_,rfl,rfl,_,rfl,?_⟩
   rw[Zi1]
   rw[o4 a b ha hb]at q
   refine Zbi (fun e=>?_) (fun e=>?_)
   ·rw[if_pos (of_decide_eq_true e)]at q
    exact⟨_,rfl,q⟩
   ·rw[if_neg (fun z=>e (decide_eq_true z))]at q
    exact q
theorem ZgZ(T:Zag K mg cRow cMerge cMergeError cFull cNoRow cOutOfOrder cBadLine)(f_alike:Df P w K mg base 2 "alike" ["one", "other"] ZcC)(f_order_at:Df P w K mg base 1 "order_at" ["one", "other", "at"] Zcx):Df P w K mg base 3 "liken" ["one", "other"] Zej:=by
 refine T.t_liken.df ZgE (fun vs H Q E h=>?_) (fun cdv f A outer s H vs Q E hr h=>?_)
 ·obtain⟨x,y,rfl,_⟩:=h
  rfl
 obtain⟨x,y,rfl,hx,hy,q⟩:=h
 refine⟨_,#[Zi,#[Zu,#[ZD,f_order_at,hr,#[Za,‹0›,#[Za,‹1›,#[Za,#[ZD,f_alike,hr,#[Za,‹0›,#[Za,‹1›,#[Zg]]],(by rfl)],#[Zg]]]],(by rfl)]]],?_⟩
 exact⟨_,rfl,_,rfl,_,rfl,_,rfl,x,y,rfl,hx,hy,x,y,rfl,hx,hy,q⟩
def Zbs:Sp:=fun vs H Q _=>∃ (x y:Str) (far:Nat),vs=[.str x,.str y,.int far]∧x.length≤1000∧y.length≤1000∧far≤lcp (cds x) (cds y) ∧
 ∀t,H t=none→Q (.ref t) (upd H t (.tup [.int (ZC (cds x) (cds y)),.int (lcp (cds x) (cds y):Nat),.int ((lcp (cds x) (cds y):Nat)-(far:Int)+1)]))
theorem Zdp(T:Zag K mg cRow cMerge cMergeError cFull cNoRow cOutOfOrder cBadLine)(f_alike_from:Df P w K mg base 1 "alike_from" ["one", "other", "far"] ZaU)(f_order_at:Df P w K mg base 1 "order_at" ["one", "other", "at"] Zcx):Df P w K mg base 2 "liken_from" ["one", "other", "far"] Zbs:=by
 refine T.t_liken_from.df ZbM (fun vs H Q E h=>?_) (fun cdv f A outer s H vs Q E hr h=>?_)
 ·obtain⟨x,y,far,rfl,_⟩:=h
  rfl
 obtain⟨x,y,far,rfl,hx,hy,hf,q⟩:=h
 refine⟨_,#[Zf,#[Zy,3,ZbM.nd,(Or.inl rfl),#[ZD,f_alike_from,hr,#[Za,‹0›,#[Za,‹1›,#[Za,‹2›,#[Zg]]]],(by rfl)]],#[Zi,#[Zu,#[Zbh,#[Za,#[ZD,f_order_at,hr,#[Za,‹0›,#[Za,‹1›,#[Za,‹3›,#[Zg]]]],(by rfl)],#[Za,‹3›,#[Za,#[ZF,ZaN,#[ZF,Zda,‹3›,‹2›],#[Zh]],#[Zg]]]]]]]],?_⟩
 refine⟨_,rfl,_,rfl,_,rfl,x,y,far,rfl,hx,hy,hf,?_⟩
 refine⟨_,rfl,_,rfl,_,rfl,x,y,rfl,hx,hy,?_⟩
 refine⟨_,rfl,_,rfl,_,rfl,_,_,rfl,rfl,_,_,rfl,rfl,(by show 3≤sizeLine;decide),fun t ht=>?_⟩
 exact q t ht
def ZbN(ss:List Str)(v:V):Prop :=
 (v=.non∧∀i x y,ss[i+1]? = some x→ss[i]? = some y→0≤ZC (cds x) (cds y)) ∨
 ∃k:Nat,v=.int ((k+1:Nat):Int)∧k+1<ss.length∧(∀x y,ss[k+1]? = some x→ss[k]? = some y→ZC (cds x) (cds y)<0)∧∀i,i<k→∀x y,ss[i+1]? = some x→ss[i]? = some y→0≤ZC (cds x) (cds y)
theorem Zd4{ss:List Str}{v v':V}(h:ZbN ss v)(h':ZbN ss v'):v=v':=by
 rcases h with⟨rfl,a⟩|⟨k,rfl,l,b,c⟩
 ·rcases h' with⟨rfl,_⟩|⟨k',rfl,l',b',_⟩
  ·rfl
  ·have:=a k' _ _ (Qa l') (Qa (by omega))
   have:=b' _ _ (Qa l') (Qa (by omega))
   omega
 ·rcases h' with⟨rfl,a⟩|⟨k',rfl,l',b',c'⟩
  ·have:=a k _ _ (Qa l) (Qa (by omega))
   have:=b _ _ (Qa l) (Qa (by omega))
   omega
  ·have e:k=k':=by
    rcases Nat.lt_trichotomy k k' with h|h|h
    ·have:=c' k h _ _ (Qa l) (Qa (by omega))
     have:=b _ _ (Qa l) (Qa (by omega))
     omega
    ·exact h
    ·have:=c k' h _ _ (Qa l') (Qa (by omega))
     have:=b' _ _ (Qa l') (Qa (by omega))
     omega
   rw[e]
def ZfC(K:PySem.W.Frag):Sp:=fun vs H Q _=>∃ (a:Addr) (ss:List Str),vs=[.ref a]∧SqL K H a (ss.map V.str)∧ss.length≤200∧(∀s∈ss,s.length≤1000)∧∀ (v:V) (H':Hp),ZbN ss v→ZH H H'→Q v H'
theorem ZhJ(T:Zag K mg cRow cMerge cMergeError cFull cNoRow cOutOfOrder cBadLine)(f_liken:Df P w K mg base 3 "liken" ["one", "other"] Zej):Df P w K mg base 4 "first_break" ["keys"] (ZfC K):=by
 refine T.t_first_break.df Zbq (fun vs H Q E h=>?_) (fun cdv f A outer s H vs Q E hr h=>?_)
 ·obtain⟨a,ss,rfl,_⟩:=h
  rfl
 obtain⟨a,ss,rfl,hS,hn,hlen,q⟩:=h
 refine⟨_,#[Zf,#[ZbW,PassesOwn.never,(@ZdE _ _ _ _ _ _ _ rfl T.b.n_range #[Za,#[Zh],#[Za,#[Zs,(Zcs K),T.b.n_len,Qr,#[Za,‹0›,#[Zg]]],#[Zg]]] (by rfl) (by rfl)),#[ZJ,1,Zbq.nd],#[Zi,#[Zak,#[Zr,ZdP,#[ZD,f_liken,hr,#[Za,#[ZI,(ixL K),‹0›,‹1›],#[Za,#[ZI,(ixL K),‹0›,#[ZF,Zda,‹1›,#[Zh]]],#[Zg]]],(by rfl)],#[Zh],(Zw _)],#[Zi,#[Zu,‹1›]],(@ZL _)]]],#[Zi,#[Zu,#[ZZ]]]],?_⟩
 have hl:(((ss.map V.str).length:Nat):Int)=(ss.length:Int):=by rw[Qb]
 refine⟨_,rfl,a,_,rfl,.inl hS,_,_,rfl,⟨by omega,by omega,by omega,by omega⟩,?_⟩
 refine ZbI (fun i σ H2=>(∃v:Option V,σ=[some (.ref a),v])∧ZH H H2∧∀j,j<i→∀x y,ss[j+1]? = some x→ss[j]? = some y→0≤ZC (cds x) (cds y)) ⟨⟨none,rfl⟩,ZH.refl H,fun j h=>by omega⟩ ?_ ?_
 ·rintro i σ H2 hi ⟨⟨v,rfl⟩,s2,h2⟩
  have hi1:i+1<ss.length:=by omega
  have e1:(1+(i:Int))=((i+1:Nat):Int):=by omega
  have e0:(1+(i:Int)-1)=((i:Nat):Int):=by omega
  refine⟨_,rfl,_,rfl,xw4 a _ _ _ ⟨rfl,rfl,s2.seq hS,(by rw[e1];exact Zcy hi1),_,rfl,_,rfl,_,_,rfl,rfl,xw4 a _ _ _ ⟨rfl,rfl,s2.seq hS,(by rw[e0];exact Zcy (by omega)),ss[i+1],ss[i],rfl,hlen _ (Q6 hi1),hlen _ (Q6 (by omega)),_,_,rfl,rfl,_,rfl,?_⟩⟩⟩
  refine Zbi (fun d=>?_) (fun d=>?_)
  ·have d':ZC (cds ss[i+1]) (cds ss[i])<0:=of_decide_eq_true d
   refine⟨_,rfl,q _ H2 (.inr ⟨i,by rw[e1],hi1,fun x y h1 h0=>?_,h2⟩) s2⟩
   rw[Qa hi1]at h1
   rw[Qa (by omega)]at h0
   cases h1;cases h0
   omega
  ·have d':¬ ZC (cds ss[i+1]) (cds ss[i])<0:=fun z=>d (decide_eq_true z)
   refine⟨⟨_,rfl⟩,s2,fun j hj x y h1 h0=>?_⟩
   by_cases ej:j=i
   ·subst ej
    rw[Qa hi1]at h1
    rw[Qa (by omega)]at h0
    cases h1;cases h0
    omega
   ·exact h2 j (by omega) x y h1 h0
 ·rintro σ H2 ⟨⟨v,rfl⟩,s2,h2⟩
  refine q _ H2 (.inl ⟨rfl,fun j x y h1 h0=>?_⟩) s2
  have:=(Qk.mp h1).1
  exact h2 j (by omega) x y h1 h0
def ZcD(K:PySem.W.Frag)(tup:Bool):Sp:=fun vs H Q _=>∃ (a:Addr) (ns:List Int),vs=[.ref a]∧SqL K H a (ns.map V.int)∧ns.length≤100 ∧
 ∀ (t f r:Addr) (H':Hp),H t=none→H f=none→H r=none→f≠r→H' t=some (if tup=true then .tup [.ref f,.ref r] else .lst [.ref f,.ref r])→H' f=some (.lst ((ZkD ns).map V.int))→H' r=some (.lst ((ZjY ns).map V.int))→ZH H H'→t≠f→t≠r→Q (.ref t) H'
theorem ZhE{H:Hp}{f r t:Addr}{A B T:HO}(hf:H f=none)(hr:(upd H f A) r=none)(ht:(upd (upd H f A) r B) t=none) :
  H r=none∧H t=none∧f≠r∧t≠f∧t≠r∧(upd (upd (upd H f A) r B) t T) f=some A∧(upd (upd (upd H f A) r B) t T) r=some B∧ZH H (upd (upd (upd H f A) r B) t T):=by
 have n1:f≠r:=Zb (H:=upd H f A) (o:=A) Ze hr
 have e1:(upd (upd H f A) r B) f=some A:=by rw[Zc n1];exact Ze
 have n2:f≠t:=Zb e1 ht
 have n3:r≠t:=Zb (H:=upd (upd H f A) r B) (o:=B) Ze ht
 have s1:ZH H (upd H f A):=Zk hf _
 have s2:=s1.trans (Zk hr B)
 have s3:=s2.trans (Zk ht T)
 exact⟨s1.free hr,s2.free ht,n1,n2.symm,n3.symm,by rw[Zc n2];exact e1,by rw[Zc n3];exact Ze,s3⟩
theorem Zgx(T:Zag K mg cRow cMerge cMergeError cFull cNoRow cOutOfOrder cBadLine):Df P w K mg base 1 "halves" ["numbers"] (ZcD K true):=by
 refine T.t_halves.df Zdw (fun vs H Q E h=>?_) (fun cdv f A outer s H vs Q E hr h=>?_)
 ·obtain⟨a,ns,rfl,_⟩:=h
  rfl
 obtain⟨a,ns,rfl,hS,hn,q⟩:=h
 refine⟨_,#[Zf,#[Zy,1,Zdw.nd,(Or.inl rfl),#[ZF,ZdY,#[ZF,ZaN,#[Zs,(Zcs K),T.b.n_len,Qr,#[Za,‹0›,#[Zg]]],#[Zh]],#[Zh]]],#[Zi,#[Zu,#[Zbh,#[Za,#[Zbr,(slL K),‹0›,(@ZbZ _),(@Zb0 _ _ _ ‹1›)],#[Za,#[Zbr,(slL K),‹0›,(@Zb0 _ _ _ ‹1›),(@ZbZ _)],#[Zg]]]]]]],?_⟩
 refine⟨_,rfl,a,_,rfl,.inl hS,_,_,rfl,rfl,_,_,rfl,rfl,⟨by decide,by decide⟩,?_⟩
 have hm:mid ns≤ns.length∨ns=[]:=by
  cases ns with
  | nil=>exact .inr rfl
  | cons x r=>left;unfold mid;rw[QB];omega
 have hml:mid ns≤ns.length:=by
  rcases hm with h|h
  ·exact h
  ·subst h;decide
 have em:=ZhR ns
 simp only[em]
 refine⟨_,rfl,_,rfl,_,rfl,a,_,rfl,hS,fun l hl=>?_⟩
 refine⟨_,rfl,_,rfl,_,rfl,a,_,rfl,(Zk hl _).seq hS,fun r hr0=>⟨(by show 2≤sizeLine;decide),fun t ht=>?_⟩⟩
 rw[Zi0 ns _ hml]at hr0 ht ⊢
 rw[ZhH ns _ hml]at ht ⊢
 obtain⟨z1,z2,z3,z4,z5,z6,z7,z8⟩:=ZhE (T:=.tup [.ref l,.ref r]) hl hr0 ht
 exact q t l r _ z2 hl z1 z3 Ze z6 z7 z8 z4 z5
def Zfa:Sp:=fun vs H Q _=>∃ (p:Addr) (c:Int),vs=[.ref p]∧ZR H p c∧c<2 ^ 50∧∀ (v c':Int) (H':Hp),0≤v→v≤12→ZR H' p c'→c≤c'→c'≤c+3→But p H H'→Q (.int v) H'
theorem Ziz(T:Zag K mg cRow cMerge cMergeError cFull cNoRow cOutOfOrder cBadLine)(f_l_pick:Df P w K mg base 2 "_law_pick" ["_law_left_here", "_law_many_here"] Zbz):Df P w K mg base 3 "_law_many" ["_law_left_here"] Zfa:=by
 refine T.t_l_many.df ZdL (fun vs H Q E h=>?_) (fun cdv f A outer s H vs Q E hr h=>?_)
 ·obtain⟨p,c,rfl,_⟩:=h
  rfl
 obtain⟨p,c,rfl,hL,c1,q⟩:=h
 refine⟨_,#[Zf,#[Zy,1,ZdL.nd,(Or.inl rfl),#[ZD,f_l_pick,hr,#[Za,‹0›,#[Za,#[Zh],#[Zg]]],(by rfl)]],#[Zi,#[Zu,#[ZI,(ixL K),#[Zas,#[Za,#[Zh],#[Za,#[Zh],#[Za,#[Zh],#[Za,#[Zh],#[Za,#[Zh],#[Za,#[Zh],#[Za,#[ZD,f_l_pick,hr,#[Za,‹0›,#[Za,#[Zh],#[Zg]]],(by rfl)],#[Za,#[ZF,ZaN,#[Zh],#[ZD,f_l_pick,hr,#[Za,‹0›,#[Za,#[Zh],#[Zg]]],(by rfl)]],#[Zg]]]]]]]]]],‹1›]]]],?_⟩
 have c0:=hL.ge
 refine⟨_,rfl,p,c,_,rfl,hL,by omega,by decide,by decide,fun wy H1 w0 w1 L1 B1=>?_⟩
 refine⟨_,rfl,p,c+1,_,rfl,L1,by omega,by decide,by decide,fun d1 H2 d10 d11 L2 B2=>?_⟩
 refine⟨_,rfl,p,c+1+1,_,rfl,L2,by omega,by decide,by decide,fun d2 H3 d20 d21 L3 B3=>⟨_,_,rfl,rfl,(by show 8≤sizeLine;decide),fun e he=>?_⟩⟩
 obtain⟨v,hv,hat⟩:=ZfL (ns:=[2,3,4,5,6,3,d1,7+d2]) w0 w1
 have hv1:0≤v∧v≤12:=by
  simp only[List.mem_cons,List.not_mem_nil,or_false]at hv
  omega
 exact⟨_,rfl,xw4 e _ _ _ ⟨rfl,rfl,SqL.of Ze,hat,q v _ _ hv1.1 hv1.2 (L3.new he) (by omega) (by omega) (((B1.trans B2).trans B3).trans (But.same (Zk he _)))⟩⟩
theorem ZaB(f:Str)(v:V):∀fs:List (Str×V),(Zl f v fs).length≤fs.length+1
 | []=>Qe _
 | p::r=>by
  unfold Zl
  split
  ·exact QZ _
  ·exact Nat.succ_le_succ (ZaB f v r)
def ZeM(k f:Addr)(g:Int):List (Str×V):=Zl "gone" (.int g) (Zl "fars" (.ref f) (Zl "all_keys" (.ref k) []))
theorem nGK:¬ (("all_keys" : Str) = "gone"):=by ac_rfl
theorem nFK:¬ (("all_keys" : Str) = "fars"):=by ac_rfl
theorem Zcg(k f:Addr)(g:Int):(ZeM k f g).lookup ("all_keys" : Str)=some (.ref k):=by
 unfold ZeM
 rw[Zj,if_neg nGK,Zj,if_neg nFK,Zj,if_pos rfl]
theorem Zdt(k f:Addr)(g:Int):(ZeM k f g).lookup ("gone" : Str)=some (.int g):=by
 unfold ZeM
 rw[Zj,if_pos rfl]
theorem ZfD(k f:Addr)(g:Int){m:Str}(h1:¬ m = "gone")(h2:¬ m = "fars")(h3:¬ m = "all_keys"):(ZeM k f g).lookup m=none:=by
 unfold ZeM
 rw[Zj,if_neg h1,Zj,if_neg h2,Zj,if_neg h3]
 rfl
structure Zf1 (C:Addr) (H:Hp) (p k f:Addr) (ss:List Str) (g:Nat):Prop where
 ob:∃dx,H p=some (.ins C dx (ZeM k f g))
 ks:H k=some (.lst (ss.map V.str))
 fs:H f=some (.lst ((List.range ss.length).map fun j=>.int (ZbL ss j)))
def ZgD(C:Addr):Sp:=fun vs H Q _=>∃ (p k f:Addr) (ss:List Str) (g:Nat),vs=[.ref p]∧Zf1 C H p k f ss g∧Q (.int ((ss.length:Int)-(g:Int))) H
theorem Ziw(T:Zag K mg cRow cMerge cMergeError cFull cNoRow cOutOfOrder cBadLine):Mf P w K mg base 1 cRow "to_go" ["self"] (ZgD cRow):=by
 refine T.t_Row_to_go.mf ZdW (fun vs H Q E h=>?_) (fun cdv f A outer s H vs Q E hr h=>?_)
 ·obtain⟨p,k,f,ss,g,rfl,_⟩:=h
  rfl
 obtain⟨p,k,f,ss,g,rfl,R,q⟩:=h
 refine⟨_,#[Zi,#[Zu,#[ZF,Zda,#[Zs,(Zcs K),T.b.n_len,Qr,#[Za,#[Zax,‹0›],#[Zg]]],#[Zax,‹0›]]]],?_⟩
 obtain⟨⟨dx,ho⟩,hk,hf⟩:=R
 refine⟨_,rfl,xw5 p cRow dx _ _ ⟨rfl,ho,T.cl_Row,T.na_Row_all_keys,Zcg _ _ _,k,_,rfl,.inl (SqL.of hk),_,rfl,xw5 p cRow dx _ _ ⟨rfl,ho,T.cl_Row,T.na_Row_gone,Zdt _ _ _,_,_,rfl,rfl,?_⟩⟩⟩
 rw[Qb]
 exact q
def Zdh(ss:List Str)(g:Nat):V:=match ss[g]? with
 | some z=>.str z
 | none=>.non
def Ze1(C:Addr):Sp:=fun vs H Q _=>∃ (p k f:Addr) (ss:List Str) (g:Nat),vs=[.ref p]∧Zf1 C H p k f ss g∧Q (Zdh ss g) H
theorem ZhS(T:Zag K mg cRow cMerge cMergeError cFull cNoRow cOutOfOrder cBadLine)(f_Row_to_go:Mf P w K mg base 1 cRow "to_go" ["self"] (ZgD cRow)):Mf P w K mg base 2 cRow "head" ["self"] (Ze1 cRow):=by
 refine T.t_Row_head.mf Zem (fun vs H Q E h=>?_) (fun cdv f A outer s H vs Q E hr h=>?_)
 ·obtain⟨p,k,f,ss,g,rfl,_⟩:=h
  rfl
 obtain⟨p,k,f,ss,g,rfl,R,q⟩:=h
 refine⟨_,#[Zi,#[Zu,#[ZaZ,#[Zr,ZgL,#[Zdb,f_Row_to_go,T.cl_Row,hr,‹0›],#[Zh],(Zw _)],#[ZI,(ixL K),#[Zax,‹0›],#[Zax,‹0›]],#[ZZ]]]],?_⟩
 obtain⟨⟨dx,ho⟩,hk,hf⟩:=id R
 refine⟨_,rfl,p,dx,_,rfl,ho,ZfD _ _ _ (by ac_rfl) (by ac_rfl) (by ac_rfl),p,k,f,ss,g,rfl,R,_,_,rfl,rfl,_,rfl,?_⟩
 refine Zbi (fun d=>?_) (fun d=>?_)
 ·have d':(0:Int)<(ss.length:Int)-(g:Int):=of_decide_eq_true d
  have hg:g<ss.length:=by omega
  refine⟨_,rfl,xw5 p cRow dx _ _ ⟨rfl,ho,T.cl_Row,T.na_Row_all_keys,Zcg _ _ _,_,rfl,xw5 p cRow dx _ _ ⟨rfl,ho,T.cl_Row,T.na_Row_gone,Zdt _ _ _,k,_,_,_,rfl,rfl,SqL.of hk,Zar (by rw[Qt,Qa hg]<;>rfl),?_⟩⟩⟩
  unfold Zdh at q
  rw[Qa hg]at q
  exact q
 ·have d':¬ (0:Int)<(ss.length:Int)-(g:Int):=fun z=>d (decide_eq_true z)
  unfold Zdh at q
  rw[List.getElem?_eq_none (by omega)]at q
  exact q
def Zce(C:Addr):Sp:=fun vs H Q _=>∃ (p dx a:Addr) (ss:List Str),vs=[.ref p,.ref a]∧H p=some (.ins C dx [])∧H a=some (.lst (ss.map V.str))∧ss.length≤100∧(∀s∈ss,s.length≤1000) ∧
 ∀ (k f:Addr) (H':Hp),H k=none→H f=none→k≠f→Zf1 C H' p k f ss 0→(∀b o,H b=some o→b≠p→H' b=some o)→Q .non H'
theorem Ze0(T:Zag K mg cRow cMerge cMergeError cFull cNoRow cOutOfOrder cBadLine)(f_alikes:Df P w K mg base 3 "alikes" ["row"] (Zdc K)):Cf P w K mg base 4 cRow "Row" ["self", "keys"] (Zce cRow):=by
 refine T.t_Row_init.cf Zeq (fun vs H Q E h=>?_) (fun cdv f A outer s H vs Q E hr h=>?_)
 ·obtain⟨p,dx,a,ss,rfl,_⟩:=h
  rfl
 obtain⟨p,dx,a,ss,rfl,hp,ha,hn,hz,q⟩:=h
 refine⟨_,#[Zf,#[ZaE,‹0›,#[Zao,(Zf2 K),(by rfl),T.b.n_list,boot_list,#[Za,‹1›,#[Zg]]]],#[Zf,#[ZaE,‹0›,#[ZD,f_alikes,hr,#[Za,‹1›,#[Zg]],(by rfl)]],#[Zi,#[ZaE,‹0›,#[Zh]]]]],?_⟩
 refine⟨_,rfl,a,_,rfl,.inl (SqL.of ha),fun k hk=>?_⟩
 have npk:p≠k:=Zb hp hk
 have nap:a≠p:=fun e=>by rw[e,hp]at ha;cases ha
 have nak:a≠k:=Zb ha hk
 refine⟨_,rfl,p,cRow,dx,[],rfl,(by rw[Zc npk];exact hp),T.cl_Row,T.na_Row_all_keys,(by show 0<1000;decide),?_⟩
 have ha2:(upd (upd H k (.lst (ss.map V.str))) p (.ins cRow dx (Zl "all_keys" (.ref k) []))) a=some (.lst (ss.map V.str)):=by rw[Zc nap,Zc nak];exact ha
 have hp2:(upd (upd H k (.lst (ss.map V.str))) p (.ins cRow dx (Zl "all_keys" (.ref k) []))) p=some (.ins cRow dx (Zl "all_keys" (.ref k) [])):=Ze
 have hk2:(upd (upd H k (.lst (ss.map V.str))) p (.ins cRow dx (Zl "all_keys" (.ref k) []))) k=some (.lst (ss.map V.str)):=by rw[Zc npk.symm];exact Ze
 have s2:∀b o,H b=some o→b≠p→(upd (upd H k (.lst (ss.map V.str))) p (.ins cRow dx (Zl "all_keys" (.ref k) []))) b=some o:=fun b o h n=>by rw[Zc n,Zc (Zb h hk)];exact h
 refine⟨_,rfl,a,ss,rfl,SqL.of ha2,hn,hz,fun f H3 hf0 hf3 s3=>?_⟩
 have hHf:H f=none:=by
  cases w':H f with
  | none=>rfl
  | some u =>
   by_cases e:f=p
   ·rw[e,hp2]at hf0;cases hf0
   ·rw[s2 f u w' e]at hf0;cases hf0
 have nkf:k≠f:=Zb hk2 hf0
 have npf:p≠f:=Zb hp2 hf0
 refine⟨_,rfl,xw4 p cRow dx _ ⟨rfl,s3 _ _ hp2,T.cl_Row,T.na_Row_fars,(by show 1<1000;decide),?_⟩⟩
 refine⟨_,rfl,xw4 p cRow dx _ ⟨rfl,Ze,T.cl_Row,T.na_Row_gone,?_,?_⟩⟩
 ·have h1:=ZaB "all_keys" (V.ref k) []
  have h2:=ZaB "fars" (V.ref f) (Zl "all_keys" (V.ref k) [])
  have h3:([]:List (Str×V)).length=0:=rfl
  omega
 ·refine q k f _ hk hHf nkf ⟨⟨dx,Ze⟩,?_,?_⟩ fun b o h n=>?_
  ·rw[Zc npk.symm,Zc npk.symm];exact s3 _ _ hk2
  ·rw[Zc npf.symm,Zc npf.symm];exact hf3
  ·rw[Zc n,Zc n];exact s3 _ _ (s2 b o h n)
theorem ZdC{K:PySem.W.Frag}{a:Addr}{xs:List V}{k:Nat}{D:Addr}{σ:L2.St}{H1:Hp}{g:TG}{te:TE}{Q:VK}(Pv:Nat→List V→L2.St→Hp→Prop)(h0:Pv 0 [] (σ++List.replicate k none) (upd H1 D (.lst [])))
  (hl:∀i ys σ H,Pv i ys σ H→SqL K H a xs)
  (hs:∀i x ys σ H,xs[i]? = some x→Pv i ys σ H→g x σ H fun σ4 H4=>te σ4 H4 fun y H6=>H6 D=some (.lst ys)∧ys.length<sizeLine∧Pv (i+1) (ys++[y]) σ4 (upd H6 D (.lst (ys++[y]))))
  (hd:∀ys σ H,Pv xs.length ys σ H→Q (.ref D) H):Zd7 (Itl K a) D k σ H1 g ZhQ te Q:=by
 refine⟨fun i m ys σ H=>m=xs.length-i∧i≤xs.length∧Pv i ys σ H,⟨xs.length,by simp,Qu _,h0⟩,?_⟩
 rintro i m ys σ H ⟨rfl,hi,p⟩
 have q1:=hl i ys σ H p
 by_cases hlt:i<xs.length
 ·refine .inr ⟨⟨xs,xs[i],q1,Qa hlt⟩,Pv (i+1),fun ys' σ' H' p'=>⟨xs.length-(i+1),by omega,rfl,hlt,p'⟩,fun x H' y=>?_⟩
  obtain⟨rfl,e⟩:=y
  simp only[ZhQ,↓reduceIte]
  exact hs i x ys σ _ (e xs q1) p
 ·have e:i=xs.length:=by omega
  exact .inl ⟨⟨xs,q1,by omega⟩,hd ys σ H (e ▸ p)⟩
theorem Zfb:∀x y:List Nat,x<y↔ZC x y<0
 | [],[]=>by unfold ZC;exact⟨fun h=>absurd h (by simp),fun h=>absurd h (by omega)⟩
 | [],_::_=>by unfold ZC;exact⟨fun _=>by omega,fun _=>List.nil_lt_cons _ _⟩
 | _::_,[]=>by unfold ZC;exact⟨fun h=>absurd h (List.not_lt_nil _),fun h=>absurd h (by omega)⟩
 | a::r,b::s=>by
  have ih:=Zfb r s
  unfold ZC
  rw[List.cons_lt_cons_iff]
  by_cases e:a=b
  ·rw[if_pos e,← ih]
   exact⟨fun h=>h.elim (fun z=>by omega) (fun z=>z.2),fun h=>.inr ⟨e,h⟩⟩
  ·rw[if_neg e]
   by_cases l:a<b
   ·rw[if_pos l];exact⟨fun _=>by omega,fun _=>.inl l⟩
   ·rw[if_neg l];exact⟨fun h=>h.elim (fun z=>absurd z l) (fun z=>absurd z.1 e),fun h=>absurd h (by omega)⟩
abbrev Hd:=Int→Option (List Nat)
def Btr(x:List Nat)(a:Int)(y:List Nat)(b:Int):Prop:=ZC x y<0∨(ZC x y=0∧a<b)
def Win(hd:Hd)(N:List Int):Option Int→Prop
 | none=>∀n∈N,hd n=none
 | some a=>a∈N∧∃x,hd a=some x∧∀b∈N,∀y,hd b=some y→b=a∨Btr x a y b
theorem Btr.asym{x y:List Nat}{a b:Int}(h:Btr x a y b)(g:Btr y b x a):False:=by
 have e:=ZaO x y
 rcases h with h|⟨h,h2⟩<;>rcases g with g|⟨g,g2⟩<;>omega
theorem Btr.total{x y:List Nat}{a b:Int}(h:a≠b):Btr x a y b∨Btr y b x a:=by
 have e:=ZaO x y
 unfold Btr
 omega
theorem Btr.trans{x y z:List Nat}{a b c:Int}(h:Btr x a y b)(g:Btr y b z c):Btr x a z c:=by
 have t1:=Zbg x y z
 have t2:=Zbg z x y
 have t3:=Zbg y z x
 have e1:=ZaO x y
 have e2:=ZaO y z
 have e3:=ZaO x z
 unfold Btr at *
 omega
theorem Win.one{hd:Hd}{N:List Int}{v w:Option Int}(h:Win hd N v)(g:Win hd N w):v=w:=by
 cases v with
 | none =>
  cases w with
  | none=>rfl
  | some b=>obtain⟨hb,y,hy,_⟩:=g;rw[h b hb]at hy;cases hy
 | some a =>
  obtain⟨ha,x,hx,h2⟩:=h
  cases w with
  | none=>rw[g a ha]at hx;cases hx
  | some b =>
   obtain⟨hb,y,hy,g2⟩:=g
   rcases h2 b hb y hy with e|e
   ·rw[e]
   ·rcases g2 a ha x hx with e'|e'
    ·rw[e']
    ·exact(e.asym e').elim
theorem Win.nil(hd:Hd):Win hd [] none:=fun n h=>by cases h
theorem Win.sing{hd:Hd}{n:Int}:Win hd [n] (if (hd n).isSome then some n else none):=by
 cases h:hd n with
 | none=>intro m hm;rw[Qj.mp hm];exact h
 | some x=>exact⟨by simp,x,h,fun b hb y hy=>.inl (Qj.mp hb)⟩
theorem Win.both{hd:Hd}{A B:List Int}{a b:Int}{x y:List Nat}(ha:Win hd A (some a))(hb:Win hd B (some b))(hx:hd a=some x)(hy:hd b=some y)(h:Btr x a y b):Win hd (A++B) (some a):=by
 obtain⟨a1,x',hx',a2⟩:=ha
 obtain⟨b1,y',hy',b2⟩:=hb
 rw[hx]at hx';cases hx'
 rw[hy]at hy';cases hy'
 refine⟨Qz _ a1,x,hx,fun c hc z hz=>?_⟩
 rcases Qg.mp hc with hc|hc
 ·exact a2 c hc z hz
 ·rcases b2 c hc z hz with e|e
  ·subst e;rw[hy]at hz;cases hz;exact .inr h
  ·exact .inr (h.trans e)
theorem Win.both'{hd:Hd}{A B:List Int}{a b:Int}{x y:List Nat}(ha:Win hd A (some a))(hb:Win hd B (some b))(hx:hd a=some x)(hy:hd b=some y)(h:Btr y b x a):Win hd (A++B) (some b):=by
 have:=Win.both hb ha hy hx h
 obtain⟨h1,z,h2,h3⟩:=this
 exact⟨by rcases Qg.mp h1 with h|h<;>simp[h],z,h2,fun c hc=>h3 c (by rcases Qg.mp hc with h|h<;>simp[h])⟩
theorem Win.left{hd:Hd}{A B:List Int}{w:Option Int}(ha:Win hd A w)(hb:Win hd B none):Win hd (A++B) w:=by
 cases w with
 | none=>intro n hn;rcases Qg.mp hn with h|h;exact ha n h;exact hb n h
 | some a =>
  obtain⟨a1,x,hx,a2⟩:=ha
  refine⟨Qz _ a1,x,hx,fun c hc z hz=>?_⟩
  rcases Qg.mp hc with hc|hc
  ·exact a2 c hc z hz
  ·rw[hb c hc]at hz;cases hz
theorem Win.right{hd:Hd}{A B:List Int}{w:Option Int}(ha:Win hd A none)(hb:Win hd B w):Win hd (A++B) w:=by
 cases w with
 | none=>intro n hn;rcases Qg.mp hn with h|h;exact ha n h;exact hb n h
 | some a =>
  obtain⟨a1,x,hx,a2⟩:=hb
  refine⟨Qn _ a1,x,hx,fun c hc z hz=>?_⟩
  rcases Qg.mp hc with hc|hc
  ·rw[ha c hc]at hz;cases hz
  ·exact a2 c hc z hz
theorem Win.congr{hd hd':Hd}{N:List Int}(h:∀n∈N,hd' n=hd n){w:Option Int}(hw:Win hd N w):Win hd' N w:=by
 cases w with
 | none=>intro n hn;rw[h n hn];exact hw n hn
 | some a =>
  obtain⟨a1,x,hx,a2⟩:=hw
  exact⟨a1,x,by rw[h a a1];exact hx,fun b hb y hy=>a2 b hb y (by rw[← h b hb];exact hy)⟩
def lo(N:List Int):List Int:=N.take (mid N)
def up(N:List Int):List Int:=N.drop (mid N)
theorem Zbm(N:List Int):lo N++up N=N:=List.take_append_drop _ _
theorem Zei{N:List Int}(h:2≤N.length):(lo N).length<N.length∧1≤(lo N).length:=by
 unfold lo mid
 rw[QC]
 omega
theorem ZeZ{N:List Int}(h:2≤N.length):(up N).length<N.length∧1≤(up N).length:=by
 unfold up mid
 rw[QX]
 omega
def Zbo(N:List Int):Int×Int:=(N.headD 0,N.getLastD 0)
abbrev StL:=List ((Int×Int)×Option (Addr×Int×Int))
def stV:Option (Addr×Int×Int)→V
 | none=>.non
 | some t=>.ref t.1
def kvS(s:StL):List (List Key×V):=s.map fun e=>([.inl e.1.1,.inl e.1.2],stV e.2)
def AtS(H:Hp)(s:StL):Prop:=∀e∈s,∀t,e.2=some t→H t.1=some (.tup [.int t.2.1,.int t.2.2])
def ZaF(s:StL)(k:Int×Int):Option (Option (Addr×Int×Int)):=(s.find? fun e=>decide (e.1=k)).map (·.2)
def Zck(s:StL)(k:Int×Int)(v:Option (Addr×Int×Int)):StL:=if s.any (fun e=>decide (e.1=k)) then s.map (fun e=>if e.1=k then (e.1,v) else e) else s++[(k,v)]
theorem AtS.mono{H H':Hp}{s:StL}(h:AtS H s)(k:∀a xs,H a=some (.tup xs)→H' a=some (.tup xs)):AtS H' s:=fun e he t ht=>k _ _ (h e he t ht)
theorem Zg7{a b:Int×Int}(h:([.inl a.1,.inl a.2]:List Key)=[.inl b.1,.inl b.2]):a=b:=by
 obtain⟨a1,a2⟩:=a
 obtain⟨b1,b2⟩:=b
 injection h with h1 h2
 injection h2 with h2 _
 have e1:=Sum.inl.inj h1
 have e2:=Sum.inl.inj h2
 simp only at e1 e2
 rw[e1,e2]
theorem ZiJ(k:Int×Int)(s:StL):((kvS s).any fun kv=>decide (kv.1=([.inl k.1,.inl k.2]:List Key)))=s.any fun e=>decide (e.1=k):=by
 unfold kvS
 rw[List.any_map]
 congr 1
 funext e
 simp only[Function.comp]
 by_cases h:e.1=k
 ·rw[decide_eq_true h,decide_eq_true (by rw[h])]
 ·rw[decide_eq_false h,decide_eq_false (fun z=>h (Zg7 z))]
theorem Zig(s:StL)(k:Int×Int)(v:Option (Addr×Int×Int)):ZbK (kvS s) [.inl k.1,.inl k.2] (stV v)=kvS (Zck s k v):=by
 unfold ZbK Zck
 rw[ZiJ]
 split
 ·unfold kvS
  rw[QW,QW]
  congr 1
  funext e
  simp only[Function.comp]
  by_cases h:e.1=k
  ·rw[if_pos h,if_pos (by rw[h])]
  ·rw[if_neg h,if_neg (fun z=>h (Zg7 z))]
 ·unfold kvS;rw[Qh];rfl
theorem Zhi(s:StL)(k:Int×Int)(v:Option (Addr×Int×Int)):(Zck s k v).length≤s.length+1:=by
 unfold Zck
 split
 ·rw[Qb];omega
 ·rw[Qm];exact Qe _
theorem ZbF(s:StL)(k j:Int×Int)(v:Option (Addr×Int×Int)):ZaF (Zck s k v) j=if j=k then some v else ZaF s j:=by
 unfold Zck
 split
 ·rename_i h
  induction s with
  | nil=>simp at h
  | cons e s ih =>
   unfold ZaF at ih ⊢
   by_cases hek:e.1=k
   ·by_cases hj:j=k
    ·subst hj;simp[List.find?_cons,hek]
    ·have hj':¬ k=j:=fun z=>hj z.symm
     rw[Qx,if_pos hek,Q1 (by simp[hek,hj']),Q1 (by simp[hek,hj']),if_neg hj]
     by_cases ha:s.any (fun e=>decide (e.1=k))=true
     ·have:=ih ha;rw[if_neg hj]at this;exact this
     ·have:s.map (fun e=>if e.1=k then (e.1,v) else e)=s:=by
       rw[List.map_eq_iff]
       intro i
       cases hi:s[i]? with
       | none=>rfl
       | some x =>
        have hx:¬ x.1=k:=fun z=>ha (List.any_eq_true.mpr ⟨x,Qs hi,by simpa using z⟩)
        simp[hx]
      rw[this]
   ·have ha:s.any (fun e=>decide (e.1=k))=true:=by simpa [hek] using h
    rw[Qx,if_neg hek]
    by_cases hj:e.1=j
    ·have:¬ j=k:=fun z=>hek (hj.trans z)
     rw[List.find?_cons_of_pos (by simpa using hj),List.find?_cons_of_pos (by simpa using hj),if_neg this]
    ·rw[Q1 (by simpa using hj),Q1 (by simpa using hj)]
     exact ih ha
 ·rename_i h
  unfold ZaF
  rw[List.find?_append]
  by_cases hj:j=k
  ·subst hj
   have:s.find? (fun e=>decide (e.1=j))=none:=by
    rw[List.find?_eq_none]
    intro x hx z
    exact h (List.any_eq_true.mpr ⟨x,hx,z⟩)
   rw[this];simp
  ·have hj':¬ k=j:=fun z=>hj z.symm
   rw[if_neg hj]
   simp[hj']
theorem AtS.put{H:Hp}{s:StL}{k:Int×Int}{v:Option (Addr×Int×Int)}(h:AtS H s)(hv:∀t,v=some t→H t.1=some (.tup [.int t.2.1,.int t.2.2])):AtS H (Zck s k v):=by
 unfold Zck
 split
 ·intro e he t ht
  obtain⟨x,hx,rfl⟩:=QM.mp he
  split at ht
  ·exact hv t ht
  ·exact h x hx t ht
 ·intro e he t ht
  rcases Qg.mp he with he|he
  ·exact h e he t ht
  ·rw[Qj.mp he]at ht;exact hv t ht
def Zk8(hd:Hd)(s:StL)(N:List Int):Prop :=
 (∀a b x y,Win hd (lo N) (some a)→Win hd (up N) (some b)→hd a=some x→hd b=some y→∃t,ZaF s (Zbo N)=some (some (t,if ZC x y<0∨(ZC x y=0∧a<b) then b else a,((lcp x y:Nat):Int)))) ∧
 ((Win hd (lo N) none∨Win hd (up N) none)→ZaF s (Zbo N)=none∨ZaF s (Zbo N)=some none)
def Zct(hd:Hd)(s:StL):Nat→List Int→Prop
 | 0,_=>True
 | n+1,N=>2≤N.length→Zct hd s n (lo N)∧Zct hd s n (up N)∧Zk8 hd s N
def Zb6:Nat→List Int→Int×Int→Prop
 | 0,_,_=>False
 | n+1,N,k=>2≤N.length∧(Zb6 n (lo N) k∨Zb6 n (up N) k∨k=Zbo N)
abbrev ZaQ(N:List Int):Prop:=N.Pairwise (·<·)
theorem Zgu{N:List Int}(h:ZaQ N):ZaQ (lo N):=h.sublist (List.take_sublist _ _)
theorem Zf6{N:List Int}(h:ZaQ N):ZaQ (up N):=h.sublist (List.drop_sublist _ _)
theorem Zgp{N:List Int}(h:ZaQ N):N.Nodup:=h.imp fun {a b} hab e=>by omega
theorem Zaq{N:List Int}(h:ZaQ N){a b:Int}(ha:a∈lo N)(hb:b∈up N):a<b:=by
 have:ZaQ (lo N++up N):=by rw[Zbm];exact h
 exact(List.pairwise_append.mp this).2.2 a ha b hb
theorem Zdy{N:List Int}(h:N≠[]):N.headD 0∈N:=by
 cases N with
 | nil=>exact absurd rfl h
 | cons a r=>simp
theorem ZdN{N:List Int}(h:N≠[]):N.getLastD 0∈N:=by
 rw[QT,Qaa h]
 exact List.getLast_mem h
theorem ZaJ{N:List Int}(h:1≤N.length):N≠[]:=fun z=>by rw[z]at h;simp at h
theorem Zgr{N:List Int}(h:2≤N.length):(Zbo N).2=(up N).getLastD 0:=by
 have hu:=ZaJ (ZeZ h).2
 show N.getLastD 0=_
 rw[QT,QT]
 conv=>lhs;rw[← Zbm N]
 rw[List.getLast?_append,Qaa hu];rfl
theorem Zf7{N:List Int}(h:2≤N.length):(Zbo N).1=(lo N).headD 0:=by
 have hl:=ZaJ (Zei h).2
 show N.headD 0=_
 conv=>lhs;rw[← Zbm N]
 cases hc:lo N with
 | nil=>exact absurd hc hl
 | cons a r=>rfl
theorem ZbG:∀ (n:Nat) (N:List Int) (k:Int×Int),Zb6 n N k→k.1∈N∧k.2∈N
 | 0,_,_,h=>h.elim
 | n+1,N,k,⟨h2,h⟩=>by
  rcases h with h|h|rfl
  ·have:=ZbG n _ k h
   rw[← Zbm N]
   exact⟨Qz _ this.1,Qz _ this.2⟩
  ·have:=ZbG n _ k h
   rw[← Zbm N]
   exact⟨Qn _ this.1,Qn _ this.2⟩
  ·have hn:N≠[]:=ZaJ (by omega)
   exact⟨Zdy hn,ZdN hn⟩
theorem Zea{N:List Int}(hr:ZaQ N)(h2:2≤N.length){n:Nat}{k:Int×Int}(h:Zb6 n (lo N) k):k≠Zbo N∧∀m,¬ Zb6 m (up N) k:=by
 have:=ZbG n _ k h
 refine⟨fun z=>?_,fun m hm=>?_⟩
 ·have h1:=Zgr h2
  rw[z,h1]at this
  have:=Zaq hr this.2 (ZdN (ZaJ (ZeZ h2).2))
  omega
 ·have:=Zaq hr this.1 (ZbG m _ k hm).1
  omega
theorem Zd1{N:List Int}(hr:ZaQ N)(h2:2≤N.length){n:Nat}{k:Int×Int}(h:Zb6 n (up N) k):k≠Zbo N∧∀m,¬ Zb6 m (lo N) k:=by
 have:=ZbG n _ k h
 refine⟨fun z=>?_,fun m hm=>?_⟩
 ·have h1:=Zf7 h2
  rw[z,h1]at this
  have:=Zaq hr (Zdy (ZaJ (Zei h2).2)) this.1
  omega
 ·have:=Zaq hr (ZbG m _ k hm).1 this.1
  omega
theorem Zct.congr{hd hd':Hd}{s s':StL}:∀ (n:Nat) (N:List Int),(∀m∈N,hd' m=hd m)→(∀k,Zb6 n N k→ZaF s' k=ZaF s k)→Zct hd s n N→Zct hd' s' n N
 | 0,_,_,_,_=>True.intro
 | n+1,N,hh,hk,h=>fun h2=>by
  obtain⟨a,b,c1,c2⟩:=h h2
  have hl:∀m∈lo N,hd' m=hd m:=fun m hm=>hh m (by rw[← Zbm N];exact Qz _ hm)
  have hu:∀m∈up N,hd' m=hd m:=fun m hm=>hh m (by rw[← Zbm N];exact Qn _ hm)
  have hl':∀m∈lo N,hd m=hd' m:=fun m hm=>(hl m hm).symm
  have hu':∀m∈up N,hd m=hd' m:=fun m hm=>(hu m hm).symm
  refine⟨Zct.congr n _ hl (fun k hkk=>hk k ⟨h2,.inl hkk⟩) a,Zct.congr n _ hu (fun k hkk=>hk k ⟨h2,.inr (.inl hkk)⟩) b,fun a b x y ha hb hx hy=>?_,fun hw=>?_⟩
  ·rw[hk _ ⟨h2,.inr (.inr rfl)⟩]
   exact c1 a b x y (Win.congr hl' ha) (Win.congr hu' hb) (by rw[← hl a ha.1];exact hx) (by rw[← hu b hb.1];exact hy)
  ·rw[hk _ ⟨h2,.inr (.inr rfl)⟩]
   refine c2 ?_
   rcases hw with hw|hw
   ·exact .inl (Win.congr hl' hw)
   ·exact .inr (Win.congr hu' hw)
inductive Zc2 (hd:Hd):Nat→List Int→Int→Int→Prop
 | few {n:Nat} {N:List Int}:N.length<2→Zc2 hd n N 0 0
 | none {n:Nat} {N:List Int} {k l k' l':Int}:2≤N.length→Zc2 hd n (lo N) k l→Zc2 hd n (up N) k' l'→(Win hd (lo N) none∨Win hd (up N) none)→Zc2 hd (n+1) N (k+k') (l+l')
 | both {n:Nat} {N:List Int} {k l k' l':Int} {a b:Int} {x y:List Nat}:2≤N.length→Zc2 hd n (lo N) k l→Zc2 hd n (up N) k' l'→Win hd (lo N) (some a)→Win hd (up N) (some b)→hd a=some x→hd b=some y→Zc2 hd (n+1) N (k+k'+1) (l+l'+(lcp x y:Nat)+1)
theorem Zhh(ss:List Str)(m:Nat)(h:m≤ss.length):Zcc (ss.map V.str) none (some (m:Int))=(ss.take m).map V.str∧Zcc (ss.map V.str) (some (m:Int)) none=(ss.drop m).map V.str:=by
 have e:∀d:Nat,HT.sIx (ss.map V.str).length d (some (m:Int))=m:=fun d=>by
  unfold HT.sIx
  simp only[List.length_map]
  rw[if_neg (by omega)]
  omega
 have e0:∀d:Nat,HT.sIx (ss.map V.str).length d none=d:=fun d=>rfl
 constructor
 ·unfold Zcc
  rw[e,e0,List.drop_zero,Nat.sub_zero,List.map_take]
 ·unfold Zcc
  rw[e,e0,← List.map_drop,← List.map_take,Q0 (by rw[QX,Qb];omega)]
def kk(e:Str×Int):List Key:=[.inr e.1,.inl e.2]
def oV:Option Str→V
 | none=>.non
 | some s=>.str s
def ZhU:Option Int→V
 | none=>.non
 | some a=>.int a
def kvH(E:List (Int×Option Str)):List (Key×V):=E.map fun e=>(.inl e.1,oV e.2)
def lk(E:List (Int×Option Str))(n:Int):Option Str:=(E.find? fun e=>decide (e.1=n)).bind (·.2)
structure Hds (H:Hp) (D:Addr) (E:List (Int×Option Str)):Prop where
 at':H D=some (.dK (kvH E))
 nd:(E.map (·.1)).Nodup
 ok:∀e∈E,∀s,e.2=some s→s.length≤1000∧AZ s
theorem Zi9(N:List Int):ZkD N=lo N:=rfl
theorem ZjD(N:List Int):ZjY N=up N:=rfl
abbrev Zef:=Int×Addr×List Str×Nat
def kvR(L:List Zef):List (Key×V):=L.map fun e=>(.inl e.1,.ref e.2.1)
def kvG(L:List Zef):List (Key×V):=L.map fun e=>(.inl e.1,.int (e.2.2.2:Int))
def Zli(ra ga:Addr)(nb li lo:Int):List (Key×V):=[(.inr "rows",.ref ra),(.inr "gone",.ref ga),(.inr "number",.int nb),(.inr "likenings",.int li),(.inr "looks",.int lo)]
structure Own (H:Hp) (o ra ga:Addr) (L:List Zef) (nb li lo:Int):Prop where
 at':H o=some (.dK (Zli ra ga nb li lo))
 rows:H ra=some (.dK (kvR L))
 gone:H ga=some (.dK (kvG L))
 nd:(L.map (·.1)).Nodup
 few:L.length≤60
 lst:∀e∈L,H e.2.1=some (.lst (e.2.2.1.map V.str))∧e.2.2.1.length≤100∧e.2.2.2≤e.2.2.1.length∧∀s∈e.2.2.1,s.length≤1000∧AZ s
theorem ZiW{ns:List Int}(h:ns.Nodup):(ns.map (Sum.inl:Int→Key)).Nodup:=List.Pairwise.map _ (fun a b hab z=>hab (Sum.inl.inj z)) h
theorem Zdk.k'{H:Hp}{a:Addr}{kvs:List (Key×V)}{k:Key}{r:Option V}(e:H a=some (.dK kvs))(h:ZaX kvs k=r):Zdk H a (kV k) r:=by rw[← h];exact Zdk.k e
structure HdOf (L:List Zef) (E:List (Int×Option Str)):Prop where
 per:(E.map (·.1)).Perm (L.map (·.1))
 up:(E.map (·.1)).Pairwise (·<·)
 hd:∀e∈L,(e.1,e.2.2.1[e.2.2.2]?)∈E
def hdL(L:List Zef):Hd:=fun n=>((L.find? fun e=>decide (e.1=n)).bind fun e=>e.2.2.1[e.2.2.2]?).map cds
theorem Zhp:∀ {L:List Zef},(L.map (·.1)).Nodup→∀ {e:Zef},e∈L→hdL L e.1=(e.2.2.1[e.2.2.2]?).map cds
 | [],_,_,h=>by cases h
 | x::r,nd,e,h=>by
  rw[Qx,List.nodup_cons]at nd
  unfold hdL
  rw[List.find?_cons]
  rcases QE.mp h with rfl|h
  ·rw[decide_eq_true rfl];rfl
  ·rw[decide_eq_false (fun z:x.1=e.1=>nd.1 (by rw[z];exact QF (f:=fun x:Zef=>x.1) h))]
   exact Zhp nd.2 h
structure ZY (H:Hp) (r:Addr) (rs:List (Addr×List Str)):Prop where
 at':H r=some (.lst (rs.map fun x=>V.ref x.1))
 few:rs.length≤60
 lst:∀x∈rs,H x.1=some (.lst (x.2.map V.str))∧x.2.length≤100∧∀s∈x.2,s.length≤1000∧AZ s
theorem ZY.same{H H':Hp}{r:Addr}{rs:List (Addr×List Str)}(h:ZY H r rs)(s:ZH H H'):ZY H' r rs:=⟨s _ _ h.at',h.few,fun x hx=>let ⟨a,b⟩:=h.lst x hx;⟨s _ _ a,b⟩⟩
theorem ZgS(n:Nat):(ZeK 0 n).Pairwise (·<·):=by
 unfold ZeK
 exact List.Pairwise.map _ (fun a b h=>by omega) (List.pairwise_lt_range)
def Ze6:Sp:=fun vs H Q _=>∃ (p l:Addr) (c most:Int) (ss:List Str),vs=[.ref p,.ref l,.int most]∧ZR H p c∧c<2 ^ 40∧0≤most∧most≤60∧H l=some (.lst (ss.map V.str))∧1≤ss.length∧ss.length≤4∧(∀s∈ss,s.length≤24∧AZ s) ∧
 ∀ (r:Addr) (ts:List Str) (c':Int) (H':Hp),H r=none→H' r=some (.lst (ts.map V.str))→(ts.length:Int)≤most→sortedS ts=true→(∀s∈ts,s.length≤28∧AZ s)→ZR H' p c'→c≤c'→c'≤c+600→But p H H'→Q (.ref r) H'
theorem Zif(T:Zag K mg cRow cMerge cMergeError cFull cNoRow cOutOfOrder cBadLine)(f_l_keys:Df P w K mg base 4 "_law_keys" ["_law_left_here", "_law_stems_here", "_law_most"] Zfw):Df P w K mg base 5 "_law_row" ["_law_left_here", "_law_stems_here", "_law_most"] Ze6:=by
 refine T.t_l_row.df Zhd (fun vs H Q E h=>?_) (fun cdv f A outer s H vs Q E hr h=>?_)
 ·obtain⟨p,l,c,most,ss,rfl,_⟩:=h
  rfl
 obtain⟨p,l,c,most,ss,rfl,hL,hc,h0,h60,hl,h1,h4,h24,q⟩:=h
 refine⟨_,#[Zi,#[Zu,#[Zs,(Zk3 K),T.b.n_sorted,boot_sorted,#[Za,#[ZD,f_l_keys,hr,#[Za,‹0›,#[Za,‹1›,#[Za,‹2›,#[Zg]]]],(by rfl)],#[Zg]]]]],?_⟩
 refine⟨_,rfl,_,rfl,_,rfl,p,l,c,most,ss,rfl,hL,hc,h0,h60,hl,h1,h4,h24,fun r ts c' H1 hr0 hr1 hts h28 L1 a1 a2 B1=>?_⟩
 refine⟨r,ts,rfl,SqL.of hr1,by omega,fun l2 ts' hl2 hper hsrt=>?_⟩
 obtain⟨ob,hob⟩:=hL.here
 have hl20:H l2=none:=by
  cases e:H l2 with
  | none=>rfl
  | some x =>
   by_cases z:l2=p
   ·obtain⟨o1,ho1⟩:=L1.here;rw[z,ho1]at hl2;cases hl2
   ·have:=B1 l2 x e z;rw[this]at hl2;cases hl2
 exact q l2 ts' c' _ hl20 Ze (by rw[hper.length_eq];exact hts) hsrt (fun s hs=>h28 s (hper.mem_iff.mp hs)) (L1.new hl2) a1 a2 (B1.trans (But.same (Zk hl2 _)))
def ZfP:Sp:=fun vs H Q _=>∃ (p:Addr) (c:Int),vs=[.ref p]∧ZR H p c∧c<2 ^ 30 ∧
 ∀ (r:Addr) (rs:List (Addr×List Str)) (c':Int) (H':Hp),H r=none→ZY H' r rs→(∀x∈rs,H x.1=none∧x.1≠r∧x.1≠p∧sortedS x.2=true∧x.2.length≤60)→rs.length≤12→ZR H' p c'→c≤c'→c'≤c+10000→But p H H'→Q (.ref r) H'
theorem ZhK(T:Zag K mg cRow cMerge cMergeError cFull cNoRow cOutOfOrder cBadLine)(f_l_pick:Df P w K mg base 2 "_law_pick" ["_law_left_here", "_law_many_here"] Zbz)(f_l_stems:Df P w K mg base 3 "_law_stems" ["_law_left_here"] Zeg)(f_l_many:Df P w K mg base 3 "_law_many" ["_law_left_here"] Zfa)(f_l_row:Df P w K mg base 5 "_law_row" ["_law_left_here", "_law_stems_here", "_law_most"] Ze6):Df P w K mg base 6 "_law_rows" ["_law_left_here"] ZfP:=by
 refine T.t_l_rows.df Zcf (fun vs H Q E h=>?_) (fun cdv f A outer s H vs Q E hr h=>?_)
 ·obtain⟨p,c,rfl,_⟩:=h
  rfl
 obtain⟨p,c,rfl,hL,c1,q⟩:=h
 refine⟨_,#[Zf,#[Zy,1,Zcf.nd,(Or.inr rfl),#[ZD,f_l_stems,hr,#[Za,#[pv,0,(Or.inr (Or.inl rfl))],#[Zg]],(by rfl)]],#[Zf,#[Zy,2,Zcf.nd,(Or.inr rfl),#[ZI,(ixL K),#[Zas,#[Za,#[Zh],#[Za,#[Zh],#[Za,#[Zh],#[Za,#[Zh],#[Za,#[Zh],#[Za,#[Zh],#[Za,#[Zh],#[Za,#[Zh],#[Zg]]]]]]]]]],#[ZD,f_l_pick,hr,#[Za,#[pv,0,(Or.inr (Or.inl rfl))],#[Za,#[Zh],#[Zg]]],(by rfl)]]],#[Zi,#[Zu,#[ZcB,Zgg,#[ZaK,T.b.n_range,#[Za,#[ZD,f_l_many,hr,#[Za,#[pv,0,(Or.inr (Or.inl rfl))],#[Zg]],(by rfl)],#[Zg]]],(fun _ _ _ _=>#[cg,3,Zgg]),(fun _ _ _ _=>(@Zcb _)),(fun _ _ _ _=>#[ZD,f_l_row,hr,#[Za,#[cv,0,Zgg],#[Za,#[cv,1,Zgg],#[Za,#[cv,2,Zgg],#[Zg]]]],(Za5 Zgg rfl (by ac_rfl))])]]]]],?_⟩
 have c0:=hL.ge
 refine⟨_,rfl,p,c,rfl,hL,by omega,fun l ss c2 H1 hl0 hl1 n1 n4 h24 L1 a1 a2 B1=>?_⟩
 have npl:p≠l:=by obtain⟨o,ho⟩:=hL.here;exact Zb ho hl0
 refine⟨(by show 8≤sizeLine;decide),fun e he=>?_⟩
 have npe:p≠e:=by obtain⟨o,ho⟩:=L1.here;exact Zb ho he
 refine⟨_,rfl,p,c2,_,rfl,L1.new he,by omega,by decide,by decide,fun i H2 i0 i1 L2 B2=>?_⟩
 obtain⟨m,hm,hat⟩:=ZfL (ns:=[5,5,4,6,3,7,5,20]) i0 i1
 have he2:H2 e=some (.lst (([5,5,4,6,3,7,5,20]:List Int).map V.int)):=B2 e _ Ze npe.symm
 have hm1:0≤m∧m≤20:=by
  simp only[List.mem_cons,List.not_mem_nil,or_false]at hm
  omega
 have hl2:H2 l=some (.lst (ss.map V.str)):=B2 l _ (Zk he _ _ _ hl1) npl.symm
 have B02:But p H H2:=(B1.trans (But.same (Zk he _))).trans B2
 refine(xw4 e _ _ _ ⟨rfl,rfl,SqL.of he2,hat,?_⟩)
 refine⟨_,rfl,p,_,rfl,L2,by omega,fun mn c3 H3 m0 m12 L3 a3 a4 B3=>?_⟩
 have hl3:=B3 l _ hl2 npl.symm
 have B03:=B02.trans B3
 refine⟨_,rfl,by omega,by omega,fun D hD=>?_⟩
 have hD0:H D=none:=by
  cases e':H D with
  | none=>rfl
  | some x =>
   by_cases z:D=p
   ·obtain⟨o1,ho1⟩:=L3.here;rw[z,ho1]at hD;cases hD
   ·have:=B03 D x e' z;rw[this]at hD;cases hD
 have npD:p≠D:=by obtain⟨o,ho⟩:=L3.here;exact Zb ho hD
 have nlD:l≠D:=Zb hl3 hD
 refine ZbP (fun i zs σ H4=>(∃v:Option V,σ=[some (.ref p),some (.ref l),some (.int m),v])∧(∃rs:List (Addr×List Str),zs=rs.map (fun x=>V.ref x.1)∧rs.length=i∧∀x∈rs,H4 x.1=some (.lst (x.2.map V.str))∧H x.1=none∧x.1≠D∧x.1≠p∧sortedS x.2=true∧x.2.length≤60∧∀s∈x.2,s.length≤28∧AZ s)∧H4 D=some (.lst zs)∧(∃c4:Int,ZR H4 p c4∧c3≤c4∧c4≤c3+600*i)∧But p H3 H4) ?_ ?_ ?_
 ·exact⟨⟨none,rfl⟩,⟨[],rfl,rfl,(fun x h=>by cases h)⟩,Ze,⟨c3,L3.new hD,by omega,by omega⟩,But.same (Zk hD _)⟩
 ·rintro i zs σ H4 hi ⟨⟨v,rfl⟩,⟨rs,rfl,hrl,hrs⟩,hD4,⟨c4,L4,b1,b2⟩,B4⟩
  have hi12:i<12:=by omega
  refine⟨_,rfl,_,rfl,_,rfl,xw5 p l c4 m ss ⟨rfl,L4,by omega,hm1.1,by omega,B4 l _ hl3 npl.symm,n1,n4,h24,fun r ts c5 H5 hr0 hr5 hts hsrt h28 L5 d1 d2 B5=>?_⟩⟩
  have hD5:=B5 D _ hD4 npD.symm
  have nDr:D≠r:=Zb hD4 hr0
  have npr:p≠r:=by obtain⟨o,ho⟩:=L4.here;exact Zb ho hr0
  have hr00:H r=none:=by
   cases e':H r with
   | none=>rfl
   | some x=>have:=B4 r x (B03 r x e' npr.symm) npr.symm;rw[this]at hr0;cases hr0
  refine⟨hD5,(by rw[Qb];exact Zp (by omega)),⟨_,rfl⟩,⟨rs++[(r,ts)],by rw[Qh];rfl,by rw[Qm,List.length_singleton];omega,fun x hx=>?_⟩,Ze,⟨c5,L5.at npD,by omega,by omega⟩,fun b x hb nb=>?_⟩
  ·rcases Qg.mp hx with hx|hx
   ·obtain⟨g1,g2,g3,g4,g5⟩:=hrs x hx
    exact⟨by rw[Zc g3];exact B5 _ _ g1 g4,g2,g3,g4,g5⟩
   ·rw[Qj.mp hx]
    exact⟨by rw[Zc nDr.symm];exact hr5,hr00,nDr.symm,npr.symm,hsrt,by show ts.length≤60;omega,h28⟩
  ·rw[Zc (Zb hb hD)];exact B5 b x (B4 b x hb nb) nb
 rintro zs σ H4 ⟨⟨v,rfl⟩,⟨rs,rfl,hrl,hrs⟩,hD4,⟨c4,L4,b1,b2⟩,B4⟩
 refine q D rs c4 H4 hD0 ⟨hD4,by omega,fun x hx=>?_⟩ (fun x hx=>?_) (by omega) L4 (by omega) (by omega) (B03.trans B4)
 ·obtain⟨g1,_,_,_,_,g6,g7⟩:=hrs x hx
  exact⟨g1,by omega,fun s hs=>⟨by have:=(g7 s hs).1;omega,(g7 s hs).2⟩⟩
 ·obtain⟨_,g2,g3,g4,g5,g6,_⟩:=hrs x hx
  exact⟨g2,g3,g4,g5,g6⟩
def ZcU(K:PySem.W.Frag):Sp:=fun vs H Q _=>∃ (n:Int) (a:Addr) (ss:List Str),vs=[.int n,.ref a]∧SqL K H a (ss.map V.str)∧ss.length≤200∧(∀s∈ss,s.length≤1000)∧ZbN ss .non∧∀H',ZH H H'→Q .non H'
theorem Zgn(T:Zag K mg cRow cMerge cMergeError cFull cNoRow cOutOfOrder cBadLine)(f_first_break:Df P w K mg base 4 "first_break" ["keys"] (ZfC K)):Df P w K mg base 5 "refuse_break" ["number", "keys"] (ZcU K):=by
 refine T.t_refuse_break.df Zal (fun vs H Q E h=>?_) (fun cdv f A outer s H vs Q E hr h=>?_)
 ·obtain⟨n,a,ss,rfl,_⟩:=h
  rfl
 obtain⟨n,a,ss,rfl,hS,h200,h1000,hnon,q⟩:=h
 refine⟨_,#[Zf,#[Zy,2,Zal.nd,(Or.inl rfl),#[ZD,f_first_break,hr,#[Za,‹1›,#[Zg]],(by rfl)]],#[Zi,#[Zak,#[Zr,Zec,‹2›,#[ZZ],(Zw _)],#[Zi,#[ZW]],(@ZL _)]]],?_⟩
 refine⟨_,rfl,a,ss,rfl,hS,h200,h1000,fun v H1 hb s1=>?_⟩
 have e:=Zd4 hb hnon
 subst e
 exact⟨_,rfl,rfl,_,rfl,Zcu (q H1 s1)⟩
structure Zan where
 n:Int
 p:Addr
 k:Addr
 f:Addr
 ss:List Str
 g:Nat
def toL(e:Zan):Zef:=(e.n,e.p,e.ss,e.g)
def hdM(L:List Zan):Hd:=hdL (L.map toL)
def Zam(L:List Zan):List Int:=L.map (·.n)
theorem ZhC(L:List Zan):(L.map toL).map (·.1)=Zam L:=by rw[QW];rfl
def kvM(L:List Zan):List (Key×V):=L.map fun e=>(.inl e.n,.ref e.p)
theorem Ze8{L:List Zan}(nd:(Zam L).Nodup){e:Zan}(he:e∈L):hdM L e.n=(e.ss[e.g]?).map cds :=
 Zhp (L:=L.map toL) (by rw[ZhC];exact nd) (QF (f:=toL) he)
theorem ZhM(L:List Zan):(kvM L).map (·.1)=(Zam L).map (Sum.inl:Int→Key):=by unfold kvM Zam;rw[QW,QW];rfl
theorem Zfv{L:List Zan}(nd:(Zam L).Nodup){e:Zan}(he:e∈L):ZaX (kvM L) (.inl e.n)=some (.ref e.p):=Zer (by rw[ZhM];exact ZiW nd) (QF (f:=fun e:Zan=>((.inl e.n:Key),V.ref e.p)) he)
theorem ZcJ{L:List Zan}{n:Int}(h:n∈Zam L):∃e∈L,e.n=n:=QM.mp h
def mgF(rd:Addr)(nb li lo:Int)(sd:Addr)(best:V):List (Str×V):=[("rows",.ref rd),("next_number",.int nb),("likened",.int li),("looked",.int lo),("stays",.ref sd),("best",best)]
theorem Zj0:¬ (("rows" : Str) = "next_number"):=by ac_rfl
theorem Zjh:¬ (("rows" : Str) = "likened"):=by ac_rfl
theorem Zi3:¬ (("rows" : Str) = "looked"):=by ac_rfl
theorem ZjB:¬ (("rows" : Str) = "stays"):=by ac_rfl
theorem ZjF:¬ (("rows" : Str) = "best"):=by ac_rfl
theorem Zkx:¬ (("next_number" : Str) = "likened"):=by ac_rfl
theorem ZjQ:¬ (("next_number" : Str) = "looked"):=by ac_rfl
theorem Zkw:¬ (("next_number" : Str) = "stays"):=by ac_rfl
theorem ZkP:¬ (("next_number" : Str) = "best"):=by ac_rfl
theorem ZjC:¬ (("likened" : Str) = "looked"):=by ac_rfl
theorem ZjL:¬ (("likened" : Str) = "stays"):=by ac_rfl
theorem Zju:¬ (("likened" : Str) = "best"):=by ac_rfl
theorem Zjm:¬ (("looked" : Str) = "stays"):=by ac_rfl
theorem Zjk:¬ (("looked" : Str) = "best"):=by ac_rfl
theorem ZjN:¬ (("stays" : Str) = "best"):=by ac_rfl
theorem Zb3(f:Str)(v x:V)(r:List (Str×V)):Zl f v ((f,x)::r)=(f,v)::r:=by unfold Zl;rw[if_pos rfl]
theorem Zn{f g:Str}(h:¬ g=f)(v x:V)(r:List (Str×V)):Zl f v ((g,x)::r)=(g,x)::Zl f v r:=by
 show (if g=f then (g,v)::r else (g,x)::Zl f v r)=_
 rw[if_neg h]
theorem Zba(f:Str)(v:V):Zl f v []=[(f,v)]:=rfl
theorem ZaL(rd:Addr)(nb li lo:Int)(sd:Addr)(best:V):mgF rd nb li lo sd best=Zl "best" best (Zl "stays" (.ref sd) (Zl "looked" (.int lo) (Zl "likened" (.int li) (Zl "next_number" (.int nb) (Zl "rows" (.ref rd) []))))):=by
 rw[Zba,Zn Zj0,Zba,Zn Zjh,Zn Zkx,Zba,Zn Zi3,Zn ZjQ,Zn ZjC,Zba,Zn ZjB,Zn Zkw,Zn ZjL,Zn Zjm,Zba,Zn ZjF,Zn ZkP,Zn Zju,Zn Zjk,Zn ZjN,Zba]
 rfl
section
variable (rd:Addr) (nb li lo:Int) (sd:Addr) (best:V)
theorem ZbA:(mgF rd nb li lo sd best).lookup ("rows" : Str)=some (.ref rd):=by
 rw[ZaL,Zj,if_neg ZjF,Zj,if_neg ZjB,Zj,if_neg Zi3,Zj,if_neg Zjh,Zj,if_neg Zj0,Zj,if_pos rfl]
theorem ZeE:(mgF rd nb li lo sd best).lookup ("likened" : Str)=some (.int li):=by
 rw[ZaL,Zj,if_neg Zju,Zj,if_neg ZjL,Zj,if_neg ZjC,Zj,if_pos rfl]
theorem Zc5:(mgF rd nb li lo sd best).lookup ("looked" : Str)=some (.int lo):=by
 rw[ZaL,Zj,if_neg Zjk,Zj,if_neg Zjm,Zj,if_pos rfl]
theorem Zgk:(mgF rd nb li lo sd best).lookup ("stays" : Str)=some (.ref sd):=by
 rw[ZaL,Zj,if_neg ZjN,Zj,if_pos rfl]
theorem Zd9{m:Str}(h1:¬ m = "rows")(h2:¬ m = "next_number")(h3:¬ m = "likened")(h4:¬ m = "looked")(h5:¬ m = "stays")(h6:¬ m = "best"):(mgF rd nb li lo sd best).lookup m=none:=by
 rw[ZaL,Zj,if_neg h6,Zj,if_neg h5,Zj,if_neg h4,Zj,if_neg h3,Zj,if_neg h2,Zj,if_neg h1]
 rfl
theorem Zcq(v:Int):Zl "likened" (.int v) (mgF rd nb li lo sd best)=mgF rd nb v lo sd best:=by unfold mgF;rw[Zn Zjh,Zn Zkx,Zb3]
theorem ZcW(v:Int):Zl "looked" (.int v) (mgF rd nb li lo sd best)=mgF rd nb li v sd best:=by unfold mgF;rw[Zn Zi3,Zn ZjQ,Zn ZjC,Zb3]
theorem Zdo(x:Addr):Zl "stays" (.ref x) (mgF rd nb li lo sd best)=mgF rd nb li lo x best:=by unfold mgF;rw[Zn ZjB,Zn Zkw,Zn ZjL,Zn Zjm,Zb3]
theorem Zb2(x:V):Zl "best" x (mgF rd nb li lo sd best)=mgF rd nb li lo sd x:=by unfold mgF;rw[Zn ZjF,Zn ZkP,Zn Zju,Zn Zjk,Zn ZjN,Zb3]
theorem Zb5:(mgF rd nb li lo sd best).length<1000:=by show 6<1000;decide
end
structure Zb8 (C:Addr) (H:Hp) (e:Zan):Prop where
 at':Zf1 C H e.p e.k e.f e.ss e.g
 le:e.g≤e.ss.length
 len:e.ss.length≤100
 srt:sortedS e.ss=true
 str:∀s∈e.ss,s.length≤1000∧AZ s
structure Zah (cR cM:Addr) (H:Hp) (m rd sd:Addr) (L:List Zan) (s:StL) (nb li lo:Int) (best:V):Prop where
 ob:∃dx,H m=some (.ins cM dx (mgF rd nb li lo sd best))
 rows:H rd=some (.dK (kvM L))
 stays:H sd=some (.dT (kvS s))
 ats:AtS H s
 each:∀e∈L,Zb8 cR H e
 up:ZaQ (Zam L)
 pd:(L.map (·.p)).Nodup
 few:L.length≤60
 sfew:s.length≤100
def Fp(m rd sd:Addr)(L:List Zan)(b:Addr):Prop:=b=m∨b=rd∨b=sd∨∃e∈L,b=e.p∨b=e.k∨b=e.f
theorem Zb8.keep{C:Addr}{H H':Hp}{e:Zan}(h:Zb8 C H e)(hp:H' e.p=H e.p)(hk:H' e.k=H e.k)(hf:H' e.f=H e.f):Zb8 C H' e :=
 ⟨⟨by rw[hp];exact h.at'.ob,by rw[hk];exact h.at'.ks,by rw[hf];exact h.at'.fs⟩,h.le,h.len,h.srt,h.str⟩
section
variable {cR cM:Addr} {H H':Hp} {m rd sd:Addr} {L:List Zan} {s:StL} {nb li lo:Int} {best:V}
theorem Zah.nd(h:Zah cR cM H m rd sd L s nb li lo best):(Zam L).Nodup:=Zgp h.up
theorem Zah.keep(h:Zah cR cM H m rd sd L s nb li lo best)(k:∀b o,H b=some o→Fp m rd sd L b∨(∃xs,o=.tup xs)→H' b=some o):Zah cR cM H' m rd sd L s nb li lo best:=by
 refine⟨?_,k _ _ h.rows (.inl (.inr (.inl rfl))),k _ _ h.stays (.inl (.inr (.inr (.inl rfl)))),fun e he t ht=>k _ _ (h.ats e he t ht) (.inr ⟨_,rfl⟩),fun e he=>?_,h.up,h.pd,h.few,h.sfew⟩
 ·obtain⟨dx,hd⟩:=h.ob
  exact⟨dx,k _ _ hd (.inl (.inl rfl))⟩
 ·have r:=h.each e he
  obtain⟨dx,hd⟩:=r.at'.ob
  exact⟨⟨⟨dx,k _ _ hd (.inl (.inr (.inr (.inr ⟨e,he,.inl rfl⟩))))⟩,k _ _ r.at'.ks (.inl (.inr (.inr (.inr ⟨e,he,.inr (.inl rfl)⟩)))),k _ _ r.at'.fs (.inl (.inr (.inr (.inr ⟨e,he,.inr (.inr rfl)⟩))))⟩,r.le,r.len,r.srt,r.str⟩
theorem Zah.same(h:Zah cR cM H m rd sd L s nb li lo best)(k:ZH H H'):Zah cR cM H' m rd sd L s nb li lo best:=h.keep fun b o hb _=>k b o hb
theorem Zah.ne_p(h:Zah cR cM H m rd sd L s nb li lo best){e:Zan}(he:e∈L):m≠e.p∧m≠e.k∧m≠e.f:=by
 obtain⟨dx,hd⟩:=h.ob
 have r:=h.each e he
 obtain⟨dy,hy⟩:=r.at'.ob
 refine⟨fun z=>?_,fun z=>?_,fun z=>?_⟩
 ·rw[z,hy]at hd
  injection hd with hd
  injection hd with _ _ hd
  have a:=Zcg e.k e.f (e.g:Int)
  rw[hd,Zd9 _ _ _ _ _ _ (by ac_rfl) (by ac_rfl) (by ac_rfl) (by ac_rfl) (by ac_rfl) (by ac_rfl)]at a
  cases a
 ·rw[z,r.at'.ks]at hd;cases hd
 ·rw[z,r.at'.fs]at hd;cases hd
theorem Zah.ne_m(h:Zah cR cM H m rd sd L s nb li lo best):m≠rd∧m≠sd∧rd≠sd:=by
 obtain⟨dx,hd⟩:=h.ob
 refine⟨fun z=>?_,fun z=>?_,fun z=>?_⟩
 ·rw[z,h.rows]at hd;cases hd
 ·rw[z,h.stays]at hd;cases hd
 ·have:=h.rows;rw[z,h.stays]at this;cases this
theorem Zah.ne_sd(h:Zah cR cM H m rd sd L s nb li lo best){e:Zan}(he:e∈L):sd≠e.p∧sd≠e.k∧sd≠e.f∧rd≠e.p∧rd≠e.k∧rd≠e.f:=by
 have r:=h.each e he
 obtain⟨dy,hy⟩:=r.at'.ob
 have a:=h.stays
 have b:=h.rows
 refine⟨fun z=>?_,fun z=>?_,fun z=>?_,fun z=>?_,fun z=>?_,fun z=>?_⟩
 ·rw[z,hy]at a;cases a
 ·rw[z,r.at'.ks]at a;cases a
 ·rw[z,r.at'.fs]at a;cases a
 ·rw[z,hy]at b;cases b
 ·rw[z,r.at'.ks]at b;cases b
 ·rw[z,r.at'.fs]at b;cases b
theorem Zah.obj(h:Zah cR cM H m rd sd L s nb li lo best){nb' li' lo':Int}{best':V}{dx:Addr}:Zah cR cM (upd H m (.ins cM dx (mgF rd nb' li' lo' sd best'))) m rd sd L s nb' li' lo' best':=by
 obtain⟨n1,n2,n3⟩:=h.ne_m
 obtain⟨dy,hd⟩:=h.ob
 refine⟨⟨dx,Ze⟩,by rw[Zc n1.symm];exact h.rows,by rw[Zc n2.symm];exact h.stays,fun e he t ht=>?_,fun e he=>?_,h.up,h.pd,h.few,h.sfew⟩
 ·have:=h.ats e he t ht
  rw[Zc (fun z=>by rw[z,hd]at this;cases this)];exact this
 ·obtain⟨a,b,c⟩:=h.ne_p he
  exact(h.each e he).keep (Zc a.symm) (Zc b.symm) (Zc c.symm)
theorem Zah.put(h:Zah cR cM H m rd sd L s nb li lo best){k:Int×Int}{v:Option (Addr×Int×Int)}(hv:∀t,v=some t→H t.1=some (.tup [.int t.2.1,.int t.2.2]))(hs:(Zck s k v).length≤100):Zah cR cM (upd H sd (.dT (kvS (Zck s k v)))) m rd sd L (Zck s k v) nb li lo best:=by
 obtain⟨n1,n2,n3⟩:=h.ne_m
 obtain⟨dy,hd⟩:=h.ob
 have tup:∀a xs,H a=some (.tup xs)→(upd H sd (.dT (kvS (Zck s k v)))) a=some (.tup xs):=fun a xs ha=>by rw[Zc (fun z=>by rw[z,h.stays]at ha;cases ha)];exact ha
 refine⟨⟨dy,by rw[Zc n2];exact hd⟩,by rw[Zc n3];exact h.rows,Ze,(h.ats.put hv).mono tup,fun e he=>?_,h.up,h.pd,h.few,hs⟩
 obtain⟨a,b,c,_⟩:=h.ne_sd he
 exact(h.each e he).keep (Zc a.symm) (Zc b.symm) (Zc c.symm)
end
def Zhe(cR cM:Addr):Sp:=fun vs H Q _=>∃ (m rd sd:Addr) (L:List Zan) (s:StL) (nb li lo:Int) (best:V) (a b:Zan) (x y:Str) (far:Nat),vs=[.ref m,.int a.n,.int b.n,.int (far:Int)]∧Zah cR cM H m rd sd L s nb li lo best∧a∈L∧b∈L∧a.ss[a.g]? = some x∧b.ss[b.g]? = some y∧far≤lcp (cds x) (cds y) ∧
 ∀ (t:Addr) (wi lz:Int) (H':Hp),(Btr (cds x) a.n (cds y) b.n∧wi=a.n∧lz=b.n∨¬ Btr (cds x) a.n (cds y) b.n∧wi=b.n∧lz=a.n)→H t=none→H' t=some (.tup [.int wi,.int lz,.int ((lcp (cds x) (cds y):Nat):Int)]) →
  Zah cR cM H' m rd sd L s nb (li+1) (lo+((lcp (cds x) (cds y):Nat)-(far:Int)+1)) best→(∀b o,H b=some o→b≠m→H' b=some o)→Q (.ref t) H'
theorem Zc6{ss:List Str}{g:Nat}{x:Str}(h:ss[g]? = some x):Zdh ss g=.str x:=by unfold Zdh;rw[h]
theorem Zbu(k f:Addr)(g:Int):(ZeM k f g).lookup ("head" : Str)=none:=ZfD _ _ _ (by ac_rfl) (by ac_rfl) (by ac_rfl)
theorem Zh9(T:Zag K mg cRow cMerge cMergeError cFull cNoRow cOutOfOrder cBadLine)(f_Row_head:Mf P w K mg base 2 cRow "head" ["self"] (Ze1 cRow))(f_liken_from:Df P w K mg base 2 "liken_from" ["one", "other", "far"] Zbs):Mf P w K mg base 3 cMerge "meet" ["self", "one", "other", "far"] (Zhe cRow cMerge):=by
 refine T.t_Merge_meet.mf Zaz (fun vs H Q E h=>?_) (fun cdv f A outer s H vs Q E hr h=>?_)
 ·obtain⟨m,rd,sd,L,s,nb,li,lo,best,a,b,x,y,far,rfl,_⟩:=h
  rfl
 obtain⟨m,rd,sd,L,s,nb,li,lo,best,a,b,x,y,far,rfl,M,ha,hb,hx,hy,hf,q⟩:=h
 refine⟨_,#[Zf,#[Zbe,#[ZD,f_liken_from,hr,#[Za,#[Zdb,f_Row_head,T.cl_Row,hr,#[ZI,(ixG hr),#[Zax,‹0›],‹1›]],#[Za,#[Zdb,f_Row_head,T.cl_Row,hr,#[ZI,(ixG hr),#[Zax,‹0›],‹2›]],#[Za,‹3›,#[Zg]]]],(by rfl)],#[gT,K,3,#[ZK,#[ZJ,4,Zaz.nd],#[ZK,#[ZJ,5,Zaz.nd],#[ZK,#[ZJ,6,Zaz.nd],(@Zbf _)]]]]],#[Zf,(@ZdQ _ _ _ _ _ _ _ _ _ _ ‹0› #[Zh] Zhk),#[Zf,(@ZdQ _ _ _ _ _ _ _ _ _ _ ‹0› ‹6› Zhk),#[Zf,#[Zak,(@PW.pt _ _ _ (@ZfB _ _ _ _ _ _ _ #[Zr,ZdP,‹4›,#[Zh],(Zw _)] (@ZeV _ _ _ _ (@PW.pt _ _ _ (@ZcL _ _ _ _ _ _ _ #[Zr,Zbl,‹4›,#[Zh],(Zw _)] (@Zcz _ _ _ _ #[Zr,ZdP,‹1›,‹2›,(Zw _)])))))),#[Zi,#[Zu,#[Zbh,#[Za,‹1›,#[Za,‹2›,#[Za,‹5›,#[Zg]]]]]]],(@ZL _)],#[Zi,#[Zu,#[Zbh,#[Za,‹2›,#[Za,‹1›,#[Za,‹5›,#[Zg]]]]]]]]]]],?_⟩
 obtain⟨dx,hm⟩:=M.ob
 have Ra:=M.each a ha
 have Rb:=M.each b hb
 obtain⟨da,hpa⟩:=Ra.at'.ob
 obtain⟨db,hpb⟩:=Rb.at'.ob
 have lx:=(Ra.str x (Qs hx)).1
 have ly:=(Rb.str y (Qs hy)).1
 refine⟨_,rfl,xw5 m cMerge dx _ _ ⟨rfl,hm,T.cl_Merge,T.na_Merge_rows,ZbA ..,_,rfl,rd,_,rfl,Zdk.k' (k:=.inl a.n) M.rows (Zfv M.nd ha),a.p,da,_,rfl,hpa,Zbu ..,xw5 a.p a.k a.f a.ss a.g ⟨rfl,Ra.at',?_⟩⟩⟩
 refine⟨_,rfl,xw5 m cMerge dx _ _ ⟨rfl,hm,T.cl_Merge,T.na_Merge_rows,ZbA ..,_,rfl,rd,_,rfl,Zdk.k' (k:=.inl b.n) M.rows (Zfv M.nd hb),b.p,db,_,rfl,hpb,Zbu ..,xw5 b.p b.k b.f b.ss b.g ⟨rfl,Rb.at',?_⟩⟩⟩
 rw[Zc6 hx,Zc6 hy]
 refine⟨_,rfl,x,y,far,rfl,lx,ly,hf,fun t ht=>?_⟩
 have s1:=Zk ht (.tup [.int (ZC (cds x) (cds y)),.int (lcp (cds x) (cds y):Nat),.int ((lcp (cds x) (cds y):Nat)-(far:Int)+1)])
 have ht1:(upd H t (.tup [.int (ZC (cds x) (cds y)),.int (lcp (cds x) (cds y):Nat),.int ((lcp (cds x) (cds y):Nat)-(far:Int)+1)])) t=some (.tup [.int (ZC (cds x) (cds y)),.int (lcp (cds x) (cds y):Nat),.int ((lcp (cds x) (cds y):Nat)-(far:Int)+1)]):=Ze
 generalize upd H t (.tup [.int (ZC (cds x) (cds y)),.int (lcp (cds x) (cds y):Nat),.int ((lcp (cds x) (cds y):Nat)-(far:Int)+1)])=H1 at s1 ht1 ⊢
 have M1:=M.same s1
 refine⟨t,_,rfl,SqT.of ht1,rfl,_,_,rfl,_,_,rfl,_,_,rfl,rfl,?_⟩
 have hm1:=s1 _ _ hm
 refine⟨_,rfl,xw5 m cMerge dx _ _ ⟨rfl,hm1,T.cl_Merge,T.na_Merge_likened,ZeE ..,_,_,rfl,rfl,dx,_,hm1,Zb5 ..,?_⟩⟩
 rw[Zcq]
 have M2:=M1.obj (nb':=nb) (li':=li+1) (lo':=lo) (best':=best) (dx:=dx)
 have k2:∀b o,H b=some o→b≠m→(upd H1 m (.ins cMerge dx (mgF rd nb (li+1) lo sd best))) b=some o:=fun b o hb n=>by rw[Zc n];exact s1 b o hb
 have hm2:(upd H1 m (.ins cMerge dx (mgF rd nb (li+1) lo sd best))) m=some (.ins cMerge dx (mgF rd nb (li+1) lo sd best)):=Ze
 generalize upd H1 m (.ins cMerge dx (mgF rd nb (li+1) lo sd best))=H2 at M2 k2 hm2 ⊢
 refine⟨_,rfl,xw5 m cMerge dx _ _ ⟨rfl,hm2,T.cl_Merge,T.na_Merge_looked,Zc5 ..,_,rfl,_,_,rfl,rfl,dx,_,hm2,Zb5 ..,?_⟩⟩
 rw[ZcW]
 have M3:=M2.obj (nb':=nb) (li':=li+1) (lo':=lo+((lcp (cds x) (cds y):Nat)-(far:Int)+1)) (best':=best) (dx:=dx)
 have k3:∀b o,H b=some o→b≠m→(upd H2 m (.ins cMerge dx (mgF rd nb (li+1) (lo+((lcp (cds x) (cds y):Nat)-(far:Int)+1)) sd best))) b=some o:=fun b o hb n=>by rw[Zc n];exact k2 b o hb n
 generalize upd H2 m (.ins cMerge dx (mgF rd nb (li+1) (lo+((lcp (cds x) (cds y):Nat)-(far:Int)+1)) sd best))=H3 at M3 k3 ⊢
 have fin:∀wi lz:Int,(Btr (cds x) a.n (cds y) b.n∧wi=a.n∧lz=b.n∨¬ Btr (cds x) a.n (cds y) b.n∧wi=b.n∧lz=a.n)→∀t2,H3 t2=none→Q (.ref t2) (upd H3 t2 (.tup [.int wi,.int lz,.int ((lcp (cds x) (cds y):Nat):Int)])):=fun wi lz hw t2 ht2=>by
  have hfree:H t2=none:=by
   cases e:H t2 with
   | none=>rfl
   | some o =>
    by_cases z:t2=m
    ·obtain⟨dz,hz⟩:=M3.ob;rw[z,hz]at ht2;cases ht2
    ·rw[k3 t2 o e z]at ht2;cases ht2
  exact q t2 wi lz _ hw hfree Ze (M3.same (Zk ht2 _)) (fun b o hb n=>Zk ht2 _ _ _ (k3 b o hb n))
 have sz3:3≤sizeLine:=by decide
 refine⟨_,rfl,_,_,rfl,rfl,_,rfl,Zbi (fun d=>?_) (fun d=>?_)⟩
 ·have d':ZC (cds x) (cds y)<0:=of_decide_eq_true d
  exact Zh6 ⟨_,rfl,_,rfl,_,rfl,sz3,fun t2 ht2=>fin _ _ (.inl ⟨.inl d',rfl,rfl⟩) t2 ht2⟩
 have d1:¬ ZC (cds x) (cds y)<0:=fun z=>d (decide_eq_true z)
 refine⟨_,rfl,rfl,_,rfl,Zbi (fun e=>?_) (fun e=>?_)⟩
 ·have e':ZC (cds x) (cds y)=0:=by have:=of_decide_eq_true e;injection this
  refine⟨_,rfl,_,rfl,_,_,rfl,rfl,_,rfl,Zbi (fun g=>?_) (fun g=>?_)⟩
  ·have g':a.n<b.n:=of_decide_eq_true g
   exact⟨_,rfl,_,rfl,_,rfl,sz3,fun t2 ht2=>fin _ _ (.inl ⟨.inr ⟨e',g'⟩,rfl,rfl⟩) t2 ht2⟩
  ·have g':¬ a.n<b.n:=fun z=>g (decide_eq_true z)
   exact⟨_,rfl,_,rfl,_,rfl,sz3,fun t2 ht2=>fin _ _ (.inr ⟨fun z=>by rcases z with z|z;exact d1 z;exact g' z.2,rfl,rfl⟩) t2 ht2⟩
 ·have e':ZC (cds x) (cds y)≠0:=fun z=>e (decide_eq_true (by rw[z]))
  exact Zcu ⟨_,rfl,_,rfl,_,rfl,sz3,fun t2 ht2=>fin _ _ (.inr ⟨fun z=>by rcases z with z|z;exact d1 z;exact e' z.1,rfl,rfl⟩) t2 ht2⟩
theorem Zah.cast{cR cM:Addr}{H:Hp}{m rd sd:Addr}{L:List Zan}{s:StL}{nb li lo li' lo':Int}{best:V}(h:Zah cR cM H m rd sd L s nb li lo best)(e1:li=li')(e2:lo=lo'):Zah cR cM H m rd sd L s nb li' lo' best:=by subst e1;subst e2;exact h
theorem Zhy{N:List Int}(h:N≠[]):atI (N.map V.int) (-1)=some (.int (N.getLastD 0)):=by
 have e:N=N.dropLast++[N.getLast h]:=(List.dropLast_concat_getLast h).symm
 have:=Zhm (N.dropLast.map V.int) (V.int (N.getLast h))
 rw[QT,Qaa h]
 conv=>lhs;rw[e,Qh]
 exact this
theorem Zhq{N:List Int}(h:N≠[]):atI (N.map V.int) 0=some (.int (N.headD 0)):=by
 cases N with
 | nil=>exact absurd rfl h
 | cons a r=>exact Zar (j:=0) rfl
theorem ZbV(rd:Addr)(nb li lo:Int)(sd:Addr)(best:V):(mgF rd nb li lo sd best).lookup ("play" : Str)=none:=Zd9 _ _ _ _ _ _ (by ac_rfl) (by ac_rfl) (by ac_rfl) (by ac_rfl) (by ac_rfl) (by ac_rfl)
theorem Zfc(rd:Addr)(nb li lo:Int)(sd:Addr)(best:V):(mgF rd nb li lo sd best).lookup ("meet" : Str)=none:=Zd9 _ _ _ _ _ _ (by ac_rfl) (by ac_rfl) (by ac_rfl) (by ac_rfl) (by ac_rfl) (by ac_rfl)
def ZgU(K:PySem.W.Frag)(cR cM:Addr)(n:Nat):Sp:=fun vs H Q _=>∃ (m rd sd:Addr) (L:List Zan) (s:StL) (nb li lo:Int) (best:V) (l:Addr) (N:List Int),vs=[.ref m,.ref l]∧Zah cR cM H m rd sd L s nb li lo best∧H l=some (.lst (N.map V.int))∧1≤N.length∧N.length≤60∧0<n∧N.length≤2 ^ (n-1)∧(∀x∈N,x∈Zam L)∧ZaQ N∧(∀k,Zb6 n N k→ZaF s k=none)∧s.length+N.length≤100 ∧
 ∀ (w:Option Int) (s':StL) (k q:Int) (H':Hp),Win (hdM L) N w→Zct (hdM L) s' n N→Zc2 (hdM L) n N k q→(∀j,¬ Zb6 n N j→ZaF s' j=ZaF s j)→s'.length+1≤s.length+N.length→Zah cR cM H' m rd sd L s' nb (li+k) (lo+q) best→(∀b o,H b=some o→b≠m→b≠sd→H' b=some o)→Q (ZhU w) H'
theorem ZfX(T:Zag K mg cRow cMerge cMergeError cFull cNoRow cOutOfOrder cBadLine)(f_Row_head:Mf P w K mg base 2 cRow "head" ["self"] (Ze1 cRow))(f_halves:Df P w K mg base 1 "halves" ["numbers"] (ZcD K true))(f_Merge_meet:Mf P w K mg base 3 cMerge "meet" ["self", "one", "other", "far"] (Zhe cRow cMerge)) :
  ∀n:Nat,Mf P w K mg base (n+4) cMerge "play" ["self", "numbers"] (ZgU K cRow cMerge n)
 | 0=>by
  refine T.t_Merge_play.mf ZG (fun vs H Q E h=>?_) (fun cdv f A outer s H vs Q E hr h=>?_)
  ·obtain⟨m,rd,sd,L,s,nb,li,lo,best,l,N,rfl,_⟩:=h
   rfl
  obtain⟨m,rd,sd,L,s,nb,li,lo,best,l,N,rfl,_,_,_,_,z,_⟩:=h
  exact absurd z (by omega)
 | n+1=>by
  have f_Merge_play:=ZfX T f_Row_head f_halves f_Merge_meet n
  refine T.t_Merge_play.mf ZG (fun vs H Q E h=>?_) (fun cdv f A outer s H vs Q E hr h=>?_)
  ·obtain⟨m,rd,sd,L,s,nb,li,lo,best,l,N,rfl,_⟩:=h
   rfl
  obtain⟨m,rd,sd,L,s,nb,li,lo',best,l,N,rfl,M,hl,h1,h60,_,hp2,hmem,hup,hfree,hsz,q⟩:=h
  rw[Nat.add_sub_cancel]at hp2
  refine⟨_,#[Zf,#[Zak,#[Zr,Zbl,#[Zs,(Zcs K),T.b.n_len,Qr,#[Za,‹1›,#[Zg]]],#[Zh],(Zw _)],#[Zi,#[Zu,#[ZaZ,#[Zr,ZcT,#[Zdb,f_Row_head,T.cl_Row,hr,#[ZI,(ixG hr),#[Zax,‹0›],#[ZI,(ixL K),‹1›,#[Zh]]]],#[ZZ],(Zw _)],#[ZZ],#[ZI,(ixL K),‹1›,#[Zh]]]]],(@ZL _)],#[Zf,#[Zbe,#[ZD,f_halves,hr,#[Za,‹1›,#[Zg]],(by rfl)],#[gT,K,2,#[ZK,#[ZJ,2,ZG.nd],#[ZK,#[ZJ,3,ZG.nd],(@Zbf _)]]]],#[Zf,#[Zy,4,ZG.nd,(Or.inl rfl),#[ZfN,f_Merge_play,T.cl_Merge,hr,‹0›,#[Za,‹2›,#[Zg]]]],#[Zf,#[Zy,5,ZG.nd,(Or.inl rfl),#[ZfN,f_Merge_play,T.cl_Merge,hr,‹0›,#[Za,‹3›,#[Zg]]]],#[Zf,#[Zak,#[Zr,ZcT,‹4›,#[ZZ],(Zw _)],#[Zi,#[Zu,‹5›]],(@ZL _)],#[Zf,#[Zak,#[Zr,ZcT,‹5›,#[ZZ],(Zw _)],#[Zi,#[Zu,‹4›]],(@ZL _)],#[Zf,#[Zbe,#[ZfN,f_Merge_meet,T.cl_Merge,hr,‹0›,#[Za,‹4›,#[Za,‹5›,#[Za,#[Zh],#[Zg]]]]],#[gT,K,3,#[ZK,#[ZJ,6,ZG.nd],#[ZK,#[ZJ,7,ZG.nd],#[ZK,#[ZJ,8,ZG.nd],(@Zbf _)]]]]],#[Zf,#[Zbe,#[Zbh,#[Za,‹7›,#[Za,‹8›,#[Zg]]]],#[Zcj,#[Zax,‹0›],#[Zbh,#[Za,#[ZI,(ixL K),‹1›,#[Zh]],#[Za,#[ZI,(ixL K),‹1›,(@ZgW _ _ _ _ _ _ ZeS #[Zh])],#[Zg]]]],(Zji hr)]],#[Zi,#[Zu,‹6›]]]]]]]]]],?_⟩
  obtain⟨dx,hm⟩:=M.ob
  have hN:N≠[]:=ZaJ h1
  have nml:l≠m:=fun z=>by rw[z,hm]at hl;cases hl
  have nsl:l≠sd:=fun z=>by rw[z,M.stays]at hl;cases hl
  have hll:(((N.map V.int).length:Nat):Int)=(N.length:Int):=by rw[Qb]
  refine⟨_,rfl,l,_,rfl,.inl (SqL.of hl),rfl,_,rfl,Zbi (fun d=>?_) (fun d=>?_)⟩
  ·have hone:N.length=1:=by have:=of_decide_eq_true d;injection this with this;rw[hll]at this;omega
   obtain⟨n0,rfl⟩:∃n0,N=[n0]:=List.length_eq_one_iff.mp hone
   obtain⟨e,he,rfl⟩:=ZcJ (hmem n0 (by simp))
   have R:=M.each e he
   obtain⟨dp,hp⟩:=R.at'.ob
   have hat:atI (([e.n]:List Int).map V.int) 0=some (.int e.n):=Zar (j:=0) rfl
   refine⟨_,rfl,xw5 m cMerge dx _ _ ⟨rfl,hm,T.cl_Merge,T.na_Merge_rows,ZbA ..,_,rfl,xw4 l _ _ _ ⟨rfl,rfl,SqL.of hl,hat,rd,_,rfl,Zdk.k' (k:=.inl e.n) M.rows (Zfv M.nd he),e.p,dp,_,rfl,hp,Zbu ..,xw5 e.p e.k e.f e.ss e.g ⟨rfl,R.at',rfl,_,rfl,?_⟩⟩⟩⟩
   have hst:Zct (hdM L) s (n+1) [e.n]:=fun h2=>by simp at h2
   have hpl:Zc2 (hdM L) (n+1) [e.n] 0 0:=.few (by show 1<2;decide)
   have hwin:=Win.sing (hd:=hdM L) (n:=e.n)
   have hd:=Ze8 M.nd he
   have M':=M.cast (li':=li+0) (lo':=lo'+0) (by omega) (by omega)
   cases hx:e.ss[e.g]? with
   | none =>
    rw[show Zdh e.ss e.g=.non by unfold Zdh;rw[hx]]
    rw[hd,hx]at hwin
    exact Zen rfl (q none s 0 0 H hwin hst hpl (fun _ _=>rfl) (Qe _) M' (fun b o h _ _=>h))
   | some x =>
    rw[Zc6 hx]
    rw[hd,hx]at hwin
    exact ZdG (fun z=>nomatch z) ⟨_,rfl,xw4 l _ _ _ ⟨rfl,rfl,SqL.of hl,hat,q (some e.n) s 0 0 H hwin hst hpl (fun _ _=>rfl) (Qe _) M' (fun b o h _ _=>h)⟩⟩
  have hge:2≤N.length:=by
   have:¬ ((N.length:Int)=1):=fun z=>d (decide_eq_true (by rw[hll,z]))
   omega
  have hn1:1≤n:=by
   cases n with
   | zero=>simp at hp2;omega
   | succ m=>omega
  have hpow:2 ^ n=2*2 ^ (n-1):=by
   obtain⟨m,rfl⟩:∃m,n=m+1:=⟨n-1,by omega⟩
   rw[Nat.pow_succ,Nat.add_sub_cancel];omega
  have hlo:(lo N).length≤2 ^ (n-1)∧(lo N).length≤60:=by unfold lo mid;rw[QC];omega
  have hupl:(up N).length≤2 ^ (n-1)∧(up N).length≤60:=by unfold up mid;rw[QX];omega
  have hsum:(lo N).length+(up N).length=N.length:=by rw[← Qm,Zbm]
  have hmlo:∀x∈lo N,x∈Zam L:=fun x hx=>hmem x (List.mem_of_mem_take hx)
  have hmup:∀x∈up N,x∈Zam L:=fun x hx=>hmem x (List.mem_of_mem_drop hx)
  refine⟨_,rfl,l,N,rfl,SqL.of hl,by omega,fun t f r H2 ht hf hr' nfr ht2 hf2 hr2 s2 ntf ntr=>?_⟩
  rw[if_pos rfl]at ht2
  rw[Zi9]at hf2
  rw[ZjD]at hr2
  refine⟨t,_,rfl,SqT.of ht2,rfl,_,_,rfl,_,_,rfl,rfl,?_⟩
  have M2:=M.same s2
  have hm2:=s2 _ _ hm
  have nfm:r≠m:=(Zb hm hr').symm
  have nfs:r≠sd:=(Zb M.stays hr').symm
  refine⟨_,rfl,m,dx,_,rfl,hm2,ZbV ..,_,rfl,m,rd,sd,L,s,nb,li,lo',best,f,lo N,rfl,M2,hf2,(Zei hge).2,hlo.2,hn1,hlo.1,hmlo,Zgu hup,fun k hk=>hfree k ⟨hge,.inl hk⟩,by omega,fun w1 s1 k1 q1 H3 W1 S1 P1 o1 l1 M3 b3=>?_⟩
  have hr3:=b3 _ _ hr2 nfm nfs
  obtain⟨dx3,hm3⟩:=M3.ob
  refine⟨_,rfl,m,dx3,_,rfl,hm3,ZbV ..,_,rfl,m,rd,sd,L,s1,nb,_,_,best,r,up N,rfl,M3,hr3,(ZeZ hge).2,hupl.2,hn1,hupl.1,hmup,Zf6 hup,fun k hk=>?_,by omega,fun w2 s2' k2 q2 H4 W2 S2 P2 o2 l2 M4 b4=>?_⟩
  ·rw[o1 k ((Zd1 hup hge hk).2 n)]
   exact hfree k ⟨hge,.inr (.inl hk)⟩
  have key_n:¬ Zb6 n (lo N) (Zbo N)∧¬ Zb6 n (up N) (Zbo N):=⟨fun z=>(Zea hup hge z).1 rfl,fun z=>(Zd1 hup hge z).1 rfl⟩
  have S1':Zct (hdM L) s2' n (lo N):=S1.congr n _ (fun _ _=>rfl) (fun k hk=>o2 k ((Zea hup hge hk).2 n))
  have hk2:ZaF s2' (Zbo N)=none:=by rw[o2 _ key_n.2,o1 _ key_n.1];exact hfree _ ⟨hge,.inr (.inr rfl)⟩
  have oth:∀j,¬ Zb6 (n+1) N j→ZaF s2' j=ZaF s j:=fun j hj=>by
   rw[o2 j (fun z=>hj ⟨hge,.inr (.inl z)⟩),o1 j (fun z=>hj ⟨hge,.inl z⟩)]
  have b04:∀b o,H b=some o→b≠m→b≠sd→H4 b=some o:=fun b o hb n1 n2=>b4 b o (b3 b o (s2 b o hb) n1 n2) n1 n2
  have none':∀wn,Win (hdM L) N wn→(Win (hdM L) (lo N) none∨Win (hdM L) (up N) none)→Q (ZhU wn) H4:=fun wn hw hno=>by
   refine q wn s2' (k1+k2) (q1+q2) H4 hw (fun _=>⟨S1',S2,fun a b x y wa wb _ _=>?_,fun _=>.inl hk2⟩) (.none hge P1 P2 hno) oth (by omega) (M4.cast (by omega) (by omega)) b04
   rcases hno with z|z
   ·exact nomatch z.one wa
   ·exact nomatch z.one wb
  cases w1 with
  | none=>exact⟨_,rfl,rfl,_,rfl,Zen rfl ⟨_,rfl,none' w2 (by have:=Win.right W1 W2;rwa [Zbm]at this) (.inl W1)⟩⟩
  | some a =>
  refine⟨_,rfl,rfl,_,rfl,ZdG (fun z=>nomatch z) ?_⟩
  cases w2 with
  | none=>exact⟨_,rfl,rfl,_,rfl,Zen rfl ⟨_,rfl,none' (some a) (by have:=Win.left W1 W2;rwa [Zbm]at this) (.inr W2)⟩⟩
  | some b =>
  refine⟨_,rfl,rfl,_,rfl,ZdG (fun z=>nomatch z) ?_⟩
  obtain⟨ea,hea,ea'⟩:=ZcJ (hmlo a W1.1)
  obtain⟨eb,heb,eb'⟩:=ZcJ (hmup b W2.1)
  subst ea'
  subst eb'
  have hda:=Ze8 M.nd hea
  have hdb:=Ze8 M.nd heb
  cases hx:ea.ss[ea.g]? with
  | none=>obtain⟨_,z,hz,_⟩:=W1;rw[hda,hx]at hz;cases hz
  | some x =>
  cases hy:eb.ss[eb.g]? with
  | none=>obtain⟨_,z,hz,_⟩:=W2;rw[hdb,hy]at hz;cases hz
  | some y =>
  rw[hx]at hda
  rw[hy]at hdb
  obtain⟨dx4,hm4⟩:=M4.ob
  refine⟨_,rfl,m,dx4,_,rfl,hm4,Zfc ..,_,rfl,_,rfl,m,rd,sd,L,s2',nb,_,_,best,ea,eb,x,y,0,rfl,M4,hea,heb,hx,hy,Qu _,fun t5 wi lz H5 hw ht5 ht5' M5 b5=>?_⟩
  refine⟨t5,_,rfl,SqT.of ht5',rfl,_,_,rfl,_,_,rfl,_,_,rfl,rfl,?_⟩
  have sz2:2≤sizeLine:=by decide
  refine⟨_,rfl,_,rfl,sz2,fun t6 ht6=>?_⟩
  have s6:=Zk ht6 (.tup [.int lz,.int ((lcp (cds x) (cds y):Nat):Int)])
  have ht66:(upd H5 t6 (.tup [.int lz,.int ((lcp (cds x) (cds y):Nat):Int)])) t6=some (.tup [.int lz,.int ((lcp (cds x) (cds y):Nat):Int)]):=Ze
  have M6:=M5.same s6
  generalize upd H5 t6 (.tup [.int lz,.int ((lcp (cds x) (cds y):Nat):Int)])=H6 at s6 ht66 M6 ⊢
  obtain⟨dx6,hm6⟩:=M6.ob
  have hl6:H6 l=some (.lst (N.map V.int)):=s6 _ _ (b5 _ _ (b04 _ _ hl nml nsl) nml)
  refine⟨_,rfl,xw5 m cMerge dx6 _ _ ⟨rfl,hm6,T.cl_Merge,T.na_Merge_stays,Zgk ..,_,rfl,xw4 l _ _ _ ⟨rfl,rfl,SqL.of hl6,Zhq hN,_,rfl,_,rfl,xw4 l _ _ _ ⟨rfl,rfl,SqL.of hl6,Zhy hN,sz2,fun t7 ht7=>?_⟩⟩⟩⟩
  have s7:=Zk ht7 (.tup [.int (N.headD 0),.int (N.getLastD 0)])
  have ht77:(upd H6 t7 (.tup [.int (N.headD 0),.int (N.getLastD 0)])) t7=some (.tup ([.inl (Zbo N).1,.inl (Zbo N).2].map kV)):=Ze
  have M7:=M6.same s7
  generalize upd H6 t7 (.tup [.int (N.headD 0),.int (N.getLastD 0)])=H7 at s7 ht77 M7 ⊢
  have hsl:(kvS s2').length<sizeLine:=by unfold kvS;rw[Qb];exact Zp (by omega)
  refine⟨sd,_,rfl,ZdZ.t (k:=[.inl (Zbo N).1,.inl (Zbo N).2]) M7.stays ht77 hsl,?_⟩
  rw[show V.ref t6=stV (some (t6,lz,((lcp (cds x) (cds y):Nat):Int))) from rfl,Zig]
  have hpl:=Zhi s2' (Zbo N) (some (t6,lz,((lcp (cds x) (cds y):Nat):Int)))
  have l1':=(Zei hge).2
  have M8:=M7.put (k:=Zbo N) (v:=some (t6,lz,((lcp (cds x) (cds y):Nat):Int))) (fun t ht=>by injection ht with ht;rw[← ht];exact s7 _ _ ht66) (by omega)
  have hne:ea.n≠eb.n:=fun z=>by have:=Zaq hup W1.1 W2.1;omega
  have b08:∀b o,H b=some o→b≠m→b≠sd→(upd H7 sd (.dT (kvS (Zck s2' (Zbo N) (some (t6,lz,((lcp (cds x) (cds y):Nat):Int))))))) b=some o:=fun b o hb n1 n2=>by
   rw[Zc n2];exact s7 _ _ (s6 _ _ (b5 _ _ (b04 _ _ hb n1 n2) n1))
  have hwin:Win (hdM L) N (some wi):=by
   rcases hw with⟨w0,rfl,_⟩|⟨w0,rfl,_⟩
   ·have:=Win.both W1 W2 hda hdb w0;rwa [Zbm]at this
   ·have:=Win.both' W1 W2 hda hdb ((Btr.total hne).resolve_left w0);rwa [Zbm]at this
  have hlz:lz=if ZC (cds x) (cds y)<0∨(ZC (cds x) (cds y)=0∧ea.n<eb.n) then eb.n else ea.n:=by
   rcases hw with⟨w0,_,rfl⟩|⟨w0,_,rfl⟩
   ·exact(if_pos (show ZC (cds x) (cds y)<0∨(ZC (cds x) (cds y)=0∧ea.n<eb.n) from w0)).symm
   ·exact(if_neg (show ¬ (ZC (cds x) (cds y)<0∨(ZC (cds x) (cds y)=0∧ea.n<eb.n)) from w0)).symm
  refine⟨_,rfl,q (some wi) _ (k1+k2+1) (q1+q2+(lcp (cds x) (cds y):Nat)+1) _ hwin (fun _=>⟨?_,?_,?_,fun hno=>?_⟩) (.both hge P1 P2 W1 W2 hda hdb) (fun j hj=>?_) (by omega) (M8.cast (by omega) (by omega)) b08⟩
  ·exact S1'.congr n _ (fun _ _=>rfl) (fun k hk=>by rw[ZbF,if_neg (Zea hup hge hk).1])
  ·exact S2.congr n _ (fun _ _=>rfl) (fun k hk=>by rw[ZbF,if_neg (Zd1 hup hge hk).1])
  ·intro a' b' x' y' wa wb hxa hyb
   have e1:=Ql (wa.one W1)
   have e2:=Ql (wb.one W2)
   subst e1
   subst e2
   have e3:=Ql (hxa.symm.trans hda)
   have e4:=Ql (hyb.symm.trans hdb)
   subst e3
   subst e4
   exact⟨t6,by rw[ZbF,if_pos rfl,hlz]⟩
  ·rcases hno with z|z
   ·exact nomatch z.one W1
   ·exact nomatch z.one W2
  ·rw[ZbF,if_neg (fun z=>hj ⟨hge,.inr (.inr z)⟩)]
   exact oth j hj
theorem Zb8.mono{C:Addr}{H H':Hp}{e:Zan}(h:Zb8 C H e)(k:∀b o,H b=some o→b=e.p∨b=e.k∨b=e.f→H' b=some o):Zb8 C H' e:=by
 obtain⟨dx,hd⟩:=h.at'.ob
 exact⟨⟨⟨dx,k _ _ hd (.inl rfl)⟩,k _ _ h.at'.ks (.inr (.inl rfl)),k _ _ h.at'.fs (.inr (.inr rfl))⟩,h.le,h.len,h.srt,h.str⟩
theorem Zjp(L:List Zan):(kvM L).map (fun kv=>kV kv.1)=(Zam L).map V.int:=by unfold kvM Zam;rw[QW,QW];rfl
theorem Zg1{n:Nat}{N:List Int}{k:Int×Int}(_:Zb6 n N k):ZaF [] k=none:=rfl
def ZdT(cR cM:Addr):Sp:=fun vs H Q _=>∃ (m rd sd:Addr) (L:List Zan) (s:StL) (nb li lo:Int) (best:V),vs=[.ref m]∧Zah cR cM H m rd sd L s nb li lo best ∧
 ∀ (sd':Addr) (s':StL) (w:Option Int) (k q:Int) (H':Hp),H sd'=none→Win (hdM L) (Zam L) w→Zct (hdM L) s' 8 (Zam L)→Zc2 (hdM L) 8 (Zam L) k q→Zah cR cM H' m rd sd' L s' nb (li+k) (lo+q) (ZhU w)→(∀b o,H b=some o→b≠m→H' b=some o)→Q .non H'
theorem ZeI(T:Zag K mg cRow cMerge cMergeError cFull cNoRow cOutOfOrder cBadLine)(f_Merge_play:Mf P w K mg base 12 cMerge "play" ["self", "numbers"] (ZgU K cRow cMerge 8)):Mf P w K mg base 13 cMerge "play_all" ["self"] (ZdT cRow cMerge):=by
 refine T.t_Merge_play_all.mf ZbX (fun vs H Q E h=>?_) (fun cdv f A outer s H vs Q E hr h=>?_)
 ·obtain⟨m,rd,sd,L,s,nb,li,lo,best,rfl,_⟩:=h
  rfl
 obtain⟨m,rd,sd,L,s,nb,li,lo',best,rfl,M,q⟩:=h
 refine⟨_,#[Zf,#[ZaE,‹0›,(@ZfO _ _)],#[Zi,#[ZaE,‹0›,#[ZaZ,#[Zr,ZgL,#[Zs,Zk2,T.b.n_len,Qr,#[Za,#[Zax,‹0›],#[Zg]]],#[Zh],(Zw _)],#[ZfN,f_Merge_play,T.cl_Merge,hr,‹0›,#[Za,#[Zao,Zlb,(by rfl),T.b.n_list,boot_list,#[Za,#[Zax,‹0›],#[Zg]]],#[Zg]]],#[ZZ]]]]],?_⟩
 refine fun sd' hsd=>?_
 obtain⟨dx,hm⟩:=M.ob
 have s1:=Zk hsd (.dT [])
 have hs1:(upd H sd' (.dT [])) sd'=some (.dT (kvS [])):=Ze
 have M1:=M.same s1
 have hm1:=s1 _ _ hm
 have nms:m≠sd':=Zb hm hsd
 have nrs:rd≠sd':=Zb M.rows hsd
 generalize upd H sd' (.dT [])=H1 at s1 hs1 M1 hm1 ⊢
 refine⟨_,rfl,xw4 m cMerge dx _ ⟨rfl,hm1,T.cl_Merge,T.na_Merge_stays,Zb5 ..,?_⟩⟩
 rw[Zdo]
 obtain⟨n1,n2,n3⟩:=M.ne_m
 have M2:Zah cRow cMerge (upd H1 m (.ins cMerge dx (mgF rd nb li lo' sd' best))) m rd sd' L [] nb li lo' best:=by
  refine⟨⟨dx,Ze⟩,by rw[Zc n1.symm];exact M1.rows,by rw[Zc nms.symm];exact hs1,(fun e he=>by cases he),fun e he=>?_,M.up,M.pd,M.few,by decide⟩
  obtain⟨a,b,c⟩:=M1.ne_p he
  exact(M1.each e he).keep (Zc a.symm) (Zc b.symm) (Zc c.symm)
 have k2:∀b o,H b=some o→b≠m→(upd H1 m (.ins cMerge dx (mgF rd nb li lo' sd' best))) b=some o:=fun b o hb n=>by rw[Zc n];exact s1 b o hb
 generalize upd H1 m (.ins cMerge dx (mgF rd nb li lo' sd' best))=H2 at M2 k2 ⊢
 obtain⟨dx2,hm2⟩:=M2.ob
 have hlen:(((kvM L).length:Nat):Int)=(L.length:Int):=by unfold kvM;rw[Qb]
 have hnl:(Zam L).length=L.length:=by unfold Zam;rw[Qb]
 have hfew:=M.few
 refine⟨_,rfl,xw5 m cMerge dx2 _ _ ⟨rfl,hm2,T.cl_Merge,T.na_Merge_rows,ZbA ..,rd,_,rfl,M2.rows,_,_,rfl,rfl,_,rfl,Zbi (fun d=>?_) (fun d=>?_)⟩⟩
 ·have hpos:0<L.length:=by have:(0:Int)<(((kvM L).length:Nat):Int):=of_decide_eq_true d;omega
  refine⟨_,rfl,m,dx2,_,rfl,hm2,ZbV ..,_,rfl,xw5 m cMerge dx2 _ _ ⟨rfl,hm2,T.cl_Merge,T.na_Merge_rows,ZbA ..,rd,_,rfl,M2.rows,fun l hl=>?_⟩⟩
  rw[Zjp]
  have s3:=Zk hl (.lst ((Zam L).map V.int))
  have hl3:(upd H2 l (.lst ((Zam L).map V.int))) l=some (.lst ((Zam L).map V.int)):=Ze
  have M3:=M2.same s3
  generalize upd H2 l (.lst ((Zam L).map V.int))=H3 at s3 hl3 M3 ⊢
  refine⟨m,rd,sd',L,[],nb,li,lo',best,l,Zam L,rfl,M3,hl3,by omega,by omega,by decide,Qq (by omega:(Zam L).length≤60) (by decide),fun x hx=>hx,M.up,fun k hk=>Zg1 hk,by show 0+_≤_;omega,fun w1 s' k q' H4 W S Pl _ _ M4 b4=>?_⟩
  obtain⟨dx4,hm4⟩:=M4.ob
  refine⟨_,rfl,xw4 m cMerge dx4 _ ⟨rfl,hm4,T.cl_Merge,T.na_Merge_best,Zb5 ..,?_⟩⟩
  rw[Zb2]
  exact q sd' s' w1 k q' _ hsd W S Pl M4.obj (fun b o hb n=>by rw[Zc n];exact b4 b o (s3 b o (k2 b o hb n)) n (Zb hb hsd))
 ·have hnil:L=[]:=by
   cases L with
   | nil=>rfl
   | cons e r=>exact absurd (decide_eq_true (show (0:Int)<(((kvM (e::r)).length:Nat):Int) by rw[hlen];simp only[List.length_cons];omega)) d
  subst hnil
  refine⟨_,rfl,xw4 m cMerge dx2 _ ⟨rfl,hm2,T.cl_Merge,T.na_Merge_best,Zb5 ..,?_⟩⟩
  rw[Zb2]
  exact q sd' [] none 0 0 _ hsd (Win.nil _) (fun h2=>absurd h2 (by decide)) (.few (by decide)) (M2.obj.cast (by omega) (by omega)) (fun b o hb n=>by rw[Zc n];exact k2 b o hb n)
def Zkn(L:List Zan)(rs:List (Addr×List Str)):Prop:=Zam L=ZeK 0 rs.length∧L.map (fun e=>(e.ss,e.g))=rs.map fun x=>(x.2,0)
def Zcp(cR cM:Addr):Sp:=fun vs H Q _=>∃ (m dx r:Addr) (rs:List (Addr×List Str)),vs=[.ref m,.ref r]∧H m=some (.ins cM dx [])∧ZY H r rs∧(∀x∈rs,sortedS x.2=true) ∧
 ∀ (rd sd:Addr) (L:List Zan) (s:StL) (w:Option Int) (k q:Int) (H':Hp),Zah cR cM H' m rd sd L s (rs.length:Int) k q (ZhU w)→Zkn L rs→Win (hdM L) (Zam L) w→Zct (hdM L) s 8 (Zam L)→Zc2 (hdM L) 8 (Zam L) k q→(∀b,Fp m rd sd L b→b=m∨H b=none)→(∀b o,H b=some o→b≠m→H' b=some o)→Q .non H'
theorem ZcZ(rd:Addr)(nb li lo:Int)(sd:Addr)(best:V):(mgF rd nb li lo sd best).lookup ("play_all" : Str)=none:=Zd9 _ _ _ _ _ _ (by ac_rfl) (by ac_rfl) (by ac_rfl) (by ac_rfl) (by ac_rfl) (by ac_rfl)
theorem ZfY{ss:List Str}(h:sortedS ss=true):ZbN ss .non:=by
 refine .inl ⟨rfl,fun i x y hx hy=>?_⟩
 have:=Zgs h i y x hy hx
 have:=ZaO (cds y) (cds x)
 omega
theorem Zdr(T:Zag K mg cRow cMerge cMergeError cFull cNoRow cOutOfOrder cBadLine)(f_refuse_break:Df P w K mg base 5 "refuse_break" ["number", "keys"] (ZcU K))(f_Row_init:Cf P w K mg base 4 cRow "Row" ["self", "keys"] (Zce cRow))(f_Merge_play_all:Mf P w K mg base 13 cMerge "play_all" ["self"] (ZdT cRow cMerge)):Cf P w K mg base 14 cMerge "Merge" ["self", "rows"] (Zcp cRow cMerge):=by
 refine T.t_Merge_init.cf Z8 (fun vs H Q E h=>?_) (fun cdv f A outer s H vs Q E hr h=>?_)
 ·obtain⟨m,dx,r,rs,rfl,_⟩:=h
  rfl
 obtain⟨m,dx,r,rs,rfl,hm,hrs,hsrt,q⟩:=h
 refine⟨_,#[Zf,#[ZaE,‹0›,(@Zey _ _)],#[Zf,#[ZbW,PassesOwn.never,#[iE,K,T.b.n_enumerate,#[Za,‹1›,#[Zg]]],#[gT,K,2,#[ZK,#[ZJ,2,Z8.nd],#[ZK,#[ZJ,3,Z8.nd],(@Zbf _)]]],#[Zf,#[ZaG,#[ZD,f_refuse_break,hr,#[Za,‹2›,#[Za,‹3›,#[Zg]]],(by rfl)]],#[Zi,#[Zbe,#[Zhu,f_Row_init,hr,#[Za,‹3›,#[Zg]]],#[Zcj,#[Zax,‹0›],‹2›,(Zji hr)]]]]],#[Zf,#[ZaE,‹0›,#[Zs,(Zcs K),T.b.n_len,Qr,#[Za,‹1›,#[Zg]]]],#[Zf,#[ZaE,‹0›,#[Zh]],#[Zf,#[ZaE,‹0›,#[Zh]],#[Zf,#[ZaE,‹0›,(@ZfO _ _)],#[Zf,#[ZaE,‹0›,#[ZZ]],#[Zi,#[ZaG,#[Zdb,f_Merge_play_all,T.cl_Merge,hr,‹0›]]]]]]]]]],?_⟩
 refine fun rd hrd=>?_
 have nmr:m≠rd:=Zb hm hrd
 have s1:=Zk hrd (.dK [])
 have hr1:(upd H rd (.dK [])) rd=some (.dK (kvM [])):=Ze
 have hm1:=s1 _ _ hm
 generalize upd H rd (.dK [])=H1 at s1 hr1 hm1 ⊢
 refine⟨_,rfl,xw4 m cMerge dx _ ⟨rfl,hm1,T.cl_Merge,T.na_Merge_rows,(by show 0<1000;decide),?_⟩⟩
 have nrm:r≠m:=fun z=>by have:=hrs.at';rw[z,hm]at this;cases this
 have k2:∀b o,H b=some o→b≠m→(upd H1 m (.ins cMerge dx (Zl "rows" (.ref rd) []))) b=some o:=fun b o hb n=>by rw[Zc n];exact s1 b o hb
 have hm2:(upd H1 m (.ins cMerge dx (Zl "rows" (.ref rd) []))) m=some (.ins cMerge dx (Zl "rows" (.ref rd) [])):=Ze
 have hr2:(upd H1 m (.ins cMerge dx (Zl "rows" (.ref rd) []))) rd=some (.dK (kvM [])):=by rw[Zc nmr.symm];exact hr1
 generalize upd H1 m (.ins cMerge dx (Zl "rows" (.ref rd) []))=H2 at k2 hm2 hr2 ⊢
 have hfew:=hrs.few
 have lkr:(Zl "rows" (.ref rd) []).lookup ("rows" : Str)=some (V.ref rd):=by rw[Zj,if_pos rfl]
 refine⟨_,rfl,r,_,rfl,SqL.of (k2 _ _ hrs.at' nrm),?_⟩
 refine Zc8 (K:=K) (a:=r) (xs:=rs.map fun x=>V.ref x.1) (fun i σ H5=>∃ (L:List Zan) (v2 v3:Option V),σ=[some (.ref m),some (.ref r),v2,v3]∧H5 m=some (.ins cMerge dx (Zl "rows" (.ref rd) []))∧H5 rd=some (.dK (kvM L))∧(∀e∈L,Zb8 cRow H5 e)∧Zkn L (rs.take i)∧(L.map (·.p)).Nodup∧(∀e∈L,H e.p=none∧H e.k=none∧H e.f=none)∧(∀b o,H b=some o→b≠m→H5 b=some o)) ⟨[],_,_,rfl,hm2,hr2,(fun e h=>by cases h),⟨rfl,rfl⟩,List.nodup_nil,(fun e h=>by cases h),k2⟩ (fun i σ H5 hq=>by obtain⟨_,_,_,_,_,_,_,_,_,_,k5⟩:=hq;exact SqL.of (k5 _ _ hrs.at' nrm)) ?_ ?_
 ·rintro i y σ H5 p hy ⟨L,v2,v3,rfl,hm5,hr5,each,⟨n1,n2⟩,pd,hfr,k5⟩ hp
  rw[Qt]at hy
  cases hz:rs[i]? with
  | none=>rw[hz]at hy;cases hy
  | some x =>
  rw[hz]at hy
  cases hy
  have hil:i<rs.length:=(Qk.mp hz).1
  have hxm:=Qs hz
  obtain⟨lx,l100,laz⟩:=hrs.lst x hxm
  have nxm:x.1≠m:=fun z=>by rw[z,hm]at lx;cases lx
  have hLl:L.length=i:=by have:=congrArg List.length n1;unfold Zam at this;rw[Qb,Zes,QC]at this;omega
  have hlt:∀e∈L,e.n≠(i:Int):=fun e he z=>by
   have h1:e.n∈ZeK 0 (rs.take i).length:=by rw[← n1];exact QF (f:=fun e:Zan=>e.n) he
   unfold ZeK at h1
   obtain⟨j,hj,ej⟩:=QM.mp h1
   have:=List.mem_range.mp hj
   rw[QC]at this
   omega
  have sp:=Zk hp (.tup [.int (i:Int),.ref x.1])
  have hp6:(upd H5 p (.tup [.int (i:Int),.ref x.1])) p=some (.tup [.int (i:Int),.ref x.1]):=Ze
  generalize upd H5 p (.tup [.int (i:Int),.ref x.1])=H6 at sp hp6 ⊢
  refine⟨p,_,rfl,SqT.of hp6,rfl,_,_,rfl,_,_,rfl,rfl,?_⟩
  have lx6:H6 x.1=some (.lst (x.2.map V.str)):=sp _ _ (k5 _ _ lx nxm)
  refine⟨_,rfl,_,rfl,(i:Int),x.1,x.2,rfl,SqL.of lx6,by omega,fun s hs=>(laz s hs).1,ZfY (hsrt x hxm),fun H7 s7=>?_⟩
  have s57:=sp.trans s7
  refine⟨_,rfl,fun u dy hu hdy ndu=>?_⟩
  have hu5:H5 u=none:=s57.free hu
  have lx8:(upd (upd H7 dy (.own u)) u (.ins cRow dy [])) x.1=some (.lst (x.2.map V.str)):=by
   have:=s7 _ _ lx6
   rw[Zc (Zb this hu),Zc (Zb this hdy)];exact this
  have s8:∀b o,H5 b=some o→(upd (upd H7 dy (.own u)) u (.ins cRow dy [])) b=some o:=fun b o hb=>by
   have:=s57 _ _ hb
   rw[Zc (Zb this hu),Zc (Zb this hdy)];exact this
  have hu8:(upd (upd H7 dy (.own u)) u (.ins cRow dy [])) u=some (.ins cRow dy []):=Ze
  generalize upd (upd H7 dy (.own u)) u (.ins cRow dy [])=H8 at lx8 s8 hu8 ⊢
  refine⟨u,dy,x.1,x.2,rfl,hu8,lx8,l100,fun s hs=>(laz s hs).1,fun k f H9 hk hf nkf R k9=>⟨rfl,?_⟩⟩
  have s9:∀b o,H5 b=some o→H9 b=some o:=fun b o hb=>k9 b o (s8 b o hb) (Zb hb hu5)
  have free5:∀b,H8 b=none→H5 b=none:=fun b hb=>by
   cases e:H5 b with
   | none=>rfl
   | some o=>rw[s8 b o e]at hb;cases hb
  have free0:∀b,b≠m→H5 b=none→H b=none:=fun b nb hb=>by
   cases e:H b with
   | none=>rfl
   | some o=>rw[k5 b o e nb]at hb;cases hb
  have num:u≠m:=fun z=>by rw[z,hm5]at hu5;cases hu5
  have nkm:k≠m:=fun z=>by have:=free5 k hk;rw[z,hm5]at this;cases this
  have nfm:f≠m:=fun z=>by have:=free5 f hf;rw[z,hm5]at this;cases this
  have nrd:rd≠u∧rd≠k∧rd≠f:=⟨Zb hr5 hu5,Zb hr5 (free5 k hk),Zb hr5 (free5 f hf)⟩
  have hsz:(kvM L).length<sizeLine:=by unfold kvM;rw[Qb];exact Zp (by omega)
  have hn1:ZaX (kvM L) (.inl (i:Int))=none:=by
   cases hv:ZaX (kvM L) (.inl (i:Int)) with
   | none=>rfl
   | some v=>obtain⟨e,he,z⟩:=QM.mp (Zeu hv);injection z with z _;exact absurd (Sum.inl.inj z) (hlt e he)
  refine⟨_,rfl,xw5 m cMerge dx _ _ ⟨rfl,s9 _ _ hm5,T.cl_Merge,T.na_Merge_rows,lkr,_,rfl,rd,_,rfl,ZdZ.k (k:=.inl (i:Int)) (s9 _ _ hr5) hsz,?_⟩⟩
  rw[Zek _ hn1,show kvM L++[((.inl (i:Int):Key),V.ref u)]=kvM (L++[⟨(i:Int),u,k,f,x.2,0⟩]) by unfold kvM;rw[Qh];rfl]
  refine⟨L++[⟨(i:Int),u,k,f,x.2,0⟩],_,_,rfl,by rw[Zc nmr];exact s9 _ _ hm5,Ze,fun e he=>?_,⟨?_,?_⟩,?_,fun e he=>?_,fun b o hb n=>?_⟩
  ·rcases Qg.mp he with he|he
   ·have re:=each e he
    obtain⟨de,hde⟩:=re.at'.ob
    refine re.mono fun b o hb hor=>?_
    have nb:b≠rd:=fun z=>by
     rw[z,hr5]at hb
     injection hb with hb
     subst hb
     rcases hor with z2|z2|z2
     ·rw[← z2,z,hr5]at hde;cases hde
     ·have:=re.at'.ks;rw[← z2,z,hr5]at this;cases this
     ·have:=re.at'.fs;rw[← z2,z,hr5]at this;cases this
    rw[Zc nb];exact s9 b o hb
   ·rw[Qj.mp he]
    refine Zb8.keep (H:=H9) ⟨R,Qu _,l100,hsrt x hxm,laz⟩ (Zc nrd.1.symm) (Zc nrd.2.1.symm) (Zc nrd.2.2.symm)
  ·unfold Zam at n1 ⊢
   rw[Qh,n1,QC,QC,Nat.min_eq_left (by omega),Nat.min_eq_left (by omega)]
   unfold ZeK
   rw[List.range_succ,Qh]
   simp
  ·rw[Qh,n2,List.take_add_one,hz,Qh];rfl
  ·rw[Qh]
   refine List.nodup_append.mpr ⟨pd,by simp,fun a ha b hb=>?_⟩
   obtain⟨e,he,rfl⟩:=QM.mp ha
   have:b=u:=by simpa using hb
   rw[this]
   obtain⟨de,hde⟩:=(each e he).at'.ob
   exact Zb hde hu5
  ·rcases Qg.mp he with he|he
   ·exact hfr e he
   ·rw[Qj.mp he]
    exact⟨free0 u num hu5,free0 k nkm (free5 k hk),free0 f nfm (free5 f hf)⟩
  ·rw[Zc (Zb hb hrd)];exact s9 b o (k5 b o hb n)
 ·rintro σ H5 ⟨L,v2,v3,rfl,hm5,hr5,each,hnew,pd,hfr,k5⟩
  rw[Qb,Q0 (Qe _)]at hnew
  have p1:=ZaB "rows" (V.ref rd) []
  have p2:=ZaB "next_number" (V.int (rs.length:Int)) (Zl "rows" (.ref rd) [])
  have p3:=ZaB "likened" (V.int 0) (Zl "next_number" (.int (rs.length:Int)) (Zl "rows" (.ref rd) []))
  have p4:=ZaB "looked" (V.int 0) (Zl "likened" (.int 0) (Zl "next_number" (.int (rs.length:Int)) (Zl "rows" (.ref rd) [])))
  have p0:([]:List (Str×V)).length=0:=rfl
  refine⟨_,rfl,r,_,rfl,.inl (SqL.of (k5 _ _ hrs.at' nrm)),_,rfl,xw4 m cMerge dx _ ⟨rfl,hm5,T.cl_Merge,T.na_Merge_next_number,by omega,?_⟩⟩
  rw[Qb]
  refine⟨_,rfl,xw4 m cMerge dx _ ⟨rfl,Ze,T.cl_Merge,T.na_Merge_likened,by omega,?_⟩⟩
  refine⟨_,rfl,xw4 m cMerge dx _ ⟨rfl,Ze,T.cl_Merge,T.na_Merge_looked,by omega,?_⟩⟩
  have k8:∀b,b≠m→(upd (upd (upd H5 m (.ins cMerge dx (Zl "next_number" (.int (rs.length:Int)) (Zl "rows" (.ref rd) [])))) m (.ins cMerge dx (Zl "likened" (.int 0) (Zl "next_number" (.int (rs.length:Int)) (Zl "rows" (.ref rd) []))))) m (.ins cMerge dx (Zl "looked" (.int 0) (Zl "likened" (.int 0) (Zl "next_number" (.int (rs.length:Int)) (Zl "rows" (.ref rd) [])))))) b=H5 b:=fun b n=>by rw[Zc n,Zc n,Zc n]
  have hm8:(upd (upd (upd H5 m (.ins cMerge dx (Zl "next_number" (.int (rs.length:Int)) (Zl "rows" (.ref rd) [])))) m (.ins cMerge dx (Zl "likened" (.int 0) (Zl "next_number" (.int (rs.length:Int)) (Zl "rows" (.ref rd) []))))) m (.ins cMerge dx (Zl "looked" (.int 0) (Zl "likened" (.int 0) (Zl "next_number" (.int (rs.length:Int)) (Zl "rows" (.ref rd) [])))))) m=some (.ins cMerge dx (Zl "looked" (.int 0) (Zl "likened" (.int 0) (Zl "next_number" (.int (rs.length:Int)) (Zl "rows" (.ref rd) []))))):=Ze
  generalize (upd (upd (upd H5 m (.ins cMerge dx (Zl "next_number" (.int (rs.length:Int)) (Zl "rows" (.ref rd) [])))) m (.ins cMerge dx (Zl "likened" (.int 0) (Zl "next_number" (.int (rs.length:Int)) (Zl "rows" (.ref rd) []))))) m (.ins cMerge dx (Zl "looked" (.int 0) (Zl "likened" (.int 0) (Zl "next_number" (.int (rs.length:Int)) (Zl "rows" (.ref rd) []))))))=H8 at k8 hm8 ⊢
  refine fun sd hsd=>?_
  have nms:m≠sd:=Zb hm8 hsd
  have p5:=ZaB "stays" (V.ref sd) (Zl "looked" (.int 0) (Zl "likened" (.int 0) (Zl "next_number" (.int (rs.length:Int)) (Zl "rows" (.ref rd) []))))
  refine⟨_,rfl,xw4 m cMerge dx _ ⟨rfl,by rw[Zc nms];exact hm8,T.cl_Merge,T.na_Merge_stays,by omega,?_⟩⟩
  refine⟨_,rfl,xw4 m cMerge dx _ ⟨rfl,Ze,T.cl_Merge,T.na_Merge_best,by omega,?_⟩⟩
  have hsd5:H5 sd=none:=by rw[← k8 sd nms.symm];exact hsd
  have hm9:(upd (upd (upd H8 sd (.dT [])) m (.ins cMerge dx (Zl "stays" (.ref sd) (Zl "looked" (.int 0) (Zl "likened" (.int 0) (Zl "next_number" (.int (rs.length:Int)) (Zl "rows" (.ref rd) []))))))) m (.ins cMerge dx (Zl "best" .non (Zl "stays" (.ref sd) (Zl "looked" (.int 0) (Zl "likened" (.int 0) (Zl "next_number" (.int (rs.length:Int)) (Zl "rows" (.ref rd) [])))))))) m=some (.ins cMerge dx (mgF rd (rs.length:Int) 0 0 sd .non)):=by rw[ZaL];exact Ze
  have hs9:(upd (upd (upd H8 sd (.dT [])) m (.ins cMerge dx (Zl "stays" (.ref sd) (Zl "looked" (.int 0) (Zl "likened" (.int 0) (Zl "next_number" (.int (rs.length:Int)) (Zl "rows" (.ref rd) []))))))) m (.ins cMerge dx (Zl "best" .non (Zl "stays" (.ref sd) (Zl "looked" (.int 0) (Zl "likened" (.int 0) (Zl "next_number" (.int (rs.length:Int)) (Zl "rows" (.ref rd) [])))))))) sd=some (.dT (kvS [])):=by rw[Zc nms.symm,Zc nms.symm];exact Ze
  have k9:∀b o,H5 b=some o→b≠m→(upd (upd (upd H8 sd (.dT [])) m (.ins cMerge dx (Zl "stays" (.ref sd) (Zl "looked" (.int 0) (Zl "likened" (.int 0) (Zl "next_number" (.int (rs.length:Int)) (Zl "rows" (.ref rd) []))))))) m (.ins cMerge dx (Zl "best" .non (Zl "stays" (.ref sd) (Zl "looked" (.int 0) (Zl "likened" (.int 0) (Zl "next_number" (.int (rs.length:Int)) (Zl "rows" (.ref rd) [])))))))) b=some o:=fun b o hb n=>by rw[Zc n,Zc n,Zc (Zb hb hsd5),k8 b n];exact hb
  generalize (upd (upd (upd H8 sd (.dT [])) m (.ins cMerge dx (Zl "stays" (.ref sd) (Zl "looked" (.int 0) (Zl "likened" (.int 0) (Zl "next_number" (.int (rs.length:Int)) (Zl "rows" (.ref rd) []))))))) m (.ins cMerge dx (Zl "best" .non (Zl "stays" (.ref sd) (Zl "looked" (.int 0) (Zl "likened" (.int 0) (Zl "next_number" (.int (rs.length:Int)) (Zl "rows" (.ref rd) []))))))))=H9 at hm9 hs9 k9 ⊢
  have hLl:L.length=rs.length:=by have:=congrArg List.length hnew.1;unfold Zam at this;rw[Qb,Zes]at this;exact this
  have M9:Zah cRow cMerge H9 m rd sd L [] (rs.length:Int) 0 0 .non:=by
   refine⟨⟨dx,hm9⟩,k9 _ _ hr5 nmr.symm,hs9,(fun e he=>by cases he),fun e he=>?_,by rw[hnew.1];exact ZgS _,pd,by omega,by decide⟩
   have re:=each e he
   obtain⟨de,hde⟩:=re.at'.ob
   refine re.mono fun b o hb hor=>k9 b o hb fun z=>?_
   have hf:=hfr e he
   have hm':=hm
   rw[← z]at hm'
   rcases hor with z2|z2|z2
   ·rw[z2,hf.1]at hm';cases hm'
   ·rw[z2,hf.2.1]at hm';cases hm'
   ·rw[z2,hf.2.2]at hm';cases hm'
  refine⟨_,rfl,m,dx,_,rfl,hm9,ZcZ ..,m,rd,sd,L,[],_,0,0,.non,rfl,M9,fun sd' s' w1 k q' H10 hsd' W S Pl M10 b10=>?_⟩
  have free0:∀b,b≠m→H9 b=none→H b=none:=fun b nb hb=>by
   cases e:H b with
   | none=>rfl
   | some o=>rw[k9 b o (k5 b o e nb) nb]at hb;cases hb
  refine q rd sd' L s' w1 k q' H10 (M10.cast (by omega) (by omega)) hnew W S Pl (fun b hb=>?_) (fun b o hb n=>b10 b o (k9 b o (k5 b o hb n) n) n)
  rcases hb with rfl|rfl|rfl|⟨e,he,hb⟩
  ·exact .inl rfl
  ·exact .inr hrd
  ·exact .inr (free0 _ (fun z=>by rw[z,hm9]at hsd';cases hsd') hsd')
  ·have hf:=hfr e he
   rcases hb with rfl|rfl|rfl
   ·exact .inr hf.1
   ·exact .inr hf.2.1
   ·exact .inr hf.2.2
def Zj3(cR cM:Addr):Sp:=fun vs H Q _=>∃ (m rd sd:Addr) (L:List Zan) (s:StL) (nb li lo:Int) (best:V),vs=[.ref m]∧Zah cR cM H m rd sd L s nb li lo best∧Q (.int lo) H
theorem Zhr(T:Zag K mg cRow cMerge cMergeError cFull cNoRow cOutOfOrder cBadLine):Mf P w K mg base 1 cMerge "looks" ["self"] (Zj3 cRow cMerge):=by
 refine T.t_Merge_looks.mf ZcQ (fun vs H Q E h=>?_) (fun cdv f A outer s H vs Q E hr h=>?_)
 ·obtain⟨m,rd,sd,L,s,nb,li,lo,best,rfl,_⟩:=h
  rfl
 obtain⟨m,rd,sd,L,s,nb,li,lo,best,rfl,M,q⟩:=h
 refine⟨_,#[Zi,#[Zu,#[Zax,‹0›]]],?_⟩
 obtain⟨dx,hm⟩:=M.ob
 exact⟨_,rfl,xw5 m cMerge dx _ _ ⟨rfl,hm,T.cl_Merge,T.na_Merge_looked,Zc5 ..,q⟩⟩
structure F2 (R:V→V→Prop) (xs ys:List V):Prop where
 len:xs.length=ys.length
 at':∀ (i:Nat) (x y:V),xs[i]? = some x→ys[i]? = some y→R x y
def ZaT(rs:List (Addr×List Str)):PyData:=.list (rs.map fun x=>.list (x.2.map PyData.str))
theorem ZcV:∀rs:List (Addr×List Str),(∀x∈rs,∀s∈x.2,AZ s)→PyData.canLayAll0 (rs.map fun x=>PyData.list (x.2.map PyData.str))=true∧PyData.depthAll (rs.map fun x=>PyData.list (x.2.map PyData.str))≤1
 | [],_=>⟨rfl,by simp[PyData.depthAll]⟩
 | x::r,h=>by
  obtain⟨a,b⟩:=ZcV r fun y hy=>h y (Qo _ hy)
  have hz:=Zdg x.2 (h x (by simp))
  refine⟨by simp[PyData.canLayAll0,PyData.canLay0,hz,a],?_⟩
  rw[Qx]
  simp only[PyData.depthAll,PyData.depth,ZbT]
  omega
theorem Zcl(rs:List (Addr×List Str))(h:∀x∈rs,∀s∈x.2,AZ s):SeqAt.shaped (ZaT rs)=true:=by
 obtain⟨a,b⟩:=ZcV rs h
 have h1:PyData.canLay0 (ZaT rs)=true:=by unfold ZaT;simp only[PyData.canLay0,a]
 have h2:PyData.depth (ZaT rs)≤64:=by unfold ZaT;simp only[PyData.depth];omega
 unfold SeqAt.shaped
 rw[h1,decide_eq_true h2];rfl
theorem ZgX(rs:List (Addr×List Str))(h:∀x∈rs,∀s∈x.2,AZ s):PyData.eqv (ZaT rs) (ZaT rs)=true:=SeqAt.eqv_refl _ (by unfold ZaT;simp only[PyData.canLay0,(ZcV rs h).1])
theorem dv_rows'{K:PySem.W.Frag}{H:Hp}:∀rs:List (Addr×List Str),(∀x∈rs,H x.1=some (.lst (x.2.map V.str)))→DVs K H (rs.map fun x=>V.ref x.1) (rs.map fun x=>PyData.list (x.2.map PyData.str))
 | [],_=>.nil
 | x::r,h=>.cons (.lst (SqL.of (h x (by simp))) (Zd8 _)) (dv_rows' r fun y hy=>h y (Qo _ hy))
theorem ZfA{K:PySem.W.Frag}{H:Hp}{r:Addr}{rs:List (Addr×List Str)}(h:ZY H r rs):DV K H (.ref r) (ZaT rs):=.lst (SqL.of h.at') (dv_rows' rs fun x hx=>(h.lst x hx).1)
theorem Zhn{rs hs:List (Addr×List Str)}(e:rs.map (·.2)=hs.map (·.2)):ZaT rs=ZaT hs:=by
 unfold ZaT
 have:=congrArg (List.map fun y:List Str=>PyData.list (y.map PyData.str)) e
 rw[QW,QW]at this
 exact congrArg PyData.list this
theorem Za7{a:Int}(h0:0≤a)(h:a<1000000):a.natAbs.log2<1920:=by
 by_cases z:a.natAbs=0
 ·rw[z];decide
 ·have h20:a.natAbs<2 ^ 20:=by omega
  exact Qf ((Nat.log2_lt z).mpr h20) (by decide)
theorem Zf3{a:Int}(h:a.natAbs.log2<1920):(Str.ofString (toString a)).length≤1921:=by
 have e:=int_text_length_le (k:=1920) (by decide) h
 rw[PySem.ofString_length];omega
def xfs(r p:Int):List (Str×V):=[("row",.int r),("place",.int p)]
def Zfx(C:Addr):Sp:=fun vs H Q _=>∃ (e:Addr) (r p:Int),vs=[.ref e,.int r,.int p]∧H e=some (exN e C none)∧0≤r∧r<1000000∧0≤p∧p<1000000 ∧
 ∀dx,H dx=none→dx≠e→Q .non (upd (upd H e (exN e C (some dx))) dx (xdO dx (xfs r p)))
theorem ZgP(T:Zag K mg cRow cMerge cMergeError cFull cNoRow cOutOfOrder cBadLine):Xf P w K mg base 1 cOutOfOrder cMergeError "OutOfOrder" ["self", "row", "place"] (Zfx cOutOfOrder):=by
 refine T.t_OutOfOrder_init.xf ZbR (fun vs H Q E h=>?_) (fun cdv f A outer s H vs Q E hr hM h=>?_)
 ·obtain⟨e,r,p,rfl,_⟩:=h
  rfl
 obtain⟨e,r,p,rfl,he,r0,r1,p0,p1,q⟩:=h
 refine⟨_,#[Zf,#[ZaG,(@ZhO _ _ _ _ _ _ _ _ _ _ _ _ hM T.xb_MergeError rfl T.m_MergeError #[Za,‹0›,#[Za,(@Zf4 _ _ _ _ _ _ (@ZbY _ _ _ _ _ #[Zz] (@ZbY _ _ _ _ _ (@ZfE _ _ _ _ ‹1›) (@ZbY _ _ _ _ _ #[Zz] (@ZbY _ _ _ _ _ (@ZfE _ _ _ _ ‹2›) (@ZbY _ _ _ _ _ #[Zz] (@Zjq _))))))),#[Zg]]] (by decide) (by rfl) (by rfl) (by rfl))],#[Zf,(@Zkr _ _ _ _ _ _ _ _ _ _ hM.xc T.na_OutOfOrder_row ‹0› ‹1› (by rfl)),#[Zi,(@Zka _ _ _ _ _ _ _ _ _ _ hM.xc T.na_OutOfOrder_place ‹0› ‹2› (by rfl))]]],?_⟩
 have lr:=Za7 r0 r1
 have lp:=Za7 p0 p1
 have tr:=Zf3 lr
 have tp:=Zf3 lp
 have z:∀ {x y:Str} {n m:Nat},x.length≤n→y.length≤m→n+m≤10000→(x++y).length≤n+m:=fun a b c=>by rw[strLen_append];omega
 have y:∀ {x:Str},x.length≤10000→x.length≤sizeLine:=fun h=>by rw[sizeLine_eq];omega
 have a1:(Str.empty++("row " : Str)).length≤0+4:=z (by decide) (by decide) (by decide)
 have a2:=z a1 tr (by decide)
 have a3:=z a2 (show (": the key at place " : Str).length≤19 by decide) (by decide)
 have a4:=z a3 tp (by decide)
 have a5:=z a4 (show (" is less than the one ahead" : Str).length≤27 by decide) (by decide)
 refine⟨_,rfl,_,rfl,y (Qq a1 (by decide)),_,rfl,_,rfl,lr,_,rfl,y (Qq a2 (by decide)),_,rfl,y (Qq a3 (by decide)),_,rfl,_,rfl,lp,_,rfl,y (Qq a4 (by decide)),_,rfl,y (Qq a5 (by decide)),y (Qq a5 (by decide)),e,_,none,rfl,he,?_⟩
 refine⟨_,rfl,_,rfl,e,rfl,he,fun dx hd ne=>?_⟩
 refine⟨_,rfl,_,rfl,e,dx,_,rfl,by rw[Zc ne.symm];exact Ze,Ze,ne,by show 1<1000;decide,?_⟩
 rw[Zid]
 exact q dx hd ne
def ZkR(cO:Addr)(H:Hp)(n j:Int)(E:XK):Prop:=∀ (dx:Addr) (H':Hp),ZH H H'→H dx=none→H' dx=some (xdO dx (xfs n j))→E (.ref cO) (some dx) H'
def ZdJ(K:PySem.W.Frag)(cO:Addr):Sp:=fun vs H Q E=>∃ (n:Int) (a:Addr) (ss:List Str),vs=[.int n,.ref a]∧SqL K H a (ss.map V.str)∧ss.length≤200∧(∀s∈ss,s.length≤1000) ∧
 ((ZbN ss .non∧∀H',ZH H H'→Q .non H')∨∃j:Int,ZbN ss (.int j)∧0≤n∧n<1000000∧ZkR cO H n j E)
theorem Zfh(T:Zag K mg cRow cMerge cMergeError cFull cNoRow cOutOfOrder cBadLine)(f_first_break:Df P w K mg base 4 "first_break" ["keys"] (ZfC K))(f_OutOfOrder_init:Xf P w K mg base 1 cOutOfOrder cMergeError "OutOfOrder" ["self", "row", "place"] (Zfx cOutOfOrder)) :
  D1f P w K mg base 5 "refuse_break" ["number", "keys"] (ZdJ K cOutOfOrder):=by
 refine T.t_refuse_break.df1 Zal (fun vs H Q E h=>?_) (fun cdv f A outer s H vs Q E hr h=>?_)
 ·obtain⟨n,a,ss,rfl,_⟩:=h
  rfl
 obtain⟨n,a,ss,rfl,hS,h200,h1000,hor⟩:=h
 refine⟨_,#[Zf,#[Zy,2,Zal.nd,(Or.inl rfl),#[ZD,f_first_break,hr,#[Za,‹1›,#[Zg]],(by rfl)]],#[Zi,#[Zak,#[Zr,Zec,‹2›,#[ZZ],(Zw _)],#[Zi,(@Zkb _ _ _ _ _ _ _ _ _ _ _ _ _ _ _ f_OutOfOrder_init (fun _ _ h=>h.unwish) hr #[Za,‹0›,#[Za,‹2›,#[Zg]]] (by decide) (by trivial) (by rfl) (by decide) (by rfl) (by rfl))],(@ZL _)]]],?_⟩
 refine⟨_,rfl,a,ss,rfl,hS,h200,h1000,fun v H1 hb s1=>?_⟩
 rcases hor with⟨hnon,q⟩|⟨j,hbrk,n0,n1,q⟩
 ·have e:=Zd4 hb hnon
  subst e
  exact⟨_,rfl,rfl,_,rfl,Zcu (q H1 s1)⟩
 have e:=Zd4 hb hbrk
 subst e
 have hj:0≤j∧j<1000000:=by
  rcases hbrk with⟨z,_⟩|⟨k,z,hk,_⟩
  ·cases z
  ·cases z;omega
 refine⟨_,rfl,rfl,_,rfl,Zh6 ?_⟩
 refine⟨_,rfl,_,rfl,fun e he=>⟨e,n,j,rfl,Ze,n0,n1,hj.1,hj.2,fun dx hd ne=>⟨rfl,some dx,by rw[Zc ne.symm];exact Ze,?_⟩⟩⟩
 have hd1:H1 dx=none:=by rw[Zc ne]at hd;exact hd
 refine q dx _ (fun b o hb=>?_) (s1.free hd1) (ZbS Ze ne)
 have hb1:=s1 b o hb
 have nbe:b≠e:=Zb hb1 he
 exact ZbS (by rw[Zc (Zb hb1 hd1),Zc nbe,Zc nbe];exact hb1) nbe
def Zb7(cM cO:Addr):Sp:=fun vs H Q E=>∃ (m dx r:Addr) (rs:List (Addr×List Str)) (i:Nat) (x:Addr×List Str) (j:Int),vs=[.ref m,.ref r]∧H m=some (.ins cM dx [])∧ZY H r rs∧(∀k y,k<i→rs[k]? = some y→sortedS y.2=true)∧rs[i]? = some x∧ZbN x.2 (.int j) ∧
 ∀ (d:Addr) (H':Hp),(∀b o,H b=some o→b≠m→H' b=some o)→H d=none→H' d=some (xdO d (xfs (i:Int) j))→E (.ref cO) (some d) H'
theorem ZcE(T:Zag K mg cRow cMerge cMergeError cFull cNoRow cOutOfOrder cBadLine)(f_refuse_break1:D1f P w K mg base 5 "refuse_break" ["number", "keys"] (ZdJ K cOutOfOrder))(f_Row_init:Cf P w K mg base 4 cRow "Row" ["self", "keys"] (Zce cRow)) :
  C1f P w K mg base 14 cMerge "Merge" ["self", "rows"] (Zb7 cMerge cOutOfOrder):=by
 refine T.t_Merge_init.cf1 Z8 (fun vs H Q E h=>?_) (fun cdv f A outer s H vs Q E hr h=>?_)
 ·obtain⟨m,dx,r,rs,i,x,j,rfl,_⟩:=h
  rfl
 obtain⟨m,dx,r,rs,i0,x0,j,rfl,hm,hrs,hsrt,hx0,hbrk,q⟩:=h
 refine⟨_,#[Zf,#[ZaE,‹0›,(@Zey _ _)],#[Zf,#[ZbW,(Zld ⟨rfl,rfl⟩),#[iE,K,T.b.n_enumerate,#[Za,‹1›,#[Zg]]],#[gT,K,2,#[ZK,#[ZJ,2,Z8.nd],#[ZK,#[ZJ,3,Z8.nd],(@Zbf _)]]],#[Zf,#[ZaG,(@Zjg _ _ _ _ _ _ _ _ _ _ _ _ f_refuse_break1 (fun _ _ h=>h.unwish) hr #[Za,‹2›,#[Za,‹3›,#[Zg]]] (by trivial) (by rfl) (by decide) (by rfl) (by rfl))],#[Zi,#[Zbe,#[Zhu,f_Row_init,hr,#[Za,‹3›,#[Zg]]],#[Zcj,#[Zax,‹0›],‹2›,(Zji hr)]]]]],#[Zf,#[ZW],#[Zf,#[ZW],#[Zf,#[ZW],#[Zf,#[ZW],#[Zf,#[ZW],#[Zi,#[ZW]]]]]]]]],?_⟩
 refine fun rd hrd=>?_
 have nmr:m≠rd:=Zb hm hrd
 have s1:=Zk hrd (.dK [])
 have hr1:(upd H rd (.dK [])) rd=some (.dK []):=Ze
 have hm1:=s1 _ _ hm
 generalize upd H rd (.dK [])=H1 at s1 hr1 hm1 ⊢
 refine⟨_,rfl,xw4 m cMerge dx _ ⟨rfl,hm1,T.cl_Merge,T.na_Merge_rows,(by show 0<1000;decide),?_⟩⟩
 have nrm:r≠m:=fun z=>by have:=hrs.at';rw[z,hm]at this;cases this
 have k2:∀b o,H b=some o→b≠m→(upd H1 m (.ins cMerge dx (Zl "rows" (.ref rd) []))) b=some o:=fun b o hb n=>by rw[Zc n];exact s1 b o hb
 have hm2:(upd H1 m (.ins cMerge dx (Zl "rows" (.ref rd) []))) m=some (.ins cMerge dx (Zl "rows" (.ref rd) [])):=Ze
 have hr2:(upd H1 m (.ins cMerge dx (Zl "rows" (.ref rd) []))) rd=some (.dK []):=by rw[Zc nmr.symm];exact hr1
 generalize upd H1 m (.ins cMerge dx (Zl "rows" (.ref rd) []))=H2 at k2 hm2 hr2 ⊢
 have hfew:=hrs.few
 have hi0:i0<rs.length:=(Qk.mp hx0).1
 have lkr:(Zl "rows" (.ref rd) []).lookup ("rows" : Str)=some (V.ref rd):=by rw[Zj,if_pos rfl]
 refine⟨_,rfl,r,_,rfl,SqL.of (k2 _ _ hrs.at' nrm),?_⟩
 refine Zc8 (K:=K) (a:=r) (xs:=rs.map fun x=>V.ref x.1) (fun i σ H5=>∃ (kvs:List (Key×V)) (v2 v3:Option V),σ=[some (.ref m),some (.ref r),v2,v3]∧i≤i0∧H5 m=some (.ins cMerge dx (Zl "rows" (.ref rd) []))∧H5 rd=some (.dK kvs)∧kvs.map (·.1)=(List.range i).map (fun n:Nat=>(Sum.inl (n:Int):Key))∧(∀b o,H b=some o→b≠m→H5 b=some o)) ⟨[],_,_,rfl,Qu _,hm2,hr2,rfl,k2⟩ (fun i σ H5 hq=>by obtain⟨_,_,_,_,_,_,_,_,k5⟩:=hq;exact SqL.of (k5 _ _ hrs.at' nrm)) ?_ ?_
 ·rintro i y σ H5 p hy ⟨kvs,v2,v3,rfl,hle,hm5,hr5,hks,k5⟩ hp
  rw[Qt]at hy
  cases hz:rs[i]? with
  | none=>rw[hz]at hy;cases hy
  | some x =>
  rw[hz]at hy
  cases hy
  have hxm:=Qs hz
  obtain⟨lx,l100,laz⟩:=hrs.lst x hxm
  have nxm:x.1≠m:=fun z=>by rw[z,hm]at lx;cases lx
  have sp:=Zk hp (.tup [.int (i:Int),.ref x.1])
  have hp6:(upd H5 p (.tup [.int (i:Int),.ref x.1])) p=some (.tup [.int (i:Int),.ref x.1]):=Ze
  generalize upd H5 p (.tup [.int (i:Int),.ref x.1])=H6 at sp hp6 ⊢
  refine⟨p,_,rfl,SqT.of hp6,rfl,_,_,rfl,_,_,rfl,rfl,?_⟩
  have lx6:H6 x.1=some (.lst (x.2.map V.str)):=sp _ _ (k5 _ _ lx nxm)
  refine⟨_,rfl,_,rfl,(i:Int),x.1,x.2,rfl,SqL.of lx6,by omega,fun s hs=>(laz s hs).1,?_⟩
  have free0:∀b,b≠m→H5 b=none→H b=none:=fun b nb hb=>by
   cases e:H b with
   | none=>rfl
   | some o=>rw[k5 b o e nb]at hb;cases hb
  rcases(Nat.lt_or_ge i i0).symm with hge|hlt
  ·obtain rfl:i=i0:=Nat.le_antisymm hle hge
   obtain rfl:x=x0:=Ql (hz.symm.trans hx0)
   refine .inr ⟨j,hbrk,by omega,by omega,fun d H7 s7 hd h7=>q d H7 (fun b o hb n=>s7 _ _ (sp _ _ (k5 b o hb n))) ?_ h7⟩
   have hd5:H5 d=none:=sp.free hd
   exact free0 d (fun z=>by rw[z,hm5]at hd5;cases hd5) hd5
  refine .inl ⟨ZfY (hsrt i x hlt hz),fun H7 s7=>?_⟩
  have s57:=sp.trans s7
  refine⟨_,rfl,fun u dy hu hdy ndu=>?_⟩
  have hu5:H5 u=none:=s57.free hu
  have lx8:(upd (upd H7 dy (.own u)) u (.ins cRow dy [])) x.1=some (.lst (x.2.map V.str)):=by
   have:=s7 _ _ lx6
   rw[Zc (Zb this hu),Zc (Zb this hdy)];exact this
  have s8:∀b o,H5 b=some o→(upd (upd H7 dy (.own u)) u (.ins cRow dy [])) b=some o:=fun b o hb=>by
   have:=s57 _ _ hb
   rw[Zc (Zb this hu),Zc (Zb this hdy)];exact this
  have hu8:(upd (upd H7 dy (.own u)) u (.ins cRow dy [])) u=some (.ins cRow dy []):=Ze
  generalize upd (upd H7 dy (.own u)) u (.ins cRow dy [])=H8 at lx8 s8 hu8 ⊢
  refine⟨u,dy,x.1,x.2,rfl,hu8,lx8,l100,fun s hs=>(laz s hs).1,fun k f H9 hk hf nkf R k9=>⟨rfl,?_⟩⟩
  have s9:∀b o,H5 b=some o→H9 b=some o:=fun b o hb=>k9 b o (s8 b o hb) (Zb hb hu5)
  have hkl:kvs.length=i:=by have:=congrArg List.length hks;rw[Qb,Qb,List.length_range]at this;exact this
  have hn1:ZaX kvs (.inl (i:Int))=none:=by
   cases hv:ZaX kvs (.inl (i:Int)) with
   | none=>rfl
   | some v =>
    have hmem:(Sum.inl (i:Int):Key)∈kvs.map (·.1):=QF (f:=fun p:Key×V=>p.1) (Zeu hv)
    rw[hks]at hmem
    obtain⟨n,hn,z⟩:=QM.mp hmem
    have:=List.mem_range.mp hn
    have:=Sum.inl.inj z
    omega
  refine⟨_,rfl,xw5 m cMerge dx _ _ ⟨rfl,s9 _ _ hm5,T.cl_Merge,T.na_Merge_rows,lkr,_,rfl,rd,_,rfl,ZdZ.k (k:=.inl (i:Int)) (s9 _ _ hr5) (Zp (by omega)),?_⟩⟩
  rw[Zek _ hn1]
  refine⟨kvs++[(.inl (i:Int),.ref u)],_,_,rfl,hlt,by rw[Zc nmr];exact s9 _ _ hm5,Ze,?_,fun b o hb n=>?_⟩
  ·rw[Qh,hks,List.range_succ,Qh];rfl
  ·have nb:b≠rd:=Zb hb hrd
   rw[Zc nb];exact s9 b o (k5 b o hb n)
 ·rintro σ H5 ⟨kvs,v2,v3,rfl,hle,_⟩
  rw[Qb]at hle
  omega
theorem Zj1{A B:Prop}(h:B):if (!true)=true then A else B:=Zcu h
def Zjl:Sp:=fun vs H Q _=>∃ (r:Addr) (rs:List (Addr×List Str)),vs=[.str "made",.non,.ref r,.non]∧ZY H r rs∧(∀x∈rs,sortedS x.2=true)∧∀H',ZH H H'→Q .non H'
def ZjE(cO:Addr):Sp:=fun vs H Q _=>∃ (r:Addr) (rs:List (Addr×List Str)) (i:Nat) (x:Addr×List Str) (j:Int),vs=[.str "made",.non,.ref r,.non]∧ZY H r rs∧(∀k y,k<i→rs[k]? = some y→sortedS y.2=true)∧rs[i]? = some x∧ZbN x.2 (.int j) ∧
 ∀ (t:Addr) (H':Hp),ZH H H'→H t=none→H' t=some (.tup [.str "order",.int (i:Int),.int j])→Q (.ref t) H'
def Zgf(cO:Addr):Sp:=fun vs H Q E=>Zjl vs H Q E∨ZjE cO vs H Q E
theorem Zfe(T:Zag K mg cRow cMerge cMergeError cFull cNoRow cOutOfOrder cBadLine)(f_Merge_init:Cf P w K mg base 14 cMerge "Merge" ["self", "rows"] (Zcp cRow cMerge))(f_Merge_init1:C1f P w K mg base 14 cMerge "Merge" ["self", "rows"] (Zb7 cMerge cOutOfOrder)) :
  Df P w K mg base 16 "_law_refused" ["_law_ask", "_law_merge", "_law_given", "_law_more"] (Zgf cOutOfOrder):=by
 refine T.t_l_refused.df ZQ (fun vs H Q E h=>?_) (fun cdv f A outer s H vs Q E hr h=>?_)
 ·rcases h with⟨r,rs,rfl,_⟩|⟨r,rs,i,x,j,rfl,_⟩<;>rfl
 rcases h with h|h
 ·obtain⟨r,rs,rfl,hrs,hsrt,q⟩:=h
  refine⟨_,#[Zf,#[Zy,4,ZQ.nd,(Or.inl rfl),#[ZZ]],#[Zf,(@ZfJ _ _ _ _ _ _ _ _ _ _ _ 5 _ _ (fun pins E=>#[Zi,#[Zak,#[Zr,Zbl,‹0›,#[Zz],(Zw _)],#[Zi,#[ZaG,#[Zhu,f_Merge_init,hr,#[Za,‹2›,#[Zg]]]]],#[Zi,#[ZW]]]]) (fun e=>#[Zi,#[Zy,4,ZQ.nd,(Or.inl rfl),‹5›]]) ⟨rfl,rfl⟩ rfl T.m_MergeError T.x_MergeError rfl ZQ.nd rfl rfl rfl (by decide)),#[Zf,#[Zak,#[Zr,ZcT,‹4›,#[ZZ],(Zw _)],#[Zi,#[Zu,#[ZZ]]],(@ZL _)],#[Zf,#[ZW],#[Zf,#[ZW],#[Zf,#[ZW],#[Zi,#[ZW]]]]]]]],?_⟩
  refine⟨_,rfl,rfl,_,rfl,Zen rfl ?_⟩
  refine⟨_,rfl,fun m dx hm hdx nmd=>?_⟩
  have s7:ZH H (upd (upd H dx (.own m)) m (.ins cMerge dx [])):=fun b o hb=>by rw[Zc (Zb hb hm),Zc (Zb hb hdx)];exact hb
  have hm7:(upd (upd H dx (.own m)) m (.ins cMerge dx [])) m=some (.ins cMerge dx []):=Ze
  generalize upd (upd H dx (.own m)) m (.ins cMerge dx [])=H7 at s7 hm7 ⊢
  refine(xw4 m dx r rs ⟨rfl,hm7,hrs.same s7,hsrt,fun rd sd L st w0 k2 q2 H8 M8 hnewM W8 S8 P8 fp8 k8=>⟨rfl,?_⟩⟩)
  have s8:ZH H H8:=fun b o hb=>k8 b o (s7 b o hb) (Zb hb hm)
  exact⟨_,rfl,rfl,_,rfl,Zen rfl (q H8 s8)⟩
 ·obtain⟨r,rs,i,x,j,rfl,hrs,hsrt,hx,hbrk,q⟩:=h
  refine⟨_,#[Zf,#[Zy,4,ZQ.nd,(Or.inl rfl),#[ZZ]],#[Zf,(@ZfJ _ _ _ _ _ _ _ _ _ _ _ 5 _ _ (fun pins E=>#[Zi,#[Zak,#[Zr,Zbl,‹0›,#[Zz],(Zw _)],#[Zi,#[ZaG,(@Zja _ _ _ _ _ _ _ _ _ _ _ _ _ f_Merge_init1 (fun _ _ h=>h.unwish) hr #[Za,‹2›,#[Zg]] (by trivial) (by rfl) (by decide) (by rfl) (by rfl))]],#[Zi,#[ZW]]]]) (fun e=>#[Zi,#[Zy,4,ZQ.nd,(Or.inl rfl),‹5›]]) ⟨rfl,rfl⟩ rfl T.m_MergeError T.x_MergeError rfl ZQ.nd rfl rfl rfl (by decide)),#[Zf,#[Zak,#[Zr,ZcT,‹4›,#[ZZ],(Zw _)],#[Zi,#[ZW]],(@ZL _)],#[Zf,#[Zy,6,ZQ.nd,(Or.inl rfl),#[Zas,#[Za,#[Zs,(isX K),T.b.n_isinstance,boot_isinstance,#[Za,‹4›,#[Za,#[ZcA,T.m_Full],#[Zg]]]],#[Za,#[Zs,(isX K),T.b.n_isinstance,boot_isinstance,#[Za,‹4›,#[Za,#[ZcA,T.m_NoRow],#[Zg]]]],#[Za,#[Zs,(isX K),T.b.n_isinstance,boot_isinstance,#[Za,‹4›,#[Za,#[ZcA,T.m_OutOfOrder],#[Zg]]]],#[Zg]]]]]],#[Zf,#[Zak,(@PW.pt _ _ _ (@ZfB _ _ _ _ _ _ _ #[Zr,ZiU,#[Zel,QY,PySem.F.slot_list_count,PySem.F.type_list_count,Zi8,‹6›,#[Za,(@ZfZ _ _ _ _),#[Zg]]],#[Zh],(Zw _)] (@ZfB _ _ _ _ _ _ _ (@Zfl _ _ _ #[Zs,(isX K),T.b.n_isinstance,boot_isinstance,#[Za,‹4›,#[Za,#[ZcA,T.m_BadLine],#[Zg]]]] (by intro _;rfl)) (@ZeV _ _ _ _ (@Zjt _ _ _ _ (@Zfl _ _ _ #[Zs,(isX K),T.b.n_isinstance,boot_isinstance,#[Za,‹4›,#[Za,(@Zkl _ _ _ _ T.b.n_ValueError Zcv (by rfl) (by decide) (by decide)),#[Zg]]]] (by intro _;rfl))))))),#[Zi,#[ZW]],(@ZL _)],#[Zf,#[Zak,(@Zfl _ _ _ #[ZI,(ixL K),‹6›,#[Zh]] (by intro _;rfl)),#[Zi,#[Zu,#[Zbh,#[Za,#[Zz],#[Za,(@ZiT _ _ _ _ _ ‹4› (by rfl)),#[Za,(@ZiT _ _ _ _ _ ‹4› (by rfl)),#[Zg]]]]]]],(@ZL _)],#[Zi,#[ZW]]]]]]]],?_⟩
  refine⟨_,rfl,rfl,_,rfl,Zen rfl ?_⟩
  refine⟨_,rfl,fun m dx hm hdx nmd=>?_⟩
  have s7:ZH H (upd (upd H dx (.own m)) m (.ins cMerge dx [])):=fun b o hb=>by rw[Zc (Zb hb hm),Zc (Zb hb hdx)];exact hb
  have hm7:(upd (upd H dx (.own m)) m (.ins cMerge dx [])) m=some (.ins cMerge dx []):=Ze
  generalize upd (upd H dx (.own m)) m (.ins cMerge dx [])=H7 at s7 hm7 ⊢
  refine⟨m,dx,r,rs,i,x,j,rfl,hm7,hrs.same s7,hsrt,hx,hbrk,fun d H8 k8 hd h8=>?_⟩
  have s8:ZH H H8:=fun b o hb=>k8 b o (s7 b o hb) (Zb hb hm)
  have hdH:H d=none:=s7.free hd
  refine⟨cOutOfOrder,_,rfl,T.t_OutOfOrder_init.cls,by simp,fun e he=>?_⟩
  have s9:ZH H8 (upd H8 e (exO e cOutOfOrder (some d))):=Zk he _
  have he9:(upd H8 e (exO e cOutOfOrder (some d))) e=some (exO e cOutOfOrder (some d)):=Ze
  generalize upd H8 e (exO e cOutOfOrder (some d))=H9 at s9 he9 ⊢
  have hd9:=s9 _ _ h8
  have kr:∀ {c:Addr} {b:Bool},PySem.W.kitOne K (.ref cOutOfOrder) (.ref c)=some b→∀u,ZA (.ref c) u→PySem.W.kitOne K (.ref cOutOfOrder) u=some b:=fun hc u hu=>by cases hu;exact hc
  have hor:some d=none∨∃dx fs,some d=some dx∧H9 dx=some (xdO dx fs):=.inr ⟨d,_,rfl,hd9⟩
  refine⟨_,rfl,_,rfl,rfl,_,rfl,ZdG (by intro z;cases z) ?_⟩
  refine⟨_,rfl,e,cOutOfOrder,some d,_,_,rfl,he9,T.xg_OutOfOrder,hor,kr T.ki_OutOfOrder_Full,T.kg,T.kt,?_⟩
  refine⟨_,rfl,e,cOutOfOrder,some d,_,_,rfl,he9,T.xg_OutOfOrder,hor,kr T.ki_OutOfOrder_NoRow,T.kg,T.kt,?_⟩
  refine⟨_,rfl,e,cOutOfOrder,some d,_,_,rfl,he9,T.xg_OutOfOrder,hor,kr T.ki_OutOfOrder_OutOfOrder,T.kg,T.kt,?_⟩
  refine⟨Zp (by decide),fun l hl=>?_⟩
  have s10:ZH H9 (upd H9 l (.lst ([false,false,true].map V.bl))):=Zk hl _
  have hl10:(upd H9 l (.lst ([false,false,true].map V.bl))) l=some (.lst ([false,false,true].map V.bl)):=Ze
  have he10:=s10 _ _ he9
  have hd10:=s10 _ _ hd9
  have hor10:some d=none∨∃dx fs,some d=some dx∧(upd H9 l (.lst ([false,false,true].map V.bl))) dx=some (xdO dx fs):=.inr ⟨d,_,rfl,hd10⟩
  refine⟨_,rfl,.inl ⟨rfl,_,SqL.of Ze⟩,l,[false,false,true],true,rfl,rfl,hl10,?_⟩
  refine⟨rfl,_,rfl,Zg0 (by decide) ?_⟩
  refine⟨_,rfl,e,cOutOfOrder,some d,_,_,rfl,he10,T.xg_OutOfOrder,hor10,kr T.ki_OutOfOrder_BadLine,T.kg,T.kt,_,rfl,Zcu ?_⟩
  refine⟨_,rfl,e,cOutOfOrder,some d,_,_,rfl,he10,T.xg_OutOfOrder,hor10,(fun u hu=>by cases hu;exact T.ki_OutOfOrder_V),T.kg,T.kt,_,rfl,Zj1 ?_⟩
  refine⟨_,rfl,xw4 l _ _ _ ⟨rfl,rfl,SqL.of Ze,rfl,_,rfl,Zh6 ?_⟩⟩
  refine⟨_,rfl,e,cOutOfOrder,d,_,_,rfl,he10,hd10,T.xg_OutOfOrder,T.na_OutOfOrder_row,rfl,?_⟩
  refine⟨_,rfl,e,cOutOfOrder,d,_,_,rfl,he10,hd10,T.xg_OutOfOrder,T.na_OutOfOrder_place,rfl,?_⟩
  refine⟨Zp (by simp),fun t ht=>q t _ (fun b o hb=>?_) ?_ Ze⟩
  ·have:=s10 _ _ (s9 _ _ (s8 b o hb))
   rw[Zc (Zb this ht)];exact this
  ·exact((s8.trans s9).trans s10).free ht
abbrev baS:List Str:=["b", "a"]
abbrev zzS:List Str:=["zz"]
abbrev abS:List Str:=["ab"]
abbrev enS(c:Str):List Str:=[c, "a", "ab"]
theorem Zh7(ss:List Str)(k:Nat)(hk:k<ss.length+2):∃ (A:List Str) (c:Str),(ss++baS).take k++zzS++(ss++baS).drop k++abS=A++enS c∧A.length=ss.length+1∧(c = "b"∨c = "zz"):=by
 rcases Nat.lt_or_ge k (ss.length+1) with h|h
 ·refine⟨ss.take k++(zzS++ss.drop k), "b",?_,?_,.inl rfl⟩
  ·rw[List.take_append_of_le_length (by omega),List.drop_append_of_le_length (by omega)]
   simp
  ·simp only[List.length_append,List.length_cons,List.length_nil,List.length_take,List.length_drop]
   omega
 ·obtain rfl:k=ss.length+1:=by omega
  refine⟨ss++[("b" : Str)], "zz",?_,by simp,.inr rfl⟩
  have e:ss++baS=(ss++[("b" : Str)])++[("a" : Str)]:=by simp
  have l:ss.length+1=(ss++[("b" : Str)]).length:=by simp
  rw[e,l,List.take_left,List.drop_left]
  simp
def ZeX(ss:List Str)(i:Nat)(ys:List V):Prop :=
 (ys=[]∧∀k,k<i→∀x y,ss[k+1]? = some x→ss[k]? = some y→0≤ZC (cds x) (cds y)) ∨
 ∃ (k:Nat) (tl:List V),ys=.int ((k+1:Nat):Int)::tl∧k<i∧(∀x y,ss[k+1]? = some x→ss[k]? = some y→ZC (cds x) (cds y)<0)∧∀i,i<k→∀x y,ss[i+1]? = some x→ss[i]? = some y→0≤ZC (cds x) (cds y)
theorem ZeX.on{ss:List Str}{i:Nat}{ys:List V}(h:ZeX ss i ys)(hb:∀x y,ss[i+1]? = some x→ss[i]? = some y→ZC (cds x) (cds y)<0):ZeX ss (i+1) (ys++[.int ((i+1:Nat):Int)]):=by
 rcases h with⟨rfl,h⟩|⟨k,tl,rfl,h1,h2,h3⟩
 ·exact .inr ⟨i,[],rfl,Q4 _,hb,h⟩
 ·exact .inr ⟨k,tl++[.int ((i+1:Nat):Int)],rfl,by omega,h2,h3⟩
theorem ZeX.off{ss:List Str}{i:Nat}{ys:List V}(h:ZeX ss i ys)(hb:∀x y,ss[i+1]? = some x→ss[i]? = some y→0≤ZC (cds x) (cds y)):ZeX ss (i+1) ys:=by
 rcases h with⟨rfl,h⟩|⟨k,tl,rfl,h1,h2,h3⟩
 ·refine .inl ⟨rfl,fun k hk=>?_⟩
  rcases Nat.lt_succ_iff_lt_or_eq.mp hk with z|rfl
  ·exact h k z
  ·exact hb
 ·exact .inr ⟨k,tl,rfl,by omega,h2,h3⟩
def Zhc(K:PySem.W.Frag):Sp:=fun vs H Q _=>∃ (p a:Addr) (c:Int) (ss:List Str),vs=[.ref p,.ref a]∧ZR H p c∧c<2 ^ 40∧H a=some (.lst (ss.map V.str))∧ss.length≤64∧(∀s∈ss,s.length≤1000∧AZ s) ∧
 ∀ (t k:Addr) (ts:List Str) (j:Int) (H':Hp),ZR H' p (c+1)→But p H H'→H t=none→H k=none→H' t=some (.tup [.ref k,.int j])→H' k=some (.lst (ts.map V.str))→ts.length≤ss.length+4→(∀s∈ts,s.length≤1000∧AZ s)→ZbN ts (.int j)→Q (.ref t) H'
theorem Zgm(T:Zag K mg cRow cMerge cMergeError cFull cNoRow cOutOfOrder cBadLine)(f_l_pick:Df P w K mg base 2 "_law_pick" ["_law_left_here", "_law_many_here"] Zbz):Df P w K mg base 3 "_law_broken" ["_law_left_here", "_law_row_here"] (Zhc K):=by
 refine T.t_l_broken.df ZaC (fun vs H Q E h=>?_) (fun cdv f A outer s H vs Q E hr h=>?_)
 ·obtain⟨p,a,c,ss,rfl,_⟩:=h
  rfl
 obtain⟨p,a,c,ss,rfl,hL,hc,ha,h64,hss,q⟩:=h
 refine⟨_,#[Zf,#[Zy,2,ZaC.nd,(Or.inr rfl),#[ZF,ZcH,#[Zao,(Zf2 K),(by rfl),T.b.n_list,boot_list,#[Za,‹1›,#[Zg]]],#[Zas,#[Za,#[Zz],#[Za,#[Zz],#[Zg]]]]]],#[Zf,#[Zy,3,ZaC.nd,(Or.inl rfl),#[ZD,f_l_pick,hr,#[Za,‹0›,#[Za,#[Zs,(Zcs K),T.b.n_len,Qr,#[Za,#[pv,2,(Or.inr (Or.inl rfl))],#[Zg]]],#[Zg]]],(by rfl)]],#[Zf,#[Zy,2,ZaC.nd,(Or.inr rfl),#[ZF,ZcH,#[ZF,ZcH,#[ZF,ZcH,#[Zbr,(slL K),#[pv,2,(Or.inr (Or.inl rfl))],(@ZbZ _),(@Zb0 _ _ _ ‹3›)],#[Zas,#[Za,#[Zz],#[Zg]]]],#[Zbr,(slL K),#[pv,2,(Or.inr (Or.inl rfl))],(@Zb0 _ _ _ ‹3›),(@ZbZ _)]],#[Zas,#[Za,#[Zz],#[Zg]]]]],#[Zf,#[ZcO,4,ZaC.nd,Zft,(@ZdE _ _ _ _ _ _ _ rfl T.b.n_range #[Za,#[Zh],#[Za,#[Zs,(Zcs K),T.b.n_len,Qr,#[Za,#[pv,2,(Or.inr (Or.inl rfl))],#[Zg]]],#[Zg]]] (by rfl) (by rfl)),(fun _ _ _ _=>#[cg,5,Zft]),(fun _ _ _ _=>(@Zie _ _ _ #[Zr,ZdB,#[ZI,(ixL K),#[cv,2,Zft],#[cw,5,Zft]],#[ZI,(ixL K),#[cv,2,Zft],#[ZF,Zda,#[cw,5,Zft],#[Zh]]],(Zw _)])),(fun _ _ _ _=>#[cw,5,Zft])],#[Zi,#[Zu,#[Zbh,#[Za,#[pv,2,(Or.inr (Or.inl rfl))],#[Za,#[ZI,(ixL K),‹4›,#[Zh]],#[Zg]]]]]]]]]],?_⟩
 refine⟨_,rfl,a,_,rfl,.inl (SqL.of ha),fun l1 h1=>?_⟩
 have s1:=Zk h1 (.lst (ss.map V.str))
 have e1:(upd H l1 (.lst (ss.map V.str))) l1=some (.lst (ss.map V.str)):=Ze
 generalize upd H l1 (.lst (ss.map V.str))=H1 at s1 e1 ⊢
 refine⟨Zp (by simp),fun l2 h2=>?_⟩
 have s2:=s1.trans (Zk h2 (.lst [.str "b",.str "a"]))
 have e2:(upd H1 l2 (.lst [.str "b",.str "a"])) l2=some (.lst [.str "b",.str "a"]):=Ze
 have e1':=Zk h2 (.lst [.str "b",.str "a"]) _ _ e1
 generalize upd H1 l2 (.lst [.str "b",.str "a"])=H2 at s2 e2 e1' ⊢
 refine⟨l1,l2,_,_,rfl,rfl,e1',e2,(by rw[Qb];exact QV (Zp (by simp;omega))),fun l3 h3=>?_⟩
 rw[show ss.map V.str++[.str "b",.str "a"]=(ss++baS).map V.str by rw[Qh];rfl]
 have hks:(ss++baS).length=ss.length+2:=by simp
 have hka:∀s∈ss++baS,s.length≤1000∧AZ s:=fun s hs=>by
  rcases Qg.mp hs with hs|hs
  ·exact hss s hs
  ·rcases QE.mp hs with rfl|hs
   ·exact⟨by decide,by unfold AZ cds;ac_rfl⟩
   ·rw[Qj.mp hs];exact⟨by decide,by unfold AZ cds;ac_rfl⟩
 have ends:=Zh7 ss
 generalize ss++baS=ks at hks hka ends ⊢
 have s3:=s2.trans (Zk h3 (.lst (ks.map V.str)))
 have e3:(upd H2 l3 (.lst (ks.map V.str))) l3=some (.lst (ks.map V.str)):=Ze
 generalize upd H2 l3 (.lst (ks.map V.str))=H3 at s3 e3 ⊢
 refine⟨_,rfl,_,rfl,l3,_,rfl,.inl (SqL.of e3),p,c,_,rfl,hL.same s3,by omega,by rw[Qb];omega,by rw[Qb];omega,fun k H4 k0 k1 L4 B4=>?_⟩
 rw[Qb]at k1
 obtain⟨k',rfl⟩:∃k':Nat,k=(k':Int):=⟨k.toNat,by omega⟩
 have hk':k'<ss.length+2:=by omega
 obtain⟨ca,cb⟩:=Zhh ks k' (by omega)
 have npl:l3≠p:=fun z=>by obtain⟨o,ho⟩:=hL.here;have:=s2 _ _ ho;rw[← z,h3]at this;cases this
 have e4:=B4 _ _ e3 npl
 refine⟨_,rfl,_,rfl,_,rfl,l3,_,rfl,SqL.of e4,fun n1 g1=>?_⟩
 rw[ca]
 have u1:=Zk g1 (.lst ((ks.take k').map V.str))
 have w1:(upd H4 n1 (.lst ((ks.take k').map V.str))) n1=some (.lst ((ks.take k').map V.str)):=Ze
 generalize upd H4 n1 (.lst ((ks.take k').map V.str))=G1 at u1 w1 ⊢
 refine⟨Zp (by simp),fun n2 g2=>?_⟩
 have v2:=Zk g2 (.lst [.str "zz"])
 have w2:(upd G1 n2 (.lst [.str "zz"])) n2=some (.lst [.str "zz"]):=Ze
 generalize upd G1 n2 (.lst [.str "zz"])=G2 at v2 w2 ⊢
 have u2:=u1.trans v2
 refine⟨n1,n2,_,_,rfl,rfl,v2 _ _ w1,w2,(by rw[Qb,QC];exact QV (Zp (by simp;omega))),fun n3 g3=>?_⟩
 rw[show (ks.take k').map V.str++[.str "zz"]=(ks.take k'++zzS).map V.str by rw[Qh];rfl]
 have v3:=Zk g3 (.lst ((ks.take k'++zzS).map V.str))
 have w3:(upd G2 n3 (.lst ((ks.take k'++zzS).map V.str))) n3=some (.lst ((ks.take k'++zzS).map V.str)):=Ze
 generalize upd G2 n3 (.lst ((ks.take k'++zzS).map V.str))=G3 at v3 w3 ⊢
 have u3:=u2.trans v3
 refine⟨_,rfl,_,rfl,_,rfl,l3,_,rfl,SqL.of (u3 _ _ e4),fun n4 g4=>?_⟩
 rw[cb]
 have v4:=Zk g4 (.lst ((ks.drop k').map V.str))
 have w4:(upd G3 n4 (.lst ((ks.drop k').map V.str))) n4=some (.lst ((ks.drop k').map V.str)):=Ze
 generalize upd G3 n4 (.lst ((ks.drop k').map V.str))=G4 at v4 w4 ⊢
 have u4:=u3.trans v4
 refine⟨n3,n4,_,_,rfl,rfl,v4 _ _ w3,w4,(by rw[Qb,Qb,Qm,QC,QX];exact QV (Zp (by simp;omega))),fun n5 g5=>?_⟩
 rw[← Qh]
 have v5:=Zk g5 (.lst ((ks.take k'++zzS++ks.drop k').map V.str))
 have w5:(upd G4 n5 (.lst ((ks.take k'++zzS++ks.drop k').map V.str))) n5=some (.lst ((ks.take k'++zzS++ks.drop k').map V.str)):=Ze
 generalize upd G4 n5 (.lst ((ks.take k'++zzS++ks.drop k').map V.str))=G5 at v5 w5 ⊢
 have u5:=u4.trans v5
 refine⟨Zp (by simp),fun n6 g6=>?_⟩
 have v6:=Zk g6 (.lst [.str "ab"])
 have w6:(upd G5 n6 (.lst [.str "ab"])) n6=some (.lst [.str "ab"]):=Ze
 generalize upd G5 n6 (.lst [.str "ab"])=G6 at v6 w6 ⊢
 have u6:=u5.trans v6
 have htl:(ks.take k'++zzS++ks.drop k').length=ss.length+3:=by simp only[List.length_append,List.length_take,List.length_drop,List.length_cons,List.length_nil];omega
 refine⟨n5,n6,_,_,rfl,rfl,v6 _ _ w5,w6,(by rw[Qb,htl];exact QV (Zp (by simp;omega))),fun n7 g7=>?_⟩
 rw[show (ks.take k'++zzS++ks.drop k').map V.str++[.str "ab"]=(ks.take k'++zzS++ks.drop k'++abS).map V.str from(Qh (f:=V.str) (l₂:=abS)).symm]
 obtain⟨A0,c0,eA,lA,hc0⟩:=ends k' hk'
 have hta:∀s∈ks.take k'++zzS++ks.drop k'++abS,s.length≤1000∧AZ s:=fun s hs=>by
  rcases Qg.mp hs with hs|hs
  ·rcases Qg.mp hs with hs|hs
   ·rcases Qg.mp hs with hs|hs
    ·exact hka s (List.mem_of_mem_take hs)
    ·rw[Qj.mp hs];exact⟨by decide,by unfold AZ cds;ac_rfl⟩
   ·exact hka s (List.mem_of_mem_drop hs)
  ·rw[Qj.mp hs];exact⟨by decide,by unfold AZ cds;ac_rfl⟩
 have htl2:(ks.take k'++zzS++ks.drop k'++abS).length=ss.length+4:=by rw[Qm,htl];rfl
 generalize ks.take k'++zzS++ks.drop k'++abS=ts at eA hta htl2 ⊢
 have v7:=Zk g7 (.lst (ts.map V.str))
 have w7:(upd G6 n7 (.lst (ts.map V.str))) n7=some (.lst (ts.map V.str)):=Ze
 generalize upd G6 n7 (.lst (ts.map V.str))=G7 at v7 w7 ⊢
 have u7:=u6.trans v7
 have B7:But p H G7:=((But.same s3).trans B4).trans (But.same u7)
 have hn7:H n7=none:=by
  cases e:H n7 with
  | none=>rfl
  | some o =>
   have np:n7≠p:=fun z=>by obtain⟨o',ho'⟩:=L4.here;have:=u6 _ _ ho';rw[← z,g7]at this;cases this
   have:=u6 _ _ (B4 _ _ (s3 _ _ e) np)
   rw[g7]at this;cases this
 have L7:ZR G7 p (c+1):=L4.same u7
 have hl:(((ts.map V.str).length:Nat):Int)=(ts.length:Int):=by rw[Qb]
 refine⟨_,rfl,n7,_,rfl,.inl (SqL.of w7),_,_,rfl,⟨by omega,by omega,by omega,by omega⟩,fun D hD=>?_⟩
 rw[show ((((ts.map V.str).length:Nat):Int)-1).toNat=ts.length-1 by omega]
 refine ZeH (fun i ys σ H2=>(∃v:Option V,σ=[some (.ref p),some (.ref a),some (.ref n7),some (.int (k':Int)),none,v])∧ZeX ts i ys∧ys.length≤i∧i≤ts.length-1∧H2 D=some (.lst ys)∧ZH G7 H2) ?_ ?_ ?_
 ·exact⟨⟨none,rfl⟩,.inl ⟨rfl,fun k hk=>absurd hk (Nat.not_lt_zero _)⟩,Qe _,Qu _,Ze,Zk hD _⟩
 ·rintro i ys σ H2 hi ⟨⟨v,rfl⟩,fb,hyl,hi1,hD2,x2⟩
  have hS2:=SqL.of (K:=K) (x2 _ _ w7)
  have e1:(1+(i:Int))=((i+1:Nat):Int):=by omega
  have e2:(1+(i:Int)-1)=((i:Nat):Int):=by omega
  have l1:i+1<ts.length:=by omega
  have l0:i<ts.length:=by omega
  refine⟨_,rfl,_,rfl,n7,_,_,_,rfl,rfl,hS2,(by rw[e1];exact Zcy l1),_,rfl,_,rfl,_,_,rfl,rfl,n7,_,_,_,rfl,rfl,hS2,(by rw[e2];exact Zcy l0),_,_,rfl,rfl,_,rfl,?_⟩
  have g1':ts[i+1]? = some ts[i+1]:=Qa l1
  have g0':ts[i]? = some ts[i]:=Qa l0
  show if decide (cds ts[i+1]<cds ts[i])=true then _ else _
  refine Zbi (fun d=>?_) (fun d=>?_)
  ·have d':=(Zfb _ _).mp (of_decide_eq_true d)
   refine⟨_,rfl,hD2,Zp (by omega),⟨_,rfl⟩,?_,(by rw[Qm,List.length_singleton];omega),by omega,Ze,fun b o h=>?_⟩
   ·rw[e1];exact fb.on fun x y hx hy=>by rw[g1']at hx;rw[g0']at hy;cases hx;cases hy;exact d'
   ·rw[Zc (Zb h hD)];exact x2 b o h
  ·refine⟨⟨_,rfl⟩,fb.off fun x y hx hy=>?_,by omega,by omega,hD2,x2⟩
   rw[g1']at hx;rw[g0']at hy;cases hx;cases hy
   exact Int.not_lt.mp fun z=>d (decide_eq_true ((Zfb _ _).mpr z))
 rintro ys σ H2 ⟨⟨v,rfl⟩,fb,hyl,_,hD2,x2⟩
 obtain⟨k,tl,rfl,hki,hb1,hb2⟩:∃ (k:Nat) (tl:List V),ys=.int ((k+1:Nat):Int)::tl∧k<ts.length-1∧(∀x y,ts[k+1]? = some x→ts[k]? = some y→ZC (cds x) (cds y)<0)∧∀i,i<k→∀x y,ts[i+1]? = some x→ts[i]? = some y→0≤ZC (cds x) (cds y):=by
  rcases fb with⟨_,h⟩|h
  ·exfalso
   have t2:ts[A0.length+1]? = some ("a" : Str):=by rw[eA,QP (by omega)];simp
   have t1:ts[A0.length]? = some c0:=by rw[eA,QP (by omega)];simp
   have:=h A0.length (by omega) _ _ t2 t1
   rcases hc0 with rfl|rfl
   ·exact absurd this (by ac_rfl)
   ·exact absurd this (by ac_rfl)
  ·exact h
 refine⟨_,rfl,_,rfl,xw4 D _ _ _ ⟨rfl,rfl,SqL.of hD2,(Zar (j:=0) rfl),Zp (by simp),fun t ht=>?_⟩⟩
 refine q t n7 ts _ _ ((L7.same x2).new ht) ((B7.trans (But.same x2)).trans (But.same (Zk ht _))) ?_ hn7 Ze (Zk ht _ _ _ (x2 _ _ w7)) (by omega) hta (.inr ⟨k,rfl,by omega,hb1,hb2⟩)
 cases e:H t with
 | none=>rfl
 | some o =>
  have np:t≠p:=fun z=>by obtain⟨o',ho'⟩:=L7.here;have:=x2 _ _ ho';rw[← z,ht]at this;cases this
  have:=x2 _ _ (B7 _ _ e np)
  rw[ht]at this;cases this
def CpI(H4:Hp)(D:Addr)(rs:List (Addr×List Str))(i:Nat)(zs:List V)(H5:Hp):Prop :=
 (∃hs:List (Addr×List Str),zs=hs.map (fun x=>V.ref x.1)∧hs.map (·.2)=(rs.take i).map (·.2)∧∀x∈hs,H5 x.1=some (.lst (x.2.map V.str))∧H4 x.1=none∧x.1≠D)∧i≤rs.length∧H5 D=some (.lst zs)∧ZH H4 H5
theorem CpI.zero{H4:Hp}{D:Addr}{rs:List (Addr×List Str)}(hD:H4 D=none):CpI H4 D rs 0 [] (upd H4 D (.lst [])):=⟨⟨[],rfl,rfl,(fun x h=>by cases h)⟩,Qu _,Ze,Zk hD _⟩
theorem CpI.len{H4:Hp}{D:Addr}{rs:List (Addr×List Str)}{i:Nat}{zs:List V}{H5:Hp}(h:CpI H4 D rs i zs H5):zs.length=i:=by
 obtain⟨⟨hs,rfl,hhs,_⟩,hj,_⟩:=h
 have:=congrArg List.length hhs
 rw[Qb,Qb,QC]at this
 rw[Qb];omega
theorem CpI.step{H4:Hp}{D c:Addr}{rs:List (Addr×List Str)}{j:Nat}{zs:List V}{H5:Hp}{x:Addr×List Str}(hD:H4 D=none)(h:CpI H4 D rs j zs H5)(hz:rs[j]? = some x)(hc:H5 c=none) :
  (upd H5 c (.lst (x.2.map V.str))) D=some (.lst zs)∧CpI H4 D rs (j+1) (zs++[.ref c]) (upd (upd H5 c (.lst (x.2.map V.str))) D (.lst (zs++[.ref c]))):=by
 obtain⟨⟨hs,rfl,hhs,hall⟩,hj,hD5,s5⟩:=h
 have nDc:D≠c:=Zb hD5 hc
 have hjl:j<rs.length:=(Qk.mp hz).1
 refine⟨by rw[Zc nDc];exact hD5,⟨hs++[(c,x.2)],by rw[Qh];rfl,?_,fun u hu=>?_⟩,hjl,Ze,fun b o hb=>?_⟩
 ·rw[Qh,hhs,List.take_add_one,hz,Qh];rfl
 ·rcases Qg.mp hu with hu|hu
  ·obtain⟨g1,g2,g3⟩:=hall u hu
   exact⟨by rw[Zc g3,Zc (Zb g1 hc)];exact g1,g2,g3⟩
  ·rw[Qj.mp hu]
   exact⟨by rw[Zc nDc.symm];exact Ze,s5.free hc,nDc.symm⟩
 ·have:=s5 b o hb
  rw[Zc (Zb hb hD),Zc (Zb this hc)];exact this
theorem CpI.done{H4:Hp}{D:Addr}{rs:List (Addr×List Str)}{zs:List V}{H5:Hp}{r:Addr}(h:CpI H4 D rs rs.length zs H5)(hrs:ZY H4 r rs):∃hs:List (Addr×List Str),zs=hs.map (fun x=>V.ref x.1)∧hs.map (·.2)=rs.map (·.2)∧ZY H5 D hs∧H5 D=some (.lst zs)∧ZH H4 H5:=by
 obtain⟨⟨hs,rfl,hhs,hall⟩,_,hD5,s5⟩:=h
 rw[Q0 (Qe _)]at hhs
 have hln:hs.length=rs.length:=by have:=congrArg List.length hhs;rw[Qb,Qb]at this;exact this
 refine⟨hs,rfl,hhs,⟨hD5,by have:=hrs.few;omega,fun x hx=>?_⟩,hD5,s5⟩
 have:x.2∈rs.map (·.2):=by rw[← hhs];exact QF (f:=fun x:Addr×List Str=>x.2) hx
 obtain⟨y,hy,e⟩:=QM.mp this
 obtain⟨_,l100,laz⟩:=hrs.lst y hy
 rw[show y.2=x.2 from e]at l100 laz
 exact⟨(hall x hx).1,l100,laz⟩
theorem ZhZ{rs:List (Addr×List Str)}{hs:List (Addr×List Str)}(h:hs.map (·.2)=rs.map (·.2)){P:List Str→Prop}(hp:∀x∈rs,P x.2):∀x∈hs,P x.2:=fun x hx=>by
 have:x.2∈rs.map (·.2):=by rw[← h];exact QF (f:=fun x:Addr×List Str=>x.2) hx
 obtain⟨y,hy,e⟩:=QM.mp this
 rw[← show y.2=x.2 from e];exact hp y hy
def Zho:List Str:=["a", "a", "ab"]
theorem Zga{i j:Int}(h0:0≤i)(h1:i<1000000)(g0:0≤j)(g1:j<1000000):(PyData.tuple [.str "order",.int i,.int j]).canLay0=true∧(PyData.tuple [.str "order",.int i,.int j]).depth≤64∧(PyData.tuple [.str "order",.int i,.int j]).shown.length≤sizeLine∧(PyData.tuple [.str "order",.int i,.int j]).showable=true:=by
 have hl:(PyData.tuple [.str "order",.int i,.int j]).canLay0=true:=by simp[PyData.canLay0,PyData.canLayAll0,show PyData.strOk ("order" : Str)=true by ac_rfl]
 have hi:∀v:Int,0≤v→v<1000000→(PyData.int v).shown.length≤22:=fun v a b=>by
  show (Str.ofString (toString v)).length≤22
  rw[PySem.ofString_length]
  exact Qq (int_text_length_le10 (k:=7) (by decide) (by omega)) (by decide)
 have hs:(PyData.tuple [.str "order",.int i,.int j]).intsShort 22=true:=by simp[PyData.intsShort,PyData.intsShortAll,hi i h0 h1,hi j g0 g1]
 have s:=PyData.shown_le 22 (by decide) _ (PyData.leavesShort_of_canLay0 22 _ hl hs)
 have hw:(PyData.tuple [.str "order",.int i,.int j]).weight=("order" : Str).cps.size+1+(PyData.weight (.int i)+1+(PyData.weight (.int j)+1)):=by simp[PyData.weight,PyData.weightAll]
 have hv:∀v:Int,0≤v→v<1000000→PyData.weight (.int v)≤1921:=fun v a b=>by
  have:=Za7 a b
  simp only[PyData.weight]
  split<;>omega
 have:=hv i h0 h1
 have:=hv j g0 g1
 have h5:("order" : Str).cps.size=5:=by decide
 refine⟨hl,by simp[PyData.depth,PyData.depthAll],?_,by simp[PyData.showable,PyData.showableAll,Za7 h0 h1,Za7 g0 g1]⟩
 rw[sizeLine_eq]
 omega
theorem ZiY:∀s∈Zho,s.length≤1000∧AZ s:=fun s hs=>by
 rcases QE.mp hs with rfl|hs
 ·exact⟨by decide,by unfold AZ cds;ac_rfl⟩
 rcases QE.mp hs with rfl|hs
 ·exact⟨by decide,by unfold AZ cds;ac_rfl⟩
 rw[Qj.mp hs];exact⟨by decide,by unfold AZ cds;ac_rfl⟩
theorem ZjP{H:Hp}{p a:Addr}{c:Int}{ss:List Str}(L:ZR H p c)(h:H a=some (.lst (ss.map V.str))):a≠p:=fun z=>by
 obtain⟨u,v,g,_⟩:=L
 rw[z,g]at h
 cases ss with
 | nil=>cases h
 | cons x r=>injection h with h;injection h with h;injection h with h;cases h
theorem Zfg{H:Hp}{p a:Addr}{c:Int}{ss:List (Addr×List Str)}(L:ZR H p c)(h:H a=some (.lst (ss.map fun x=>V.ref x.1))):a≠p:=fun z=>by
 obtain⟨u,v,g,_⟩:=L
 rw[z,g]at h
 cases ss with
 | nil=>cases h
 | cons x r=>injection h with h;injection h with h;injection h with h;cases h
theorem ZY.but{H H':Hp}{p r:Addr}{c:Int}{rs:List (Addr×List Str)}(h:ZY H r rs)(L:ZR H p c)(B:But p H H'):ZY H' r rs:=⟨B _ _ h.at' (Zfg L h.at'),h.few,fun x hx=>let ⟨a,b⟩:=h.lst x hx;⟨B _ _ a (ZjP L a),b⟩⟩
theorem ZkA{n i:Nat}(h:i<n):ixN n (i:Int)=some i:=by
 unfold ixN
 simp
 omega
theorem Zc4{H:Hp}{M a:Addr}{ss:List Str}{ms:List (Addr×List Str)}(h:H a=some (.lst (ss.map V.str)))(g:H M=some (.lst (ms.map fun x=>V.ref x.1)))(hne:ms≠[]):a≠M:=fun z=>by
 rw[z,g]at h
 cases ms with
 | nil=>exact hne rfl
 | cons y q =>
  cases ss with
  | nil=>cases h
  | cons x r=>injection h with h;injection h with h;injection h with h;cases h
theorem Zkv:∀s∈baS,s.length≤1000∧AZ s:=fun s hs=>by
 rcases QE.mp hs with rfl|hs
 ·exact⟨by decide,by unfold AZ cds;ac_rfl⟩
 rw[Qj.mp hs];exact⟨by decide,by unfold AZ cds;ac_rfl⟩
def ZfI(K:PySem.W.Frag):Sp:=fun vs H Q _=>∃ (a:Addr) (ns:List Int),vs=[.ref a]∧SqL K H a (ns.map V.int)∧ns.length≤63∧∀H',Q (.bl true) H'
theorem ZjM{f:Addr}{fd:FuncData}(F:Fun K "law" "law" ZaP f fd)(T:Zag K mg cRow cMerge cMergeError cFull cNoRow cOutOfOrder cBadLine):ZaA P w K mg base CX0 17 f fd ["_law_script"] (ZfI K):=by
 have f_l_mix:Df P w K mg base 1 "_law_mix" ["_law_cell", "_law_k"] ZgQ:=Zjb T
 have f_l_left:Df P w K mg base 1 "_law_left" ["_law_script", "_law_k"] (Zhj K):=Ziv T
 have f_l_pick:Df P w K mg base 2 "_law_pick" ["_law_left_here", "_law_many_here"] Zbz:=Zin T f_l_mix
 have f_l_stems:Df P w K mg base 3 "_law_stems" ["_law_left_here"] Zeg:=Zhx T f_l_pick
 have f_l_key:Df P w K mg base 3 "_law_key" ["_law_left_here", "_law_stems_here"] Zhb:=Zjc T f_l_pick
 have f_l_keys:Df P w K mg base 4 "_law_keys" ["_law_left_here", "_law_stems_here", "_law_most"] Zfw:=Zia T f_l_pick f_l_key
 have f_l_many:Df P w K mg base 3 "_law_many" ["_law_left_here"] Zfa:=Ziz T f_l_pick
 have f_l_row:Df P w K mg base 5 "_law_row" ["_law_left_here", "_law_stems_here", "_law_most"] Ze6:=Zif T f_l_keys
 have f_l_rows:Df P w K mg base 6 "_law_rows" ["_law_left_here"] ZfP:=ZhK T f_l_pick f_l_stems f_l_many f_l_row
 have f_alike_from:Df P w K mg base 1 "alike_from" ["one", "other", "far"] ZaU:=Zdm T
 have f_alike:Df P w K mg base 2 "alike" ["one", "other"] ZcC:=Zhw T f_alike_from
 have f_order_at:Df P w K mg base 1 "order_at" ["one", "other", "at"] Zcx:=ZgT T
 have f_liken:Df P w K mg base 3 "liken" ["one", "other"] Zej:=ZgZ T f_alike f_order_at
 have f_liken_from:Df P w K mg base 2 "liken_from" ["one", "other", "far"] Zbs:=Zdp T f_alike_from f_order_at
 have f_first_break:Df P w K mg base 4 "first_break" ["keys"] (ZfC K):=ZhJ T f_liken
 have f_refuse_break:Df P w K mg base 5 "refuse_break" ["number", "keys"] (ZcU K):=Zgn T f_first_break
 have f_alikes:Df P w K mg base 3 "alikes" ["row"] (Zdc K):=Zgd T f_alike
 have f_halves:Df P w K mg base 1 "halves" ["numbers"] (ZcD K true):=Zgx T
 have f_Row_to_go:=Ziw T (P:=P) (w:=w) (base:=base)
 have f_Row_head:=ZhS T f_Row_to_go
 have f_Row_init:=Ze0 T f_alikes
 have f_Merge_meet:=Zh9 T f_Row_head f_liken_from
 have f_Merge_play:=ZfX T f_Row_head f_halves f_Merge_meet 8
 have f_Merge_play_all:=ZeI T f_Merge_play
 have f_Merge_init:=Zdr T f_refuse_break f_Row_init f_Merge_play_all
 have f_Merge_looks:=Zhr T (P:=P) (w:=w) (base:=base)
 have f_OutOfOrder_init:=ZgP T (P:=P) (w:=w) (base:=base)
 have f_refuse_break1:=Zfh T f_first_break f_OutOfOrder_init
 have f_Merge_init1:=ZcE T f_refuse_break1 f_Row_init
 have f_l_refused:=Zfe T f_Merge_init f_Merge_init1
 have f_l_broken:=Zgm T f_l_pick
 refine F.ok ZaV (fun vs H Q E h=>?_) (fun cdv A outer s H vs Q E hr h=>?_)
 ·obtain⟨a,ns,rfl,_⟩:=h
  rfl
 obtain⟨a,sc,rfl,hS,h63,q⟩:=h
 refine⟨_,#[Zf,#[ZbW,PassesOwn.never,#[ZaK,T.b.n_range,#[Za,#[ZF,ZaN,#[Zh],#[Zs,(Zcs K),T.b.n_len,Qr,#[Za,#[Zbr,(slL K),‹0›,(@ZbZ _),(@Zb0 _ _ _ #[Zh])],#[Zg]]]],#[Zg]]],#[ZJ,1,ZaV.nd],#[Zf,#[Zy,2,ZaV.nd,(Or.inl rfl),#[ZD,f_l_left,hr,#[Za,‹0›,#[Za,‹1›,#[Zg]]],(by rfl)]],#[Zf,#[Zy,3,ZaV.nd,(Or.inl rfl),#[ZD,f_l_rows,hr,#[Za,‹2›,#[Zg]],(by rfl)]],#[Zf,#[Zak,#[Zr,Zec,#[ZD,f_l_refused,hr,#[Za,#[Zz],#[Za,#[ZZ],#[Za,‹3›,#[Za,#[ZZ],#[Zg]]]]],(by rfl)],#[ZZ],(Zw _)],#[Zi,#[Zu,(@ZfZ _ _ _ _)]],(@ZL _)],#[Zi,#[ZbW,PassesOwn.never,#[ZaK,T.b.n_range,#[Za,#[Zh],#[Zg]]],#[ZJ,4,ZaV.nd],#[Zf,#[Zy,5,ZaV.nd,(Or.inl rfl),#[ZF,ZcH,#[ZcB,ZiF,(@iL _ K _ _ _ ‹3› (by rfl)),(fun _ _ _ _=>#[cg,10,ZiF]),(fun _ _ _ _=>(@Zcb _)),(fun _ _ _ _=>#[Zao,(Zf2 K),(Za5 ZiF rfl (by ac_rfl)),T.b.n_list,boot_list,#[Za,#[cw,10,ZiF],#[Zg]]])],#[Zas,#[Za,#[Zas,#[Za,#[Zz],#[Za,#[Zz],#[Za,#[Zz],#[Zg]]]]],#[Zg]]]]],#[Zf,#[Zy,6,ZaV.nd,(Or.inl rfl),#[ZD,f_l_pick,hr,#[Za,‹2›,#[Za,#[Zs,(Zcs K),T.b.n_len,Qr,#[Za,‹5›,#[Zg]]],#[Zg]]],(by rfl)]],#[Zf,#[Zbe,#[ZD,f_l_broken,hr,#[Za,‹2›,#[Za,#[ZI,(ixL K),‹5›,‹6›],#[Zg]]],(by rfl)],#[gT,K,2,#[ZK,#[Zcj,‹5›,‹6›,Zdf],#[ZK,#[ZJ,7,ZaV.nd],(@Zbf _)]]]],(@Zh2 _ _ _ _ _ #[Zak,#[Zr,Zbl,#[ZD,f_l_pick,hr,#[Za,‹2›,#[Za,#[Zh],#[Zg]]],(by rfl)],#[Zh],(Zw _)],#[Zi,#[ZaG,#[Zel,QY,Q8,Q9,ZbE,‹5›,#[Za,#[Zas,#[Za,#[Zz],#[Za,#[Zz],#[Zg]]]],#[Zg]]]]],(@ZL _)] #[Zf,#[ZcO,8,ZaV.nd,ZiE,(@iL _ K _ _ _ ‹5› (by rfl)),(fun _ _ _ _=>#[cg,10,ZiE]),(fun _ _ _ _=>(@Zcb _)),(fun _ _ _ _=>#[Zao,(Zf2 K),(Za5 ZiE rfl (by ac_rfl)),T.b.n_list,boot_list,#[Za,#[cw,10,ZiE],#[Zg]]])],#[Zf,#[Zy,9,ZaV.nd,(Or.inl rfl),#[ZD,f_l_refused,hr,#[Za,#[Zz],#[Za,#[ZZ],#[Za,‹5›,#[Za,#[ZZ],#[Zg]]]]],(by rfl)]],#[Zi,#[Zak,(@PW.pt _ _ _ (@ZfB _ _ _ _ _ _ _ #[Zr,ZiU,#[Zao,(@ZkF _ K _ hr (by rfl)),(by rfl),T.b.n_str,boot_str,#[Za,‹9›,#[Zg]]],#[Zao,(@ZkF _ K _ hr (by rfl)),(by rfl),T.b.n_str,boot_str,#[Za,#[Zbh,#[Za,#[Zz],#[Za,‹6›,#[Za,‹7›,#[Zg]]]]],#[Zg]]],(Zw _)] (@ZeV _ _ _ _ #[Zr,(@neD _ K _ hr (by rfl)),‹5›,‹8›,(Zw _)]))),#[Zi,#[Zu,(@ZfZ _ _ _ _)]],(@ZL _)]]]])]]]]]]]]],#[Zi,#[Zu,(@ZfZ _ _ _ _)]]],?_⟩
 have hcl:=Zcn (sc.map V.int) none (some 6)
 have hlen:(sc.map V.int).length=sc.length:=by rw[Qb]
 refine⟨_,rfl,_,rfl,a,_,rfl,hS,fun e he=>⟨e,_,rfl,.inl (SqL.of Ze),_,_,rfl,rfl,_,rfl,by omega,by omega,?_⟩⟩
 have s1:ZH H (upd H e (.lst (Zcc (sc.map V.int) none (some 6)))):=Zk he _
 refine ZbI (fun i σ H2=>∃v1 v2 v3 v4 v5 v6 v7 v8 v9:Option V,σ=[some (.ref a),v1,v2,v3,v4,v5,v6,v7,v8,v9]∧ZH H H2) (xw9 _ _ _ _ _ _ _ _ _ ⟨rfl,s1⟩) ?_ ?_
 ·rintro ii σ H2 hi ⟨v1,v2,v3,v4,v5,v6,v7,v8,v9,rfl,s2⟩
  have hi8:(ii:Int)<65:=by omega
  refine⟨_,rfl,_,rfl,a,sc,_,rfl,s2.seq hS,h63,by omega,by omega,fun p H3 hp L3 s3=>?_⟩
  have nHp:H p=none:=s2.free hp
  refine⟨_,rfl,p,0,rfl,L3,by decide,fun r rs c4 H4 hr0 hrs hxs h12 L4 a1 a2 B4=>?_⟩
  have s4:ZH H H4:=fun b o hb=>B4 b o (s3 b o (s2 b o hb)) (Zb hb nHp)
  refine⟨_,rfl,.inl ⟨r,rs,rfl,hrs,fun x hx=>(hxs x hx).2.2.2.1,fun H5 s5=>⟨rfl,_,rfl,Zg0 rfl ?_⟩⟩⟩
  have nrp:r≠p:=fun z=>by obtain⟨o,ho⟩:=L3.here;rw[← z,hr0]at ho;cases ho
  refine⟨_,rfl,by decide,by decide,?_⟩
  refine ZbI (fun i σ H6=>∃ (v4 v5 v6 v7 v8 v9:Option V) (c:Int),σ=[some (.ref a),some (.int (0+(ii:Int))),some (.ref p),some (.ref r),v4,v5,v6,v7,v8,v9]∧ZR H6 p c∧c≤c4+3*i∧ZY H6 r rs∧ZH H H6) (xw7 _ _ _ _ _ _ c4 ⟨rfl,L4.same s5,by omega,hrs.same s5,s4.trans s5⟩) ?_ ?_
  ·rintro jj σ H6 hj ⟨v4,v5,v6,v7,v8,v9,c,rfl,L6,hc6,hrs6,s6⟩
   refine⟨_,rfl,r,rfl,⟨_,SqL.of hrs6.at'⟩,fun D hD=>?_⟩
   refine ZdC (K:=K) (a:=r) (xs:=rs.map fun x=>V.ref x.1) (fun i zs σ H7=>(∃v:Option V,σ=[some (.ref a),some (.int (0+(ii:Int))),some (.ref p),some (.ref r),some (.int (0+(jj:Int))),v5,v6,v7,v8,v9,v])∧CpI H6 D rs i zs H7) ⟨⟨none,rfl⟩,CpI.zero hD⟩ (fun _ _ _ _ h=>SqL.of (h.2.2.2.2 _ _ hrs6.at')) ?_ ?_
   ·rintro j y zs σ H7 hy ⟨⟨v,rfl⟩,cp⟩
    rw[Qt]at hy
    cases hz:rs[j]? with
    | none=>rw[hz]at hy;cases hy
    | some x =>
    rw[hz]at hy
    cases hy
    have lx:=(hrs6.lst x (Qs hz)).1
    refine⟨_,rfl,x.1,_,rfl,.inl (SqL.of (cp.2.2.2 _ _ lx)),fun c hc=>?_⟩
    obtain⟨g1,g2⟩:=cp.step hD hz hc
    exact⟨g1,Zp (by have:=cp.len;have:=cp.2.1;have:=hrs6.few;omega),⟨_,rfl⟩,g2⟩
   rintro zs σ H7 ⟨⟨v,rfl⟩,cp⟩
   rw[Qb]at cp
   obtain⟨hs,rfl,hhs,hhd7,hD7,s7⟩:=cp.done hrs6
   have hsl:hs.length=rs.length:=by have:=congrArg List.length hhs;rw[Qb,Qb]at this;exact this
   have hss:∀x∈hs,sortedS x.2=true∧x.2.length≤60:=ZhZ hhs (P:=fun y=>sortedS y=true∧y.length≤60) fun x hx=>(hxs x hx).2.2.2
   have L7:=L6.same s7
   have hrs7:=hrs6.same s7
   have s07:=s6.trans s7
   refine⟨Zp (by simp),fun n1 g1=>?_⟩
   have x1:=Zk g1 (.lst [.str "a",.str "a",.str "ab"])
   have y1:(upd H7 n1 (.lst [.str "a",.str "a",.str "ab"])) n1=some (.lst (Zho.map V.str)):=Ze
   generalize upd H7 n1 (.lst [.str "a",.str "a",.str "ab"])=H8 at x1 y1 ⊢
   refine⟨Zp (by simp),fun n2 g2=>?_⟩
   have x2:=Zk g2 (.lst [.ref n1])
   have y2:(upd H8 n2 (.lst [.ref n1])) n2=some (.lst [.ref n1]):=Ze
   have y1':=x2 _ _ y1
   have z2:=x1.trans x2
   generalize upd H8 n2 (.lst [.ref n1])=H9 at x2 y2 y1' z2 ⊢
   refine⟨D,n2,_,_,rfl,rfl,z2 _ _ hD7,y2,(by rw[Qb];exact QV (Zp (by simp;omega))),fun M hM=>?_⟩
   obtain⟨ms,hms⟩:∃ms:List (Addr×List Str),ms=hs++[(n1,Zho)]:=⟨_,rfl⟩
   rw[show hs.map (fun x=>V.ref x.1)++[V.ref n1]=ms.map (fun x=>V.ref x.1) by rw[hms,Qh];rfl]
   have hml:ms.length=rs.length+1:=by rw[hms,Qm,hsl];rfl
   have x3:=Zk hM (.lst (ms.map fun x=>V.ref x.1))
   have y3:(upd H9 M (.lst (ms.map fun x=>V.ref x.1))) M=some (.lst (ms.map fun x=>V.ref x.1)):=Ze
   generalize upd H9 M (.lst (ms.map fun x=>V.ref x.1))=H10 at x3 y3 ⊢
   have z3:=z2.trans x3
   have s010:=s07.trans z3
   have hm10:∀x∈ms,H10 x.1=some (.lst (x.2.map V.str))∧x.2.length≤60∧(∀s∈x.2,s.length≤1000∧AZ s)∧sortedS x.2=true:=fun x hx=>by
    rw[hms]at hx
    rcases Qg.mp hx with hx|hx
    ·obtain⟨b1,b2,b3⟩:=hhd7.lst x hx
     exact⟨z3 _ _ b1,(hss x hx).2,b3,(hss x hx).1⟩
    ·rw[Qj.mp hx]
     exact⟨x3 _ _ y1',(show Zho.length≤60 by decide),ZiY,(show sortedS Zho=true by ac_rfl)⟩
   have L10:=L7.same z3
   refine⟨_,rfl,_,rfl,M,_,rfl,.inl (SqL.of y3),p,c,_,rfl,L10,by omega,by rw[Qb];omega,by rw[Qb];omega,fun at' H11 at0 at1 L11 B11=>?_⟩
   rw[Qb]at at1
   obtain⟨i0,rfl⟩:∃i0:Nat,at'=(i0:Int):=⟨at'.toNat,by omega⟩
   have hi0:i0<ms.length:=by omega
   have hat:ms[i0]? = some ms[i0]:=Qa hi0
   have hmem:=Qs hat
   generalize ms[i0]=y0 at hat hmem
   obtain⟨b1,b2,b3,b4⟩:=hm10 y0 hmem
   have R10:ZY H10 M ms:=⟨y3,by omega,fun x hx=>⟨(hm10 x hx).1,by have:=(hm10 x hx).2.1;omega,(hm10 x hx).2.2.1⟩⟩
   have R11:=R10.but L10 B11
   have hrs11:=(hrs7.same z3).but L10 B11
   refine⟨_,rfl,_,rfl,_,rfl,M,_,_,_,rfl,rfl,SqL.of R11.at',(Zar (by rw[Qt,hat];rfl)),p,y0.1,c+1,y0.2,rfl,L11,by omega,(R11.lst y0 hmem).1,by omega,b3,fun t kk ts j H12 L12 B12 ht hk ht12 hk12 htl hta hbrk=>?_⟩
   have R12:=R11.but L11 B12
   have hrs12:=hrs11.but L11 B12
   refine⟨t,_,rfl,SqT.of ht12,rfl,_,_,rfl,_,rfl,_,rfl,M,_,_,i0,rfl,rfl,R12.at',(ZkA (by rw[Qb];exact hi0)),_,_,rfl,rfl,?_⟩
   obtain⟨ns,hns⟩:∃ns:List (Addr×List Str),ns=ms.set i0 (kk,ts):=⟨_,rfl⟩
   rw[show (ms.map fun x=>V.ref x.1).set i0 (V.ref kk)=ns.map (fun x=>V.ref x.1) by rw[hns,List.map_set]]
   have hnl:ns.length=rs.length+1:=by rw[hns,List.length_set,hml]
   have msne:ms≠[]:=fun z=>by rw[z]at hml;simp at hml
   have nsr:∀x∈ns,H12 x.1=some (.lst (x.2.map V.str))∧x.2.length≤100∧(∀s∈x.2,s.length≤1000∧AZ s):=fun x hx=>by
    rw[hns]at hx
    rcases List.mem_or_eq_of_mem_set hx with hx|rfl
    ·exact R12.lst x hx
    ·exact⟨hk12,(show ts.length≤100 by omega),hta⟩
   have nsk:∀k y,k<i0→ns[k]? = some y→sortedS y.2=true:=fun k y hk hy=>by
    rw[hns,Q3 (by omega)]at hy
    exact(hm10 y (Qs hy)).2.2.2
   have nsi:ns[i0]? = some (kk,ts):=by rw[hns,QK hi0]
   have k13:∀b o,H12 b=some o→b≠M→(upd H12 M (.lst (ns.map fun x=>V.ref x.1))) b=some o:=fun b o hb n=>by rw[Zc n];exact hb
   have R13:ZY (upd H12 M (.lst (ns.map fun x=>V.ref x.1))) M ns:=⟨Ze,by omega,fun x hx=>by
    obtain⟨g1,g2⟩:=nsr x hx
    exact⟨k13 _ _ g1 (Zc4 g1 R12.at' msne),g2⟩⟩
   have L13:ZR (upd H12 M (.lst (ns.map fun x=>V.ref x.1))) p (c+1+1):=L12.at (Zfg L12 R12.at').symm
   generalize upd H12 M (.lst (ns.map fun x=>V.ref x.1))=H13 at k13 R13 L13 ⊢
   have hM0:H M=none:=(s07.trans z2).free hM
   have nHp6:p≠M:=(Zfg L12 R12.at').symm
   have s013:ZH H H13:=fun b o hb=>k13 b o (B12 b o (B11 b o (s010 b o hb) (Zb hb nHp)) (Zb hb nHp)) (Zb hb hM0)
   have nrM:r≠M:=Zb (z2 _ _ hrs7.at') hM
   have hrs13:ZY H13 r rs:=⟨k13 _ _ hrs12.at' nrM,hrs12.few,fun x hx=>let ⟨a,b⟩:=hrs12.lst x hx;⟨k13 _ _ a (Zc4 a R12.at' msne),b⟩⟩
   refine⟨fun σ' H'=>∃ (fs:List (Addr×List Str)) (cc:Int),σ'=[some (.ref a),some (.int (0+(ii:Int))),some (.ref p),some (.ref r),some (.int (0+(jj:Int))),some (.ref M),some (.int (i0:Int)),some (.int j),v8,v9]∧ZR H' p cc∧cc≤c+3∧ZY H' M fs∧fs.length≤20∧(∀k y,k<i0→fs[k]? = some y→sortedS y.2=true)∧fs[i0]? = some (kk,ts)∧ZY H' r rs∧ZH H H',?_,?_⟩
   ·refine⟨_,rfl,p,_,2,rfl,L13,by omega,by decide,by decide,fun b H14 b0 b1 L14 B14=>⟨rfl,_,rfl,?_⟩⟩
    have s014:ZH H H14:=fun b o hb=>B14 b o (s013 b o hb) (Zb hb nHp)
    have R14:=R13.but L13 B14
    have hrs14:=hrs13.but L13 B14
    refine Zbi (fun d=>?_) (fun d=>?_)
    ·refine⟨_,rfl,.inl ⟨rfl,_,SqL.of R14.at'⟩,Zp (by simp),fun nb hnb=>?_⟩
     have xb:=Zk hnb (.lst [.str "b",.str "a"])
     have yb:(upd H14 nb (.lst [.str "b",.str "a"])) nb=some (.lst (baS.map V.str)):=Ze
     generalize upd H14 nb (.lst [.str "b",.str "a"])=H15 at xb yb ⊢
     have R15:=R14.same xb
     have hrs15:=hrs14.same xb
     refine⟨M,_,_,rfl,rfl,R15.at',Zp (by rw[Qb];omega),?_⟩
     rw[show ns.map (fun x=>V.ref x.1)++[V.ref nb]=(ns++[(nb,baS)]).map (fun x=>V.ref x.1) by rw[Qh];rfl]
     have nsne:ns≠[]:=fun z=>by rw[z]at hnl;simp at hnl
     have k16:∀b o,H15 b=some o→b≠M→(upd H15 M (.lst ((ns++[(nb,baS)]).map fun x=>V.ref x.1))) b=some o:=fun b o hb n=>by rw[Zc n];exact hb
     refine⟨ns++[(nb,baS)],_,rfl,(L14.same xb).at nHp6,by omega,⟨Ze,by rw[Qm];simp;omega,fun x hx=>?_⟩,by rw[Qm];simp;omega,fun k y hk hy=>?_,?_,⟨k16 _ _ hrs15.at' nrM,hrs15.few,fun x hx=>let ⟨a,b⟩:=hrs15.lst x hx;⟨k16 _ _ a (Zc4 a R15.at' nsne),b⟩⟩,fun b o hb=>k16 b o (xb _ _ (s014 b o hb)) (Zb hb hM0)⟩
     ·rcases Qg.mp hx with hx|hx
      ·obtain⟨g1,g2⟩:=R15.lst x hx
       exact⟨k16 _ _ g1 (Zc4 g1 R15.at' nsne),g2⟩
      ·rw[Qj.mp hx]
       exact⟨k16 _ _ yb (Zc4 yb R15.at' nsne),(show baS.length≤100 by decide),Zkv⟩
     ·rw[QS (by omega)]at hy
      exact nsk k y hk hy
     ·rw[QS (by omega)];exact nsi
    ·exact⟨ns,_,rfl,L14,by omega,R14,by omega,nsk,nsi,hrs14,s014⟩
   ·rintro σ H14 ⟨fs,cc,rfl,L14,hcc,R14,hfl,fsk,fsi,hrs14,s014⟩
    refine⟨_,rfl,M,rfl,⟨_,SqL.of R14.at'⟩,fun D2 hD2=>?_⟩
    refine ZdC (K:=K) (a:=M) (xs:=fs.map fun x=>V.ref x.1) (fun i zs σ H7=>(∃v:Option V,σ=[some (.ref a),some (.int (0+(ii:Int))),some (.ref p),some (.ref r),some (.int (0+(jj:Int))),some (.ref M),some (.int (i0:Int)),some (.int j),v8,v9,v])∧CpI H14 D2 fs i zs H7) ⟨⟨none,rfl⟩,CpI.zero hD2⟩ (fun _ _ _ _ h=>SqL.of (h.2.2.2.2 _ _ R14.at')) ?_ ?_
    ·rintro j' y zs σ H7 hy ⟨⟨v,rfl⟩,cp⟩
     rw[Qt]at hy
     cases hz:fs[j']? with
     | none=>rw[hz]at hy;cases hy
     | some x =>
     rw[hz]at hy
     cases hy
     have lx:=(R14.lst x (Qs hz)).1
     refine⟨_,rfl,x.1,_,rfl,.inl (SqL.of (cp.2.2.2 _ _ lx)),fun c hc=>?_⟩
     obtain⟨g1,g2⟩:=cp.step hD2 hz hc
     exact⟨g1,Zp (by have:=cp.len;have:=cp.2.1;omega),⟨_,rfl⟩,g2⟩
    rintro zs σ H15 ⟨⟨v,rfl⟩,cp⟩
    rw[Qb]at cp
    obtain⟨gs,rfl,hgs,R15',_,s15⟩:=cp.done R14
    have R15:=R14.same s15
    refine⟨_,rfl,.inr ⟨M,fs,i0,(kk,ts),j,rfl,R15,fsk,fsi,hbrk,fun t2 H16 s16 ht2 e16=>?_⟩⟩
    have hj0:0≤j∧j<1000000:=by
     rcases hbrk with⟨z,_⟩|⟨k,z,hk,_⟩
     ·cases z
     ·cases z;omega
    obtain⟨o1,o2,o3,o4⟩:=Zga (i:=(i0:Int)) (j:=j) (by omega) (by omega) hj0.1 hj0.2
    refine⟨_,rfl,_,_,rfl,DV.tup (SqT.of e16) (.cons (.str _) (.cons (.int _) (.cons (.int _) .nil))),o1,o2,o3,o4,?_⟩
    refine⟨_,rfl,_,rfl,Zp (by simp),fun t3 ht3=>?_⟩
    have s17:=Zk ht3 (.tup [.str "order",.int (i0:Int),.int j])
    refine⟨_,_,rfl,DV.tup (SqT.of Ze) (.cons (.str _) (.cons (.int _) (.cons (.int _) .nil))),o1,o2,o3,o4,?_⟩
    refine⟨rfl,_,rfl,Zg0 rfl ?_⟩
    have R17:=(R15.same s16).same s17
    have R17':=(R15'.same s16).same s17
    have azg:∀x∈gs,∀s∈x.2,AZ s:=fun x hx s hs'=>((R17'.lst x hx).2.2 s hs').2
    refine⟨_,rfl,_,rfl,ZaT gs,ZaT gs,(by rw[Zhn hgs];exact ZfA R17),ZfA R17',Zcl gs azg,Zcl gs azg,_,rfl,?_⟩
    rw[if_pos rfl,ZgX gs azg]
    refine Zcu ?_
    have s0:=(s15.trans s16).trans s17
    exact(xw7 _ _ _ _ _ _ _ ⟨rfl,L14.same s0,by omega,hrs14.same s0,s014.trans s0⟩)
  ·rintro σ H6 ⟨v4,v5,v6,v7,v8,v9,c,rfl,L6,hc6,hrs6,s6⟩
   exact(xw9 _ _ _ _ _ _ _ _ _ ⟨rfl,s6⟩)
 ·rintro σ H2 ⟨v1,v2,v3,v4,v5,v6,v7,v8,v9,rfl,s2⟩
  exact q H2
end
theorem Z1{K:PySem.W.Frag}{h:Heap}{mg:Str→Option Value}{x:Str}{st:Stmt}{ps:List Str}{f:Addr}{od an:Option Addr}{sl:Array (Option Value)}{oc kV dc pm cd ct:Value}(X:K.In h)(G:h.Ns mainGlobals mg)
  (a:PySem.W.nsIn K mainGlobals x=some (some (.ref f))) (l:K.lookup f=some ⟨oc,od,.func (PySem.W.fnOf x x (Zq st) (Zm st) (Zd st) .none kV dc pm an cd ct),sl⟩) (c:PySem.W.codeIn K cd x=true) (k:PySem.W.keepIn K (.ref f)=true)
  (hb:∀ (kV doc pm:Value) (an:Option Addr) (cdv ct:Value) (us:List Value),us.length=ps.length→bindArgs (PySem.W.fnOf x x (Zq st) (Zm st) (Zd st) .none kV doc pm an cdv ct) ⟨us,[]⟩=pure (ps.zip us)):Top K mg x st ps :=
 ⟨_,_,ZU (st:=st) l c k,QH X G a,(ZU (st:=st) l c k).binds hb⟩
theorem Zjr{n:Nat}{us:List Value}(h:us.length=n+1):∃a r,us=a::r∧r.length=n:=by
 obtain⟨a,r,rfl⟩:=List.exists_cons_of_length_eq_add_one h
 exact⟨a,r,rfl,Nat.succ.inj h⟩
theorem Zc1(us:List Value)(h:us.length=1):∃a0,us=[a0]:=List.length_eq_one_iff.mp h
theorem Zcr(us:List Value)(h:us.length=2):∃a0 a1,us=[a0,a1]:=by
 obtain⟨a,r,rfl,g⟩:=Zjr h
 obtain⟨b0,rfl⟩:=Zc1 r g
 exact⟨a,b0,rfl⟩
theorem Zfq(us:List Value)(h:us.length=3):∃a0 a1 a2,us=[a0,a1,a2]:=by
 obtain⟨a,r,rfl,g⟩:=Zjr h
 obtain⟨b0,b1,rfl⟩:=Zcr r g
 exact⟨a,b0,b1,rfl⟩
theorem Zkj(us:List Value)(h:us.length=4):∃a0 a1 a2 a3,us=[a0,a1,a2,a3]:=by
 obtain⟨a,r,rfl,g⟩:=Zjr h
 obtain⟨b0,b1,b2,rfl⟩:=Zfq r g
 exact⟨a,b0,b1,b2,rfl⟩
theorem all_mk{l:PySem.W.OpenLaw}{w:World}{K:PySem.W.Frag}{h:Heap}{mg:Str→Option Value}{fa:Addr}(X:K.In h)(G:h.Ns mainGlobals mg)(hfa:mg "law" = some (.ref fa))
  {cRow:Addr}
  {cMerge:Addr}
  {cMergeError:Addr}
  {cFull:Addr}
  {cNoRow:Addr}
  {cOutOfOrder:Addr}
  {cBadLine:Addr}
  {nmMergeError qMergeError:Str} {NMergeError:Addr} {bsMergeError:List Value} {snMergeError:List Str} {subMergeError:List Value} {abMergeError:Bool} {colMergeError:Option Bool} {ddMergeError:Option Addr} {k0MergeError k1MergeError k2MergeError k3MergeError k5MergeError:Option Value}
  {nmOutOfOrder qOutOfOrder:Str} {NOutOfOrder:Addr} {bsOutOfOrder:List Value} {snOutOfOrder:List Str} {subOutOfOrder:List Value} {abOutOfOrder:Bool} {colOutOfOrder:Option Bool} {ddOutOfOrder:Option Addr} {k0OutOfOrder k1OutOfOrder k2OutOfOrder k3OutOfOrder k5OutOfOrder:Option Value}
  (aCRow:#[Xns,K,"Row",cRow]) (pgRow:PySem.W.plainGet K cRow Str.empty=true) (hdRow:PySem.W.hasDictIn K cRow=true) (poRow:PySem.W.plainOver K cRow=true) (saRow:PySem.W.findIn K (.ref cRow) "__setattr__" = some (some (.builtin "object.__setattr__"))) (mkRow:PySem.W.makesIn K cRow=true) (kcRow:#[Xki,K,cRow])
  (nARow_all_keys:PySem.W.findIn K (.ref cRow) "all_keys" = some none)
  (nARow_fars:PySem.W.findIn K (.ref cRow) "fars" = some none)
  (nARow_gone:PySem.W.findIn K (.ref cRow) "gone" = some none)
  (aCMerge:#[Xns,K,"Merge",cMerge]) (pgMerge:PySem.W.plainGet K cMerge Str.empty=true) (hdMerge:PySem.W.hasDictIn K cMerge=true) (poMerge:PySem.W.plainOver K cMerge=true) (saMerge:PySem.W.findIn K (.ref cMerge) "__setattr__" = some (some (.builtin "object.__setattr__"))) (mkMerge:PySem.W.makesIn K cMerge=true) (kcMerge:#[Xki,K,cMerge])
  (nAMerge_best:PySem.W.findIn K (.ref cMerge) "best" = some none)
  (nAMerge_likened:PySem.W.findIn K (.ref cMerge) "likened" = some none)
  (nAMerge_looked:PySem.W.findIn K (.ref cMerge) "looked" = some none)
  (nAMerge_next_number:PySem.W.findIn K (.ref cMerge) "next_number" = some none)
  (nAMerge_rows:PySem.W.findIn K (.ref cMerge) "rows" = some none)
  (nAMerge_stays:PySem.W.findIn K (.ref cMerge) "stays" = some none)
  (aCMergeError:#[Xns,K,"MergeError",cMergeError])
  (aCFull:#[Xns,K,"Full",cFull])
  (aCNoRow:#[Xns,K,"NoRow",cNoRow])
  (aCOutOfOrder:#[Xns,K,"OutOfOrder",cOutOfOrder])
  (aCBadLine:#[Xns,K,"BadLine",cBadLine])
  (loMergeError:K.lookup cMergeError=some (excClassObj nmMergeError qMergeError cMergeError NMergeError bsMergeError Zbp true snMergeError subMergeError abMergeError colMergeError ddMergeError k0MergeError k1MergeError k2MergeError k3MergeError k5MergeError "ValueError.__new__"))
  (bs_MergeError:PySem.W.specialIn K (.ref cMergeError) "__getattribute__" = some (some (.builtin "type.__getattribute__")))
  (br_MergeError:PySem.W.readsIn K cMergeError (.type "type")=true)
  (bf_MergeError:PySem.W.findCls K (.ref cMergeError) (.type "type") "__init__" = some (.val (.builtin "ValueError.__init__")))
  (loOutOfOrder:K.lookup cOutOfOrder=some (excClassObj nmOutOfOrder qOutOfOrder cOutOfOrder NOutOfOrder bsOutOfOrder (.ref cMergeError::Zbp) true snOutOfOrder subOutOfOrder abOutOfOrder colOutOfOrder ddOutOfOrder k0OutOfOrder k1OutOfOrder k2OutOfOrder k3OutOfOrder k5OutOfOrder "ValueError.__new__"))
  (kcOutOfOrder:#[Xki,K,cOutOfOrder])
  (saOutOfOrder:PySem.W.findIn K (.ref cOutOfOrder) "__setattr__" = some (some (.builtin "object.__setattr__")))
  (nAOutOfOrder_row:PySem.W.findIn K (.ref cOutOfOrder) "row" = some none)
  (nAOutOfOrder_place:PySem.W.findIn K (.ref cOutOfOrder) "place" = some none)
  (g1OutOfOrder:PySem.W.findIn K (.ref cOutOfOrder) "__getattribute__" = some (some (.builtin "BaseException.__getattribute__")))
  (g2OutOfOrder:PySem.W.findIn K (.ref cOutOfOrder) "__getattr__" = some none)
  (g3OutOfOrder:PySem.W.subIn K (.ref cOutOfOrder) (.type "BaseException")=some true)
  (g4OutOfOrder:PySem.W.hasDictIn K cOutOfOrder=true)
  (g5OutOfOrder:PySem.W.findIn K (.ref cOutOfOrder) "__class__" = some (some (.builtin "object.__class__")))
  (g6OutOfOrder:PySem.W.mroIn K cOutOfOrder (.type "object")=some true)
  (gvOutOfOrder:PySem.W.subIn K (.ref cOutOfOrder) (.type "ValueError")=some true)
  (gsOutOfOrder:PySem.W.subIn K (.ref cOutOfOrder) (.ref cOutOfOrder)=some true)
  (gkOutOfOrder_MergeError:PySem.W.subIn K (.ref cOutOfOrder) (.ref cMergeError)=some true)
  (gkOutOfOrder_Full:PySem.W.subIn K (.ref cOutOfOrder) (.ref cFull)=some false)
  (gkOutOfOrder_NoRow:PySem.W.subIn K (.ref cOutOfOrder) (.ref cNoRow)=some false)
  (gkOutOfOrder_BadLine:PySem.W.subIn K (.ref cOutOfOrder) (.ref cBadLine)=some false)
  (giMergeError:PySem.W.isClsIn K cMergeError=true)
  (gtMergeError:PySem.W.typeIn K (.ref cMergeError)=some (.type "type"))
  (giFull:PySem.W.isClsIn K cFull=true)
  (gtFull:PySem.W.typeIn K (.ref cFull)=some (.type "type"))
  (giNoRow:PySem.W.isClsIn K cNoRow=true)
  (gtNoRow:PySem.W.typeIn K (.ref cNoRow)=some (.type "type"))
  (giOutOfOrder:PySem.W.isClsIn K cOutOfOrder=true)
  (gtOutOfOrder:PySem.W.typeIn K (.ref cOutOfOrder)=some (.type "type"))
  (giBadLine:PySem.W.isClsIn K cBadLine=true)
  (gtBadLine:PySem.W.typeIn K (.ref cBadLine)=some (.type "type"))
  (hkg:PySem.W.specialIn K (.builtin "object.__class__") "__get__" = some (some (.builtin "getset_descriptor.__get__")))
  (hkt:PySem.W.takesIn K (.builtin "object.__class__")=some true)
  (a0:#[Xns,K,"halves",f0]) (l0:#[Xlk,K,f0,oc0,od0,"halves","halves",Za2,kV0,dc0,pm0,an0,cd0,ct0,sl0]) (c0:#[Xci,K,cd0,"halves"]) (k0:#[Xki,K,f0])
  (a1:#[Xns,K,"alike",f1]) (l1:#[Xlk,K,f1,oc1,od1,"alike","alike",ZbC,kV1,dc1,pm1,an1,cd1,ct1,sl1]) (c1:#[Xci,K,cd1,"alike"]) (k1:#[Xki,K,f1])
  (a2:#[Xns,K,"liken",f2]) (l2:#[Xlk,K,f2,oc2,od2,"liken","liken",Zbw,kV2,dc2,pm2,an2,cd2,ct2,sl2]) (c2:#[Xci,K,cd2,"liken"]) (k2:#[Xki,K,f2])
  (a3:#[Xns,K,"liken_from",f3]) (l3:#[Xlk,K,f3,oc3,od3,"liken_from","liken_from",Zai,kV3,dc3,pm3,an3,cd3,ct3,sl3]) (c3:#[Xci,K,cd3,"liken_from"]) (k3:#[Xki,K,f3])
  (a4:#[Xns,K,"alike_from",f4]) (l4:#[Xlk,K,f4,oc4,od4,"alike_from","alike_from",Zaj,kV4,dc4,pm4,an4,cd4,ct4,sl4]) (c4:#[Xci,K,cd4,"alike_from"]) (k4:#[Xki,K,f4])
  (a5:#[Xns,K,"order_at",f5]) (l5:#[Xlk,K,f5,oc5,od5,"order_at","order_at",ZaD,kV5,dc5,pm5,an5,cd5,ct5,sl5]) (c5:#[Xci,K,cd5,"order_at"]) (k5:#[Xki,K,f5])
  (a6:#[Xns,K,"first_break",f6]) (l6:#[Xlk,K,f6,oc6,od6,"first_break","first_break",Zaa,kV6,dc6,pm6,an6,cd6,ct6,sl6]) (c6:#[Xci,K,cd6,"first_break"]) (k6:#[Xki,K,f6])
  (a7:#[Xns,K,"alikes",f7]) (l7:#[Xlk,K,f7,oc7,od7,"alikes","alikes",ZaY,kV7,dc7,pm7,an7,cd7,ct7,sl7]) (c7:#[Xci,K,cd7,"alikes"]) (k7:#[Xki,K,f7])
  (a8:#[Xns,K,"refuse_break",f8]) (l8:#[Xlk,K,f8,oc8,od8,"refuse_break","refuse_break",Z5,kV8,dc8,pm8,an8,cd8,ct8,sl8]) (c8:#[Xci,K,cd8,"refuse_break"]) (k8:#[Xki,K,f8])
  (a9:#[Xns,K,"_law_mix",f9]) (l9:#[Xlk,K,f9,oc9,od9,"_law_mix","_law_mix",ZbD,kV9,dc9,pm9,an9,cd9,ct9,sl9]) (c9:#[Xci,K,cd9,"_law_mix"]) (k9:#[Xki,K,f9])
  (a10:#[Xns,K,"_law_left",f10]) (l10:#[Xlk,K,f10,oc10,od10,"_law_left","_law_left",Za8,kV10,dc10,pm10,an10,cd10,ct10,sl10]) (c10:#[Xci,K,cd10,"_law_left"]) (k10:#[Xki,K,f10])
  (a11:#[Xns,K,"_law_pick",f11]) (l11:#[Xlk,K,f11,oc11,od11,"_law_pick","_law_pick",Za4,kV11,dc11,pm11,an11,cd11,ct11,sl11]) (c11:#[Xci,K,cd11,"_law_pick"]) (k11:#[Xki,K,f11])
  (a12:#[Xns,K,"_law_stems",f12]) (l12:#[Xlk,K,f12,oc12,od12,"_law_stems","_law_stems",Zav,kV12,dc12,pm12,an12,cd12,ct12,sl12]) (c12:#[Xci,K,cd12,"_law_stems"]) (k12:#[Xki,K,f12])
  (a13:#[Xns,K,"_law_key",f13]) (l13:#[Xlk,K,f13,oc13,od13,"_law_key","_law_key",Za3,kV13,dc13,pm13,an13,cd13,ct13,sl13]) (c13:#[Xci,K,cd13,"_law_key"]) (k13:#[Xki,K,f13])
  (a14:#[Xns,K,"_law_keys",f14]) (l14:#[Xlk,K,f14,oc14,od14,"_law_keys","_law_keys",Zbb,kV14,dc14,pm14,an14,cd14,ct14,sl14]) (c14:#[Xci,K,cd14,"_law_keys"]) (k14:#[Xki,K,f14])
  (a15:#[Xns,K,"_law_row",f15]) (l15:#[Xlk,K,f15,oc15,od15,"_law_row","_law_row",Zbv,kV15,dc15,pm15,an15,cd15,ct15,sl15]) (c15:#[Xci,K,cd15,"_law_row"]) (k15:#[Xki,K,f15])
  (a16:#[Xns,K,"_law_many",f16]) (l16:#[Xlk,K,f16,oc16,od16,"_law_many","_law_many",Zbc,kV16,dc16,pm16,an16,cd16,ct16,sl16]) (c16:#[Xci,K,cd16,"_law_many"]) (k16:#[Xki,K,f16])
  (a17:#[Xns,K,"_law_rows",f17]) (l17:#[Xlk,K,f17,oc17,od17,"_law_rows","_law_rows",ZaI,kV17,dc17,pm17,an17,cd17,ct17,sl17]) (c17:#[Xci,K,cd17,"_law_rows"]) (k17:#[Xki,K,f17])
  (a18:#[Xns,K,"_law_broken",f18]) (l18:#[Xlk,K,f18,oc18,od18,"_law_broken","_law_broken",Zap,kV18,dc18,pm18,an18,cd18,ct18,sl18]) (c18:#[Xci,K,cd18,"_law_broken"]) (k18:#[Xki,K,f18])
  (a19:#[Xns,K,"_law_refused",f19]) (l19:#[Xlk,K,f19,oc19,od19,"_law_refused","_law_refused",Zat,kV19,dc19,pm19,an19,cd19,ct19,sl19]) (c19:#[Xci,K,cd19,"_law_refused"]) (k19:#[Xki,K,f19])
  (a20:#[Xns,K,"law",f20]) (l20:#[Xlk,K,f20,oc20,od20,"law","law",ZaP,kV20,dc20,pm20,an20,cd20,ct20,sl20]) (c20:#[Xci,K,cd20,"law"]) (k20:#[Xki,K,f20])
  (a21:#[Xfi,K,cOutOfOrder,"__init__",f21]) (i21:#[Xif,K,f21]) (l21:#[Xlk,K,f21,oc21,od21,"__init__","OutOfOrder.__init__",ZB,kV21,dc21,pm21,an21,cd21,ct21,sl21]) (c21:#[Xci,K,cd21,"OutOfOrder.__init__"]) (k21:#[Xki,K,f21])
  (a22:#[Xfi,K,cRow,"__init__",f22]) (i22:#[Xif,K,f22]) (l22:#[Xlk,K,f22,oc22,od22,"__init__","Row.__init__",Zad,kV22,dc22,pm22,an22,cd22,ct22,sl22]) (c22:#[Xci,K,cd22,"Row.__init__"]) (k22:#[Xki,K,f22])
  (a23:#[Xfi,K,cRow,"to_go",f23]) (i23:#[Xif,K,f23]) (l23:#[Xlk,K,f23,oc23,od23,"to_go","Row.to_go",Z3,kV23,dc23,pm23,an23,cd23,ct23,sl23]) (c23:#[Xci,K,cd23,"Row.to_go"]) (k23:#[Xki,K,f23])
  (a24:#[Xfi,K,cRow,"head",f24]) (i24:#[Xif,K,f24]) (l24:#[Xlk,K,f24,oc24,od24,"head","Row.head",Zac,kV24,dc24,pm24,an24,cd24,ct24,sl24]) (c24:#[Xci,K,cd24,"Row.head"]) (k24:#[Xki,K,f24])
  (a25:#[Xfi,K,cMerge,"__init__",f25]) (i25:#[Xif,K,f25]) (l25:#[Xlk,K,f25,oc25,od25,"__init__","Merge.__init__",ZS,kV25,dc25,pm25,an25,cd25,ct25,sl25]) (c25:#[Xci,K,cd25,"Merge.__init__"]) (k25:#[Xki,K,f25])
  (a26:#[Xfi,K,cMerge,"looks",f26]) (i26:#[Xif,K,f26]) (l26:#[Xlk,K,f26,oc26,od26,"looks","Merge.looks",ZO,kV26,dc26,pm26,an26,cd26,ct26,sl26]) (c26:#[Xci,K,cd26,"Merge.looks"]) (k26:#[Xki,K,f26])
  (a27:#[Xfi,K,cMerge,"play_all",f27]) (i27:#[Xif,K,f27]) (l27:#[Xlk,K,f27,oc27,od27,"play_all","Merge.play_all",ZE,kV27,dc27,pm27,an27,cd27,ct27,sl27]) (c27:#[Xci,K,cd27,"Merge.play_all"]) (k27:#[Xki,K,f27])
  (a28:#[Xfi,K,cMerge,"play",f28]) (i28:#[Xif,K,f28]) (l28:#[Xlk,K,f28,oc28,od28,"play","Merge.play",ZT,kV28,dc28,pm28,an28,cd28,ct28,sl28]) (c28:#[Xci,K,cd28,"Merge.play"]) (k28:#[Xki,K,f28])
  (a29:#[Xfi,K,cMerge,"meet",f29]) (i29:#[Xif,K,f29]) (l29:#[Xlk,K,f29,oc29,od29,"meet","Merge.meet",ZV,kV29,dc29,pm29,an29,cd29,ct29,sl29]) (c29:#[Xci,K,cd29,"Merge.meet"]) (k29:#[Xki,K,f29])
  (z0:PySem.W.nsIn K mainGlobals "ValueError" = some none) (z1:PySem.W.nsIn K mainGlobals "abs" = some none) (z2:PySem.W.nsIn K mainGlobals "enumerate" = some none) (z3:PySem.W.nsIn K mainGlobals "int" = some none) (z4:PySem.W.nsIn K mainGlobals "isinstance" = some none) (z5:PySem.W.nsIn K mainGlobals "len" = some none) (z6:PySem.W.nsIn K mainGlobals "list" = some none) (z7:PySem.W.nsIn K mainGlobals "range" = some none) (z8:PySem.W.nsIn K mainGlobals "sorted" = some none) (z9:PySem.W.nsIn K mainGlobals "str" = some none) :
  ∃fd:FuncData,(∀ (s:Shared) (v:Value),BindsTo s fd ⟨[v],[]⟩ [("_law_script",v)])∧∀base:Heap,K.In base→base.Ns mainGlobals mg→ZaA l.prog w K mg base CX0 17 fa fd ["_law_script"] (ZfI K):=by
 have e:=hfa.symm.trans (QH X G a20)
 cases e
 have T:Zag K mg cRow cMerge cMergeError cFull cNoRow cOutOfOrder cBadLine:=⟨⟨QA X G z0,QA X G z1,QA X G z2,QA X G z3,QA X G z4,QA X G z5,QA X G z6,QA X G z7,QA X G z8,QA X G z9⟩,Z1 X G a0 l0 c0 k0 (fun _ _ _ _ _ _ us hl=>by obtain⟨_,rfl⟩:=Zc1 us hl;exact rfl),Z1 X G a1 l1 c1 k1 (fun _ _ _ _ _ _ us hl=>by obtain⟨_,_,rfl⟩:=Zcr us hl;exact rfl),Z1 X G a2 l2 c2 k2 (fun _ _ _ _ _ _ us hl=>by obtain⟨_,_,rfl⟩:=Zcr us hl;exact rfl),Z1 X G a3 l3 c3 k3 (fun _ _ _ _ _ _ us hl=>by obtain⟨_,_,_,rfl⟩:=Zfq us hl;exact rfl),Z1 X G a4 l4 c4 k4 (fun _ _ _ _ _ _ us hl=>by obtain⟨_,_,_,rfl⟩:=Zfq us hl;exact rfl),Z1 X G a5 l5 c5 k5 (fun _ _ _ _ _ _ us hl=>by obtain⟨_,_,_,rfl⟩:=Zfq us hl;exact rfl),Z1 X G a6 l6 c6 k6 (fun _ _ _ _ _ _ us hl=>by obtain⟨_,rfl⟩:=Zc1 us hl;exact rfl),Z1 X G a7 l7 c7 k7 (fun _ _ _ _ _ _ us hl=>by obtain⟨_,rfl⟩:=Zc1 us hl;exact rfl),Z1 X G a8 l8 c8 k8 (fun _ _ _ _ _ _ us hl=>by obtain⟨_,_,rfl⟩:=Zcr us hl;exact rfl),Z1 X G a9 l9 c9 k9 (fun _ _ _ _ _ _ us hl=>by obtain⟨_,_,rfl⟩:=Zcr us hl;exact rfl),Z1 X G a10 l10 c10 k10 (fun _ _ _ _ _ _ us hl=>by obtain⟨_,_,rfl⟩:=Zcr us hl;exact rfl),Z1 X G a11 l11 c11 k11 (fun _ _ _ _ _ _ us hl=>by obtain⟨_,_,rfl⟩:=Zcr us hl;exact rfl),Z1 X G a12 l12 c12 k12 (fun _ _ _ _ _ _ us hl=>by obtain⟨_,rfl⟩:=Zc1 us hl;exact rfl),Z1 X G a13 l13 c13 k13 (fun _ _ _ _ _ _ us hl=>by obtain⟨_,_,rfl⟩:=Zcr us hl;exact rfl),Z1 X G a14 l14 c14 k14 (fun _ _ _ _ _ _ us hl=>by obtain⟨_,_,_,rfl⟩:=Zfq us hl;exact rfl),Z1 X G a15 l15 c15 k15 (fun _ _ _ _ _ _ us hl=>by obtain⟨_,_,_,rfl⟩:=Zfq us hl;exact rfl),Z1 X G a16 l16 c16 k16 (fun _ _ _ _ _ _ us hl=>by obtain⟨_,rfl⟩:=Zc1 us hl;exact rfl),Z1 X G a17 l17 c17 k17 (fun _ _ _ _ _ _ us hl=>by obtain⟨_,rfl⟩:=Zc1 us hl;exact rfl),Z1 X G a18 l18 c18 k18 (fun _ _ _ _ _ _ us hl=>by obtain⟨_,_,rfl⟩:=Zcr us hl;exact rfl),Z1 X G a19 l19 c19 k19 (fun _ _ _ _ _ _ us hl=>by obtain⟨_,_,_,_,rfl⟩:=Zkj us hl;exact rfl),⟨_,_,ZU (st:=ZB) l21 c21 k21,⟨⟨_,_,_,_,_,_,_,_,_,_,_,_,_,_,loOutOfOrder⟩,a21,i21,kcOutOfOrder,saOutOfOrder⟩,(ZU (st:=ZB) l21 c21 k21).binds (ps:=["self", "row", "place"]) (fun _ _ _ _ _ _ us hl=>by obtain⟨_,_,_,rfl⟩:=Zfq us hl;exact rfl),QH X G aCOutOfOrder⟩,⟨_,_,ZU (st:=Zad) l22 c22 k22,⟨mkRow,a22,i22,kcRow⟩,(ZU (st:=Zad) l22 c22 k22).binds (ps:=["self", "keys"]) (fun _ _ _ _ _ _ us hl=>by obtain⟨_,_,rfl⟩:=Zcr us hl;exact rfl),QH X G aCRow⟩,⟨_,_,ZU (st:=Z3) l23 c23 k23,⟨a23,i23,k23⟩,(ZU (st:=Z3) l23 c23 k23).binds (ps:=["self"]) (fun _ _ _ _ _ _ us hl=>by obtain⟨_,rfl⟩:=Zc1 us hl;exact rfl)⟩,⟨_,_,ZU (st:=Zac) l24 c24 k24,⟨a24,i24,k24⟩,(ZU (st:=Zac) l24 c24 k24).binds (ps:=["self"]) (fun _ _ _ _ _ _ us hl=>by obtain⟨_,rfl⟩:=Zc1 us hl;exact rfl)⟩,⟨_,_,ZU (st:=ZS) l25 c25 k25,⟨mkMerge,a25,i25,kcMerge⟩,(ZU (st:=ZS) l25 c25 k25).binds (ps:=["self", "rows"]) (fun _ _ _ _ _ _ us hl=>by obtain⟨_,_,rfl⟩:=Zcr us hl;exact rfl),QH X G aCMerge⟩,⟨_,_,ZU (st:=ZO) l26 c26 k26,⟨a26,i26,k26⟩,(ZU (st:=ZO) l26 c26 k26).binds (ps:=["self"]) (fun _ _ _ _ _ _ us hl=>by obtain⟨_,rfl⟩:=Zc1 us hl;exact rfl)⟩,⟨_,_,ZU (st:=ZE) l27 c27 k27,⟨a27,i27,k27⟩,(ZU (st:=ZE) l27 c27 k27).binds (ps:=["self"]) (fun _ _ _ _ _ _ us hl=>by obtain⟨_,rfl⟩:=Zc1 us hl;exact rfl)⟩,⟨_,_,ZU (st:=ZT) l28 c28 k28,⟨a28,i28,k28⟩,(ZU (st:=ZT) l28 c28 k28).binds (ps:=["self", "numbers"]) (fun _ _ _ _ _ _ us hl=>by obtain⟨_,_,rfl⟩:=Zcr us hl;exact rfl)⟩,⟨_,_,ZU (st:=ZV) l29 c29 k29,⟨a29,i29,k29⟩,(ZU (st:=ZV) l29 c29 k29).binds (ps:=["self", "one", "other", "far"]) (fun _ _ _ _ _ _ us hl=>by obtain⟨_,_,_,_,rfl⟩:=Zkj us hl;exact rfl)⟩,⟨pgRow,hdRow,poRow,saRow⟩,nARow_all_keys,nARow_fars,nARow_gone,⟨pgMerge,hdMerge,poMerge,saMerge⟩,nAMerge_best,nAMerge_likened,nAMerge_looked,nAMerge_next_number,nAMerge_rows,nAMerge_stays,QH X G aCMergeError,QH X G aCFull,QH X G aCNoRow,QH X G aCOutOfOrder,QH X G aCBadLine,⟨_,_,_,_,_,_,_,_,_,_,_,_,_,_,_,_,loMergeError⟩,⟨bs_MergeError,br_MergeError,bf_MergeError⟩,nAOutOfOrder_row,nAOutOfOrder_place,⟨g1OutOfOrder,g2OutOfOrder,g3OutOfOrder,g4OutOfOrder,g5OutOfOrder,g6OutOfOrder⟩,ZgI giMergeError gtMergeError gkOutOfOrder_MergeError,Zci giFull gtFull gkOutOfOrder_Full gsOutOfOrder,Zci giNoRow gtNoRow gkOutOfOrder_NoRow gsOutOfOrder,ZgR,Zci giBadLine gtBadLine gkOutOfOrder_BadLine gsOutOfOrder,Zky gvOutOfOrder,hkg,hkt⟩
 exact⟨PySem.W.fnOf "law" "law" (Zq ZaP) (Zm ZaP) (Zd ZaP) .none kV20 dc20 pm20 an20 cd20 ct20,fun s v=>.of_eq rfl,fun base _ _=>ZjM (ZU (st:=ZaP) l20 c20 k20) T⟩
theorem walk{l:PySem.W.OpenLaw}{q:Program}{loose:List Str}{XP:(Str→Option Value)→Heap→Prop}{YP:World→Heap→Prop}{d:DefRec}{K:Params→PySem.W.Frag}(hn:l.most=some 63)(hdf:d.params.defaults=[])
  (hY:∀ (w:World) (h:Heap),YP w h→(K w.params).In h)
  (F:∀ (w:World) (mg:Str→Option Value) (fa:Addr) (h:Heap),(K w.params).In h→h.Ns mainGlobals mg→mg d.name=some (.ref fa) →
   ∃fd:FuncData,(∀ (s:Shared) (u:Value),BindsTo s fd ⟨[u],[]⟩ [("_law_script",u)])∧∀base:Heap,(K w.params).In base→base.Ns mainGlobals mg→ZaA l.prog w (K w.params) mg base CX0 17 fa fd ["_law_script"] (ZfI (K w.params))) :
  PySem.W.WalkO q loose XP YP l.row.toRowW d [] (fun f vs=>PySem.call f vs) :=
 L2.walk_of (n:=63) (k:=17) (x := "_law_script") (CX:=fun _=>CX0) (sp:=fun w=>ZfI (K w.params)) hn (by decide) hdf ⟨rfl,by decide,by decide,rfl⟩ hY F (fun _ _ a ns hl _ hS=>⟨a,ns,rfl,hS,hl,fun _=>rfl⟩) fun _ _ _ _ _ z=>z
end My
open PySem PySem.W PyProof.Rows
namespace PySem.W.Fast
def tw10304438024934325732:=0
def tw6847576959707935423:=0
def tw16351620952747426473:=0
def tw13896084675801031913:=0
def tw3061089515098643147:=0
def tw5356878465507729580:=0
def tw1581522740810380712:=0
def tw4657779215750513064:=0
def tw15160254767397192145:=0
def tw3922839191778730410:=0
def tw13143851307144952948:=0
def tw17846944687984147380:=0
def tw16337576020422754477:=0
def tw3203919061996080943:=0
def tw2826455258497604112:=0
def tw11287458162636023865:=0
def tw9129882572081852443:=0
def tw6181014149748932085:=0
def tw8478320742106503710:=0
def tw14890355468731805335:=0
def tw2895402322425197591:=0
def tw2297480632222869688:=0
def tw3220849072577258456:=0
def tw701214321587068314:=0
def tw10021609670370082876:=0
def tw16050495889248760899:=0
def tw13912593851951416559:=0
def tw10102038484859233679:=0
def tw16295678424523340868:=0
def tw18041290809836266480:=0
def tw12293401688453389821:=0
def tw14493986990007253515:=0
def tw12213155859933978794:=0
def tw3370808704783523317:=0
def tw1836406676289282006:=0
def tw14769588187346843160:=0
def tw2899480059592481725:=0
def tw5335319010799070062:=0
def tw14469994519438985822:=0
def tw1287368699364575966:=0
def tw8604981214409142145:=0
def tw14143069668020463:=0
def tw6181091252778156640:=0
def tw2884006873826645086:=0
def tw9425385972518239501:=0
def tw1114547226950213938:=0
def tw6277872294834214308:=0
def tw5954763861646504728:=0
def tw14418856664696329634:=0
def tw197197170875961783:=0
def tw13932750234847127333:=0
def tw12097471492920354565:=0
def tw4553133026425050344:=0
def tw17027156613069545478:=0
def tw13909269877575246937:=0
def tw12802622723797032190:=0
def tw10181658297644170883:=0
def tw2511490032121724932:=0
def tw17380184557960008750:=0
def tw12659820100302229179:=0
def tw15461706682009584859:=0
def tw8929720768256150517:=0
def tw8110827680080403317:=0
def tw9133279155662352980:=0
def tw14785678749258631481:=0
def tw5240121974344742537:=0
def tw7166343771625496657:=0
def tw10219172347076398629:=0
def tw9493735349568079733:=0
def tw5300436805321697276:=0
def tw14174661709157125273:=0
def tw3962415924276165984:=0
def tw13701970078258685211:=0
def tw7068415363849575387:=0
def tw14101182046332106068:=0
def tw11338551122858281635:=0
def tw6100054322927720579:=0
def tw17342544992975399961:=0
def tw9411515031430954064:=0
def tw6682724002678276840:=0
def tw17113609978891637516:=0
def tw16953529220945164474:=0
def tw4826871210483104698:=0
def tw17292599745568327143:=0
def tw6961130805000513856:=0
def tw11542626633586333279:=0
def tw2617535472350111351:=0
def tw6151420226609005920:=0
def tw14000904457190064427:=0
def tw17383798200927222036:=0
def tw2530598596209508290:=0
def tw1107360527840256863:=0
def tw3865209056510354233:=0
def tw9523942567225614225:=0
def tw13485386074737017198:=0
def tw15481183404534984243:=0
def tw7239001275691253574:=0
def tw17733594319341826053:=0
def tw18191679993720639315:=0
def tw10356092704126502016:=0
def tw4987624729870451122:=0
def tw11517421334689994256:=0
def tw8465729076897778127:=0
def tw7820659455374204713:=0
def tw507558177280444468:=0
def tw7521411310984441418:=0
def tw1131716748554088554:=0
def tw665821875542152729:=0
def tw12272996643200921092:=0
def tw5172180254698509233:=0
def tw8724413750549393731:=0
def tw7232138665075793353:=0
def tw8566650204016744749:=0
def tw16905074241975093293:=0
def tw591573764920871587:=0
def tw2916439241523389443:=0
def tw13728271912483285441:=0
def tw6499288048157499941:=0
def tw11854712595626546629:=0
def tw11367437258664595175:=0
def tw15898236073001719529:=0
def tw12475534519983882906:=0
def tw8322947969873741155:=0
def tw783252988996092632:=0
def tw10036694483614270802:=0
def tw12841247912734507007:=0
def tw6905154093838583511:=0
def tw13603058583261795067:=0
def tw8977288951181113467:=0
def tw11358324098364121450:=0
def tw7802682436590846448:=0
def tw4450566392109580846:=0
def tw15105627769219796252:=0
def tw362770552694039223:=0
def tw12598946487957470640:=0
def tw5973813602318952350:=0
def tw984799154774216666:=0
def tw15349069299296728097:=0
def tw7227890631674310449:=0
def tw2723602897868459880:=0
def tw15358748440885436371:=0
def tw13873686203727590737:=0
def tw9767010022187106232:=0
def tw8991590133578466052:=0
def tw12079261548262038770:=0
def tw5780252790993995849:=0
def tw16410725997006392696:=0
def tw12649513319339137816:=0
def tw17103903936135712318:=0
def tw11739844368160609071:=0
def tw7812558806231148557:=0
def tw7313327086426110925:=0
def tw10215574708644125142:=0
def tw6428752839030453553:=0
def tw4732677267880831520:=0
def tw14549592796159036915:=0
def tw3269198786339567005:=0
def tw8690655169020496112:=0
def tw732984420042409351:=0
def tw5570668518959698784:=0
def tw3028501913477604546:=0
def tw5742218779153526262:=0
def tw16017020782328514281:=0
def tw5755399964959677289:=0
def tw16038683905465435247:=0
def tw2493764996658913555:=0
def tw10847085103663664331:=0
def tw16550573857447211129:=0
def tw3766609986367483365:=0
def tw15058292615269124184:=0
def tw11338038374091571397:=0
def tw3922224451925829987:=0
def tw18442026772582329959:=0
def tw11915530745536553894:=0
def tw3265886725568839264:=0
def tw1521225517113031178:=0
def tw12208495479000920728:=0
def tw4335987814406801960:=0
def tw6214295470822446114:=0
def tw10924579168734293155:=0
def tw5613677956554120117:=0
def tw6476278291566830114:=0
def tw3427676310267072117:=0
def tw1211967057050982293:=0
def tw10919563212343550509:=0
def tw14376817475375055335:=0
def tw10331891077187614304:=0
def tw6876740055511377012:=0
def tw2225866433056069371:=0
def tw13383414693048446199:=0
def tw17847044648096970753:=0
def tw3217944634543125999:=0
def tw11740894577105010080:=0
def tw17736720866357245300:=0
def tw126352897183349067:=0
def tw5453843626945230988:=0
def tw2279628528660720368:=0
def tw7405719222204108341:=0
def tw3778721041416436945:=0
def tw11612588337505700256:=0
def tw10862528556262306603:=0
def tw16579250800370514054:=0
def tw9095070418939908782:=0
def tw9093920920633996158:=0
def tw12334097044040393204:=0
def tw16624795908487506536:=0
def tw4725013668880433129:=0
def tw14242812432918013408:=0
def tw8358656630020203524:=0
def tw14432357594495396790:=0
def tw17244070407826150547:=0
def tw10688497139911900145:=0
def tw2064024991723683468:=0
def tw12460725307223765470:=0
def tw9762044086041748377:=0
def tw13540088196361512085:=0
def tw5646766015294000725:=0
def tw12307555922883473771:=0
def tw6672032322733633374:=0
def tw3205029008925140663:=0
def tw16632170299983353360:=0
def tw6101883774620145015:=0
def tw5373946957391405612:=0
def tw9877608994006407284:=0
def tw314438620069975671:=0
def tw14153295018259193012:=0
def tw1805306006445066280:=0
def tw18202647285408405120:=0
def tw4817433368097353976:=0
def tw14718330910236241108:=0
def tw6178796953636058712:=0
def tw4664429908925970844:=0
def tw2538943781895023103:=0
def tw7154195512081409748:=0
def tw4002719516988428768:=0
def tw14453913693292381276:=0
def tw17292943558582678703:=0
def tw16940534364477509730:=0
def tw1289158427137347542:=0
def tw2989045998361537666:=0
def tw16865601223720238178:=0
def tw3943432766194700114:=0
def tw10238145522992160033:=0
def tw14291143578577592809:=0
def tw9349720055447992999:=0
def tw8686908239131613064:=0
def tw8060994761394704192:=0
def tw13347461120981433516:=0
def tw2046706405781394728:=0
def tw12688129284315678757:=0
def tw10555861052430110248:=0
def tw9915273432497745902:=0
def tw3355288489114085905:=0
def tw7070400694689559501:=0
def tw1658693740444473359:=0
def tw3736800174930391645:=0
def tw14680161111853778049:=0
def tw13051025775373314082:=0
def tw13051235919375744183:=0
def tw1915843787574704631:=0
def tw9721594017459454392:=0
def tw2778691339130335685:=0
def tw2525247348365321801:=0
def tw3618643557563243124:=0
def tw18089761907054176394:=0
def tw3717813381351271988:=0
def tw12774456885062805031:=0
def tw1648525890088351691:=0
def tw12644197988096289852:=0
def tw1836400592036981965:=0
def tw12373763250823629494:=0
def tw1941346826655007539:=0
def tw17657287077736604978:=0
def tw16554964910892706208:=0
def tw16448999245289668701:=0
def tw15907381839692345359:=0
def tw15777770187935762721:=0
def tw14191133628221470107:=0
def tw7389414244672115713:=0
def tw8794295666584824881:=0
def tw3049679443589622341:=0
def tw14565076830133498990:=0
def tw902411103676626734:=0
def tw16376250540419098503:=0
def tw9948950180443881922:=0
def tw607840396383971749:=0
def tw2532026836909797374:=0
def tw9055483810263982641:=0
def tw9907421528355780322:=0
def tw5851023049438014603:=0
def tw14942278454519099221:=0
def tw7902458271174284761:=0
def tw15946181470594408437:=0
def tw2956554402041107185:=0
def tw11987132778455166120:=0
def tw8186579839305344590:=0
def tw2532605981709634576:=0
def tw15998410352841582970:=0
def tw3283566658708156687:=0
def tw13029317495525239424:=0
def tw17790556030859462879:=0
def tw580882803964523373:=0
def tw11682795525925130461:=0
def tw17975839782982642767:=0
def tw12800525105913350887:=0
def tw3084149852737682036:=0
def tw8071041933518045641:=0
def tw6268901169958601026:=0
def tw6210381487532564455:=0
def tw1283852854220106529:=0
def tw4800796894784630407:=0
def tw18204404072131770850:=0
def tw10095196454540222665:=0
def tw8891453111881968840:=0
def tw6585399330862381806:=0
def tw5847400541125034926:=0
def tw10569557760296579931:=0
def tw8253551623828629576:=0
def tw8053989632565080177:=0
def tw13921910296043840276:=0
def tw9850080738054814300:=0
def tw9021014721298527138:=0
def tw8476755261547525313:=0
def tw13334421496615966212:=0
def tw12943186580390988024:=0
def tw18066926940172937044:=0
def tw14862597105222612468:=0
def tw2018418551582302643:=0
def tw13906282201175641205:=0
def tw5888280599612244855:=0
def tw11307655308703297400:=0
def tw7468275161928122542:=0
def tw15304621496282332654:=0
def tw6192451641737537501:=0
def tw17216069882229794155:=0
def tw18198495587365173184:=0
def tw17869239740315014778:=0
def tw5925258368179489893:=0
def tw11624571517272670697:=0
def tw2504231418556207403:=0
def tw2845609779938522362:=0
def tw17827391718149219745:=0
def tw2769343866831779887:=0
def tw13815723481883091475:=0
def tw1803349006212297878:=0
def tw5365822003967391587:=0
def tw12658669855004286201:=0
def tw6615113396844818355:=0
def tw2521766711305480616:=0
def tw7960950520729031152:=0
def tw8534152973461726831:=0
def tw85439333055485245:=0
def tw16769812520094591823:=0
def tw223497589678276277:=0
def tw9797894862942804403:=0
def tw5180429724632744649:=0
def tw15169474695015159020:=0
def tw13979838769560803532:=0
def tw17082186215086825138:=0
def tw11700111840160472143:=0
def tw16638111520026372440:=0
def tw5158374385294777893:=0
def tw18156768287046893184:=0
def tw5276053384031217140:=0
def tw9493317542687150110:=0
def tw13178837490155645798:=0
def tw7388262603148527413:=0
def tw3069613105858965192:=0
def tw2538820705838590297:=0
def tw8550616149339205470:=0
def tw4423251221592277940:=0
def tw252066747592210030:=0
def tw6595413296317415489:=0
def tw11801654463323651344:=0
def tw7879901126640852974:=0
def tw1549565712259371029:=0
def tw17405165312615686247:=0
def tw5899521987457266465:=0
def tw1552020536140970309:=0
def tw5433451542963348673:=0
def tw1151881053343534976:=0
def tw5424045842157654902:=0
def tw3940108630435311511:=0
def tw1378350672169241563:=0
def tw11300434230562091821:=0
def tw7332536609173257213:=0
def tw18344791219966631955:=0
def tw87183667045309153:=0
def tw18075512853367988184:=0
def tw14183719079880428019:=0
def tw15118183378901440054:=0
def tw7819003429479548896:=0
def tw9597670283894663963:=0
def tw5997076581303397548:=0
def tw16843045425667577939:=0
def tw7069214468466954553:=0
def tw7857364850027334914:=0
def tw11424540270580669919:=0
def tw15054923774183050899:=0
def tw1296705398550713650:=0
def tw7279460754222924332:=0
def tw16929062837576761719:=0
def tw15592636327043482749:=0
def tw15782077404278075011:=0
def tw7988470265505747973:=0
def tw5890884798653993808:=0
def tw4687068164724155174:=0
def tw8246872559734331964:=0
def tw11941230982999303556:=0
def tw1969044348659394721:=0
def tw4659209046213112382:=0
def tw7185237338334365390:=0
def tw10437411748367101200:=0
def tw10792451000672707776:=0
def tw11304264967080437710:=0
def tw16329555879951265425:=0
def tw9039798636883365379:=0
def tw12495307899546404211:=0
def tw13691080289642745113:=0
def tw4080998847681837355:=0
def tw5019830285429137946:=0
def tw5050427954515050751:=0
def tw10759477642013114571:=0
def tw5366375993365412501:=0
def tw12936616527468886259:=0
def tw7632158248948857815:=0
def tw14746231523995492941:=0
def tw914502593798778092:=0
def tw4716534317151619118:=0
def tw8249142205151510013:=0
def tw17236302089801314854:=0
def tw10440038919304123495:=0
def tw3398553576981797678:=0
def tw14871271983324993877:=0
def tw17181725795763103340:=0
def tw6812860026339514550:=0
def tw11931050177128336569:=0
def tw8994690007365257749:=0
def tw9269358712499024552:=0
def tw11642840221073575230:=0
def tw11273036982554575081:=0
def tw15822945575694265534:=0
def tw12409560233072324562:=0
def tw17600849349401548777:=0
def tw3434441920927437291:=0
def tw5829071895947049719:=0
def tw14305738845336315249:=0
def tw7347681447344995861:=0
def tw6394071904103611569:=0
def tw11305817262807743266:=0
def tw10063969161361171094:=0
def tw11998278594715317545:=0
def tw7462407132365836768:=0
def tw2741226630950660541:=0
def tw13124286374715417948:=0
def tw3362984960657235592:=0
def tw12964061215970492330:=0
def tw10359805407419903200:=0
def tw15654151215973373027:=0
def tw2101188000678627548:=0
def tw5233283266340904920:=0
def tw7824958844704406704:=0
def tw6861419957082842718:=0
def tw14701320240525385707:=0
def tw6637434998011144158:=0
end PySem.W.Fast
set_option maxRecDepth 100000 in
set_option maxHeartbeats 0 in
theorem PySem.Challenge.cw_mergetree_k17_rows_out_of_order_holds : PySem.Challenge.rw_mergetree_k17_rows_out_of_order.Holds := by
 w_on;o_law;k_head;(case hw=>w_witness2)
 k_fill
 refine My.walk (l:=PySem.Challenge.rw_mergetree_k17_rows_out_of_order) rfl rfl (fun w h Y=>PySem.W.kIn_of Y) ?F
 case F =>
  intro w mg fa h KX G hmg
  refine' My.all_mk KX G hmg ?aCRow ?pgRow ?hdRow ?poRow ?saRow ?mkRow ?kcRow ?nARow_all_keys ?nARow_fars ?nARow_gone ?aCMerge ?pgMerge ?hdMerge ?poMerge ?saMerge ?mkMerge ?kcMerge ?nAMerge_best ?nAMerge_likened ?nAMerge_looked ?nAMerge_next_number ?nAMerge_rows ?nAMerge_stays ?aCMergeError ?aCFull ?aCNoRow ?aCOutOfOrder ?aCBadLine ?loMergeError ?bs_MergeError ?br_MergeError ?bf_MergeError ?loOutOfOrder ?kcOutOfOrder ?saOutOfOrder ?nAOutOfOrder_row ?nAOutOfOrder_place ?g1OutOfOrder ?g2OutOfOrder ?g3OutOfOrder ?g4OutOfOrder ?g5OutOfOrder ?g6OutOfOrder ?gvOutOfOrder ?gsOutOfOrder ?gkOutOfOrder_MergeError ?gkOutOfOrder_Full ?gkOutOfOrder_NoRow ?gkOutOfOrder_BadLine ?giMergeError ?gtMergeError ?giFull ?gtFull ?giNoRow ?gtNoRow ?giOutOfOrder ?gtOutOfOrder ?giBadLine ?gtBadLine ?hkg ?hkt ?a0 ?l0 ?c0 ?k0 ?a1 ?l1 ?c1 ?k1 ?a2 ?l2 ?c2 ?k2 ?a3 ?l3 ?c3 ?k3 ?a4 ?l4 ?c4 ?k4 ?a5 ?l5 ?c5 ?k5 ?a6 ?l6 ?c6 ?k6 ?a7 ?l7 ?c7 ?k7 ?a8 ?l8 ?c8 ?k8 ?a9 ?l9 ?c9 ?k9 ?a10 ?l10 ?c10 ?k10 ?a11 ?l11 ?c11 ?k11 ?a12 ?l12 ?c12 ?k12 ?a13 ?l13 ?c13 ?k13 ?a14 ?l14 ?c14 ?k14 ?a15 ?l15 ?c15 ?k15 ?a16 ?l16 ?c16 ?k16 ?a17 ?l17 ?c17 ?k17 ?a18 ?l18 ?c18 ?k18 ?a19 ?l19 ?c19 ?k19 ?a20 ?l20 ?c20 ?k20 ?a21 ?i21 ?l21 ?c21 ?k21 ?a22 ?i22 ?l22 ?c22 ?k22 ?a23 ?i23 ?l23 ?c23 ?k23 ?a24 ?i24 ?l24 ?c24 ?k24 ?a25 ?i25 ?l25 ?c25 ?k25 ?a26 ?i26 ?l26 ?c26 ?k26 ?a27 ?i27 ?l27 ?c27 ?k27 ?a28 ?i28 ?l28 ?c28 ?k28 ?a29 ?i29 ?l29 ?c29 ?k29 ?z0 ?z1 ?z2 ?z3 ?z4 ?z5 ?z6 ?z7 ?z8 ?z9
  (case aCRow=>k_is)
  (case pgRow=>k_is)
  (case hdRow=>k_is)
  (case poRow=>k_is)
  (case saRow=>k_is)
  (case mkRow=>k_is)
  (case kcRow=>k_is)
  (case nARow_all_keys=>k_is)
  (case nARow_fars=>k_is)
  (case nARow_gone=>k_is)
  (case aCMerge=>k_is)
  (case pgMerge=>k_is)
  (case hdMerge=>k_is)
  (case poMerge=>k_is)
  (case saMerge=>k_is)
  (case mkMerge=>k_is)
  (case kcMerge=>k_is)
  (case nAMerge_best=>k_is)
  (case nAMerge_likened=>k_is)
  (case nAMerge_looked=>k_is)
  (case nAMerge_next_number=>k_is)
  (case nAMerge_rows=>k_is)
  (case nAMerge_stays=>k_is)
  (case aCMergeError=>k_is)
  (case aCFull=>k_is)
  (case aCNoRow=>k_is)
  (case aCOutOfOrder=>k_is)
  (case aCBadLine=>k_is)
  (case loMergeError=>k_is)
  (case bs_MergeError=>k_is)
  (case br_MergeError=>k_is)
  (case bf_MergeError=>k_is)
  (case loOutOfOrder=>k_is)
  (case kcOutOfOrder=>k_is)
  (case saOutOfOrder=>k_is)
  (case nAOutOfOrder_row=>k_is)
  (case nAOutOfOrder_place=>k_is)
  (case g1OutOfOrder=>k_is)
  (case g2OutOfOrder=>k_is)
  (case g3OutOfOrder=>k_is)
  (case g4OutOfOrder=>k_is)
  (case g5OutOfOrder=>k_is)
  (case g6OutOfOrder=>k_is)
  (case gvOutOfOrder=>k_is)
  (case gsOutOfOrder=>k_is)
  (case gkOutOfOrder_MergeError=>k_is)
  (case gkOutOfOrder_Full=>k_is)
  (case gkOutOfOrder_NoRow=>k_is)
  (case gkOutOfOrder_BadLine=>k_is)
  (case giMergeError=>k_is)
  (case gtMergeError=>k_is)
  (case giFull=>k_is)
  (case gtFull=>k_is)
  (case giNoRow=>k_is)
  (case gtNoRow=>k_is)
  (case giOutOfOrder=>k_is)
  (case gtOutOfOrder=>k_is)
  (case giBadLine=>k_is)
  (case gtBadLine=>k_is)
  (case hkg=>k_is)
  (case hkt=>k_is)
  (case a0|l0|c0|k0=>k_is)
  (case a1|l1|c1|k1=>k_is)
  (case a2|l2|c2|k2=>k_is)
  (case a3|l3|c3|k3=>k_is)
  (case a4|l4|c4|k4=>k_is)
  (case a5|l5|c5|k5=>k_is)
  (case a6|l6|c6|k6=>k_is)
  (case a7|l7|c7|k7=>k_is)
  (case a8|l8|c8|k8=>k_is)
  (case a9|l9|c9|k9=>k_is)
  (case a10|l10|c10|k10=>k_is)
  (case a11|l11|c11|k11=>k_is)
  (case a12|l12|c12|k12=>k_is)
  (case a13|l13|c13|k13=>k_is)
  (case a14|l14|c14|k14=>k_is)
  (case a15|l15|c15|k15=>k_is)
  (case a16|l16|c16|k16=>k_is)
  (case a17|l17|c17|k17=>k_is)
  (case a18|l18|c18|k18=>k_is)
  (case a19|l19|c19|k19=>k_is)
  (case a20|l20|c20|k20=>k_is)
  (case a21|i21|l21|c21|k21=>k_is)
  (case a22|i22|l22|c22|k22=>k_is)
  (case a23|i23|l23|c23|k23=>k_is)
  (case a24|i24|l24|c24|k24=>k_is)
  (case a25|i25|l25|c25|k25=>k_is)
  (case a26|i26|l26|c26|k26=>k_is)
  (case a27|i27|l27|c27|k27=>k_is)
  (case a28|i28|l28|c28|k28=>k_is)
  (case a29|i29|l29|c29|k29=>k_is)
  (case z0=>k_is)
  (case z1=>k_is)
  (case z2=>k_is)
  (case z3=>k_is)
  (case z4=>k_is)
  (case z5=>k_is)
  (case z6=>k_is)
  (case z7=>k_is)
  (case z8=>k_is)
  (case z9=>k_is)
