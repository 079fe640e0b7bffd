import PyProof.Rows.All
import Wide.All
import OpenK.AllK
import Wide.FinOn
import Lean
import PyProof.EqAt
import PyProof.EqKinds
import PyProof.TupleCall
import PyProof.AttrMissHeap
import KE.KEqDict
import KE.KItemsList
import PyProof.WalksMore
import PySem.Challenge.RW_mergetree_k62_whole_asked_by_pieces
set_option maxHeartbeats 4000000
set_option maxRecDepth 100000
set_option Elab.async false
set_option linter.all false
local macro_rules|`(tactic|ac_rfl)=>`(tactic|decide +kernel)
abbrev Qa:=@List.length_map
abbrev Qb:=@List.getElem?_eq_getElem
abbrev Qc:=@PySem.Heap.get?_push_of_some
abbrev Qd:=@Nat.le_refl
abbrev Qe:=@List.map_append
abbrev Qf:=@List.getElem?_eq_some_iff
abbrev Qg:=@List.map_cons
abbrev Qh:=@Option.some.inj
abbrev Qi:=@Bool.false_ne_true
abbrev Qj:=@List.mem_map_of_mem
abbrev Qk:=@PySem.Heap.lt_size
abbrev Ql:=@List.mem_singleton
abbrev Qm:=@List.mem_cons_of_mem
abbrev Qn:=@PySem.Heap.get?_push_size
abbrev Qo:=@List.mem_append_right
abbrev Qp:=@List.length_append
abbrev Qq:=@List.mem_append
abbrev Qr:=@Nat.zero_le
abbrev Qs:=@List.getElem?_map
abbrev Qt:=@Nat.lt_of_lt_of_le
abbrev Qu:=@Nat.ne_of_lt
abbrev Qv:=@List.size_toArray
abbrev Qw:=@List.length_take
abbrev Qx:=@PySem.W.mg_none_of
abbrev Qy:=@List.mem_of_getElem?
abbrev Qz:=@List.length_singleton
abbrev QA:=@List.mem_cons
abbrev QB:=@List.getD_eq_getElem?_getD
abbrev QC:=@PySem.boot_len
abbrev QD:=@List.take_of_length_le
abbrev QE:=@List.mem_map
abbrev QF:=@List.map_map
abbrev QG:=@Nat.le_trans
abbrev QH:=@PySem.F.plainAttrs_list
abbrev QI:=@List.length_cons
abbrev QJ:=@List.getElem?_eq_none
abbrev QK:=@List.take_add_one
abbrev QL:=@List.length_drop
abbrev QM:=@List.mem_append_left
abbrev QN:=@List.nodup_cons
abbrev QO:=@PySem.F.slot_list_append
abbrev QP:=@PySem.F.type_list_append
abbrev QR:=@List.map_congr_left
abbrev QS:=@PySem.W.kia_one
abbrev QT:=@PySem.W.kia_tup
abbrev QU:=@Nat.ne_of_gt
abbrev QV:=@List.filterMap_cons
abbrev QW:=@List.mem_cons_self
abbrev QX:=@PyProof.Rows.callWith_type1
abbrev QY:=@Nat.lt_irrefl
abbrev QZ:=@List.sum_cons
abbrev Q0:=@PySem.Heap.size_push
abbrev Q1:=@List.getElem?_append_right
abbrev Q2:=@Int.add_zero
abbrev Q3:=@List.getElem?_append_left
abbrev Q4:=@List.getLastD_eq_getLast?
abbrev Q5:=@Bool.and_eq_true
abbrev Q6:=@List.getElem_mem
abbrev Q7:=@List.mem_range
abbrev Q8:=@PySem.mem_of_lookup
abbrev Q9:=@Array.length_toList
abbrev Qaa:=@Nat.add_lt_add_left
abbrev Qab:=@List.getElem?_toArray
abbrev Qac:=@List.getLast?_eq_getLast
abbrev Qad:=@Nat.lt_add_of_pos_right
abbrev Qae:=@List.find?_cons_of_neg
abbrev Qaf:=@Nat.add_sub_cancel
abbrev Qag:=@List.length_replicate
abbrev Qah:=@List.take_append_drop
abbrev Qai:=@List.reverse_cons
abbrev Qaj:=@List.mem_of_mem_take
abbrev Qak:=@List.mem_of_mem_drop
abbrev Qal:=@List.lookup_cons
abbrev Qam:=@List.all_eq_true
abbrev Qan:=@Nat.le_add_right
abbrev Qao:=@List.getElem?_eq_none_iff
abbrev Qap:=@List.any_cons
abbrev Qaq:=@Bool.eq_iff_iff
abbrev Qar:=@List.append_nil
abbrev Qas:=@List.find?_cons
abbrev Qat:=@Int.emod_lt_of_pos
abbrev Qau:=@PySem.F.plainAttrs_dict
abbrev Qav:=@PySem.W.kitx_list
abbrev Qaw:=@PySem.W.kitx_dict
abbrev Qax:=@Option.map_eq_some_iff
abbrev Qay:=@Bool.eq_false_iff
abbrev Qaz:=@List.length_eq_one_iff
abbrev QaA:=@List.length_pos_of_mem
abbrev QaB:=@List.flatMap_cons
abbrev QaE:=@List.mem_reverse
abbrev QaF:=@Nat.le_succ
namespace L2
open PySem PySem.Spec PyProof.Rows
abbrev Key:=Sum Int Str
def ZeT:Key→Value→Bool
 | .inl k,v=>Value.isInt k v
 | .inr x,v=>Value.isStrOf x v
def Zpy(w:World):Key→Int
 | .inl k=>hashInt k
 | .inr x=>hashStr w x
theorem Zaf:∀ {k:Key} {v:Value},ZeT k v=true→(∃i t,k=Sum.inl i∧v=Value.int i t)∨(∃x t,k=Sum.inr x∧v=Value.str x t)
 | .inl i,v,h=>by
  obtain⟨t,e⟩:=Value.isInt_shape (k:=i) (v:=v) h
  exact .inl ⟨i,t,rfl,e⟩
 | .inr x,v,h=>by
  obtain⟨t,e⟩:=Value.isStrOf_shape (x:=x) (v:=v) h
  exact .inr ⟨x,t,rfl,e⟩
theorem ZjT(i:Int)(t:Tok):ZeT (.inl i) (.int i t)=true:=by simp[ZeT,Value.isInt]
theorem Zjx(x:Str)(t:Tok):ZeT (.inr x) (.str x t)=true:=by simp[ZeT,Value.isStrOf]
theorem Zna(a b:Int):decide ((Sum.inl a:Key)=Sum.inl b)=(a == b):=by
 by_cases e:a=b
 ·subst e;simp
 ·have h:¬ (Sum.inl a:Key)=Sum.inl b:=fun q=>e (Sum.inl.inj q)
  rw[decide_eq_false h]
  exact(beq_eq_false_iff_ne.mpr e).symm
theorem Zni(a b:Str):decide ((Sum.inr a:Key)=Sum.inr b)=decide (a=b):=by
 by_cases e:a=b
 ·subst e;simp
 ·have h:¬ (Sum.inr a:Key)=Sum.inr b:=fun q=>e (Sum.inr.inj q)
  rw[decide_eq_false h,decide_eq_false e]
theorem Znz(a:Int)(b:Str):decide ((Sum.inl a:Key)=Sum.inr b)=false:=decide_eq_false (fun q=>nomatch q)
theorem Znr(a:Str)(b:Int):decide ((Sum.inr a:Key)=Sum.inl b)=false:=decide_eq_false (fun q=>nomatch q)
def Zx(prog:Program)(w:World):PySem.KeyKind prog w Key where
 is:=ZeT
 hash:=Zpy w
 inj:=fun v a b ha hb=>by
  rcases Zaf ha with⟨i,t,rfl,rfl⟩|⟨x,t,rfl,rfl⟩
  ·rcases Zaf hb with⟨j,u,rfl,e⟩|⟨y,u,rfl,e⟩
   ·injection e with e1 _;rw[e1]
   ·exact nomatch e
  ·rcases Zaf hb with⟨j,u,rfl,e⟩|⟨y,u,rfl,e⟩
   ·exact nomatch e
   ·injection e with e1 _;rw[e1]
 byValue:=fun k v h=>by
  rcases Zaf h with⟨i,t,rfl,rfl⟩|⟨x,t,rfl,rfl⟩<;>rfl
 pyHash:=fun hv h=>by
  rcases Zaf hv with⟨i,t,rfl,rfl⟩|⟨x,t,rfl,rfl⟩
  ·exact wpAny_pyHash_int h
  ·exact wpAny_pyHash_str h
 eqBool:=fun hu hv h=>by
  rcases Zaf hu with⟨i,t,rfl,rfl⟩|⟨x,t,rfl,rfl⟩
  ·rcases Zaf hv with⟨j,u,rfl,rfl⟩|⟨y,u,rfl,rfl⟩
   ·rw[Zna]at h;exact wpAny_eqBool_int h
   ·rw[Znz]at h;exact SeqAt.EqAt.int_str i t y u _ _ _ _ h
  ·rcases Zaf hv with⟨j,u,rfl,rfl⟩|⟨y,u,rfl,rfl⟩
   ·rw[Znr]at h;exact SeqAt.EqAt.str_int x t j u _ _ _ _ h
   ·rw[Zni]at h;exact wpAny_eqBool_str h
 «strs»:=fun k x t v h=>by
  rcases Zaf h with⟨i,u,rfl,e⟩|⟨y,u,rfl,e⟩
  ·exact nomatch e
  ·injection e with e1 _
   subst e1
   cases v<;>rfl
theorem ZhD(prog:Program)(w:World)(k:Key)(v:Value):(Zx prog w).is k v=ZeT k v:=rfl
theorem Zhz(prog:Program)(w:World)(i:Int)(t:Tok):(Zx prog w).is (.inl i) (.int i t)=true:=ZjT i t
theorem Zhp(prog:Program)(w:World)(x:Str)(t:Tok):(Zx prog w).is (.inr x) (.str x t)=true:=Zjx x t
inductive V where
 | non|bl (b:Bool)|int (i:Int)|str (x:Str)|byt (b:Array UInt8)|flt (b:UInt64)|ref (a:Addr)|ty (n:String)
 deriving DecidableEq
def ZA:V→Value→Prop
 | .non,u=>u=Value.none
 | .bl b,u=>u=Value.bool b
 | .int i,u=>∃t,u=Value.int i t
 | .str x,u=>∃t,u=Value.str x t
 | .byt b,u=>∃t,u=Value.bytes b t
 | .flt b,u=>∃t,u=Value.float b t
 | .ref a,u=>u=Value.ref a
 | .ty n,u=>u=Value.type n
abbrev ZB:List V→List Value→Prop:=Paired ZA
theorem ZB.length{xs:List V}{us:List Value}(r:ZB xs us):xs.length=us.length:=Paired.length r
theorem ZB.get:∀ {xs:List V} {us:List Value} {i:Nat} {x:V},ZB xs us→xs[i]? = some x→∃u,us[i]? = some u∧ZA x u
 | _,_,_,_,.nil,e=>by simp at e
 | _,_,0,_,.cons r _,e=>by simp at e;subst e;exact⟨_,rfl,r⟩
 | _,_,i+1,x,.cons _ t,e=>by
  obtain⟨u,h1,h2⟩:=ZB.get (i:=i) (x:=x) t (by simpa using e)
  exact⟨u,by simpa using h1,h2⟩
theorem ZB.set{x:V}{u:Value}(r:ZA x u):∀ {xs:List V} {us:List Value} (i:Nat),ZB xs us→ZB (xs.set i x) (us.set i u)
 | _,_,_,.nil=>.nil
 | _,_,0,.cons _ t=>.cons r t
 | _,_,i+1,.cons q t=>.cons q (ZB.set r i t)
theorem ZB.append:∀ {xs ys:List V} {us ws:List Value},ZB xs us→ZB ys ws→ZB (xs++ys) (us++ws)
 | _,_,_,_,.nil,s=>s
 | _,_,_,_,.cons r t,s=>.cons r (ZB.append t s)
theorem ZB.take:∀ {xs:List V} {us:List Value} (n:Nat),ZB xs us→ZB (xs.take n) (us.take n)
 | _,_,0,_=>.nil
 | _,_,_+1,.nil=>.nil
 | _,_,n+1,.cons r t=>.cons r (ZB.take n t)
theorem ZB.drop:∀ {xs:List V} {us:List Value} (n:Nat),ZB xs us→ZB (xs.drop n) (us.drop n)
 | _,_,0,r=>r
 | _,_,_+1,.nil=>.nil
 | _,_,n+1,.cons _ t=>ZB.drop n t
def ZcA:Option V→Option Value→Prop
 | some v,some u=>ZA v u
 | none,none=>True
 | _,_=>False
def KV{κ:Type}:List (κ×V)→List (κ×Value)→Prop:=Paired fun (p:κ×V) (q:κ×Value)=>p.1=q.1∧ZA p.2 q.2
def kV:Key→V
 | .inl i=>.int i
 | .inr x=>.str x
inductive HO where
  | lst (xs:List V)
  | tup (xs:List V)
  | dK (kvs:List (Key×V))|dT (kvs:List (List Key×V))
  | set (S:Int→Bool) (n:Nat)
  | ins (C dx:Addr) (fs:List (Str×V))
  | own (x:Addr)
  | xd (fs:List (Str×V))
  | met (f x:Addr)
  | rng (lo hi:Int)
  | frz (o:Obj) (u:HO)
  | tbl (ps:Array Value)
  | ext (φ:Heap→Prop)
abbrev Hp:=Addr→Option HO
def upd(H:Hp)(a:Addr)(o:HO):Hp:=fun b=>if b=a then some o else H b
theorem Zd{H:Hp}{a:Addr}{o:HO}:upd H a o a=some o:=by unfold upd;rw[if_pos rfl]
theorem Zc{H:Hp}{a b:Addr}{o:HO}(h:b≠a):upd H a o b=H b:=by unfold upd;rw[if_neg h]
theorem ZkQ{H:Hp}{a b:Addr}{o u:HO}(h:H a=some o)(h':H b=some u)(d:o≠u):a≠b:=by
 intro e;subst e;rw[h]at h';exact d (Qh h')
theorem Zb{H:Hp}{a b:Addr}{o:HO}(h:H a=some o)(h':H b=none):a≠b:=by
 intro e;subst e;rw[h]at h';cases h'
section
variable (P:Program) (w:World)
def Z1(H:Hp)(h:Heap)(a:Addr):HO→Prop
 | .lst xs=>xs.length≤sizeLine∧∃ (its:List Value) (n:Nat),ZB xs its∧h.get? a=some { cls:=.type "list",data:=.seq its.toArray n }
 | .tup xs=>xs.length≤sizeLine∧∃its:List Value,ZB xs its∧IsTup h a its.toArray
 | .dK kvs=>kvs.length≤sizeLine∧(a == sysModules)=false∧∃vs,KV kvs vs∧h.DictOf (Zx P w) a vs
 | .dT kvs=>kvs.length≤sizeLine∧(a == sysModules)=false∧∃xs:List (List Key×Addr×Value),
   Paired (fun (p:List Key×V) (q:List Key×Addr×Value)=>p.1=q.1∧H q.2.1=some (.tup (p.1.map kV))∧ZA p.2 q.2.2) kvs xs ∧
   ∃o es ep,h.get? a=some o∧o.ExactDict∧o.data=.dict es ep∧es.toList=xs.map (entryOfKey (tupleKind (Zx P w)))∧(xs.map (·.1)).Nodup
 | .set S n=>h.SetOf (intKind P w) a S n
 | .ins C dx fs=>H dx=some (.own a)∧fs.length≤1000∧dx≠a∧h.get? a=some (PySem.W.instObj C dx) ∧
   ∃mA,h.Ns1 dx mA∧(∀f,ZcA (fs.lookup f) (mA f))∧PySem.Within mA (fs.map (·.1))
 | .own _=>∃o,h.get? a=some o
 | .xd fs=>∃mA,h.Ns1 a mA∧∀f,ZcA (fs.lookup f) (mA f)
 | .rng lo hi=>∃t u v,h.get? a=some { cls:=.type "range",data:=.fields #[.int lo t,.int hi u,.int 1 v] }
 | .frz o u=>h.get? a=some o∧Z1 H h a u
 | .tbl ps=>h.get? a=some { cls:=.none,data:=.fields ps }
 | .met f x=>h.get? a=some (PySem.W.methodObj (.ref f) (.ref x))
 | .ext φ=>φ h∧(∃o,h.get? a=some o)∧∀h1 h2:Heap,φ h1→(∀o,h1.get? a=some o→h2.get? a=some o)→φ h2
def HOk(H:Hp)(h:Heap):Prop:=∀a o,H a=some o→Z1 P w H h a o
end
section
variable {P:Program} {w:World} {H H':Hp} {h h':Heap} {a:Addr} {o:HO}
theorem Z1.lt(x:Z1 P w H h a o):a<h.objs.size:=by
 cases o with
 | lst xs=>obtain⟨_,_,_,_,e⟩:=x;exact Qk e
 | tup xs=>obtain⟨_,_,_,p⟩:=x;exact p.lt
 | dK kvs=>obtain⟨_,_,_,_,o,_,_,e,_⟩:=x;exact Qk e
 | dT kvs=>obtain⟨_,_,_,_,o,_,_,e,_⟩:=x;exact Qk e
 | set S n=>obtain⟨o,_,_,_,e,_⟩:=x;exact Qk e
 | ins C dx fs=>obtain⟨_,_,_,e,_⟩:=x;exact Qk e
 | own y=>obtain⟨_,e⟩:=x;exact Qk e
 | xd fs=>obtain⟨_,⟨_,_,_,e,_⟩,_⟩:=x;exact Qk e
 | rng lo hi=>obtain⟨_,_,_,e⟩:=x;exact Qk e
 | frz ob u=>obtain⟨e,_⟩:=x;exact Qk e
 | tbl ps=>exact Qk (show h.get? a=some _ from x)
 | met f y=>exact Qk (show h.get? a=some _ from x)
 | ext φ=>obtain⟨_,⟨_,e⟩,_⟩:=x;exact Qk e
theorem Paired.mapP{α β:Type}{F G:α→β→Prop}:∀ {l₁:List α} {l₂:List β},Paired F l₁ l₂→(∀a b,F a b→G a b)→Paired G l₁ l₂
 | _,_,.nil,_=>.nil
 | _,_,.cons r t,f=>.cons (f _ _ r) (Paired.mapP t f)
theorem Z1.stay(x:Z1 P w H h a o)(k:∀b u,(b=a∨H b=some (.own a))→h.get? b=some u→h'.get? b=some u)
  (ho:∀b,H b=some (.own a)→H' b=some (.own a)) (ht:∀b xs,H b=some (.tup xs)→H' b=some (.tup xs)):Z1 P w H' h' a o:=by
 induction o with
 | lst xs=>obtain⟨z,its,n,r,e⟩:=x;exact⟨z,its,n,r,k _ _ (.inl rfl) e⟩
 | tup xs=>obtain⟨z,its,r,ob,e,c⟩:=x;exact⟨z,its,r,ob,k _ _ (.inl rfl) e,c⟩
 | dK kvs=>obtain⟨z,y,vs,r,ob,es,ep,e,c⟩:=x;exact⟨z,y,vs,r,ob,es,ep,k _ _ (.inl rfl) e,c⟩
 | dT kvs =>
  obtain⟨z,y,xs,r,ob,es,ep,e,c⟩:=x
  exact⟨z,y,xs,Paired.mapP r fun p q z=>⟨z.1,ht _ _ z.2.1,z.2.2⟩,ob,es,ep,k _ _ (.inl rfl) e,c⟩
 | set S n=>obtain⟨ob,es,ep,t,e,c⟩:=x;exact⟨ob,es,ep,t,k _ _ (.inl rfl) e,c⟩
 | ins C dx fs =>
  obtain⟨d,z,ne,e,mA,⟨od,es,ep,e2,c⟩,r⟩:=x
  exact⟨ho _ d,z,ne,k _ _ (.inl rfl) e,mA,⟨od,es,ep,k _ _ (.inr d) e2,c⟩,r⟩
 | own y=>obtain⟨ob,e⟩:=x;exact⟨ob,k _ _ (.inl rfl) e⟩
 | xd fs=>obtain⟨mA,⟨od,es,ep,e,c⟩,r⟩:=x;exact⟨mA,⟨od,es,ep,k _ _ (.inl rfl) e,c⟩,r⟩
 | rng lo hi=>obtain⟨t,u,v,e⟩:=x;exact⟨t,u,v,k _ _ (.inl rfl) e⟩
 | frz ob u ih=>obtain⟨e,q⟩:=x;exact⟨k _ _ (.inl rfl) e,ih q⟩
 | tbl ps =>
  have e:h.get? a=some { cls:=.none,data:=.fields ps }:=x
  show h'.get? a=some { cls:=.none,data:=.fields ps }
  exact k a _ (.inl rfl) e
 | met f y =>
  have e:h.get? a=some (PySem.W.methodObj (.ref f) (.ref y)):=x
  show h'.get? a=some (PySem.W.methodObj (.ref f) (.ref y))
  exact k a _ (.inl rfl) e
 | ext φ=>obtain⟨p,⟨o,e⟩,st⟩:=x;exact⟨st _ _ p fun o q=>k _ _ (.inl rfl) q,⟨o,k _ _ (.inl rfl) e⟩,st⟩
theorem HOk.lt(x:HOk P w H h)(e:H a=some o):a<h.objs.size:=(x a o e).lt
theorem HOk.fresh(x:HOk P w H h)(e:h.objs.size≤a):H a=none:=by
 cases q:H a with
 | none=>rfl
 | some u=>exact absurd (Qt (x.lt q) e) (QY _)
theorem HOk.kept(x:HOk P w H h)(k:∀b u,h.get? b=some u→h'.get? b=some u):HOk P w H h':=fun a o e =>
 (x a o e).stay (fun b u _ q=>k b u q) (fun _ q=>q) fun _ _ q=>q
theorem HOk.laid(x:HOk P w H h)(k:∀b u,h.get? b=some u→h'.get? b=some u)(hp:h.objs.size≤a)(new:Z1 P w (upd H a o) h' a o):HOk P w (upd H a o) h':=fun b u e=>by
 have hn:=x.fresh hp
 by_cases hb:b=a
 ·subst hb;rw[Zd]at e;cases e;exact new
 ·rw[Zc hb]at e
  exact(x b u e).stay (fun c v _ q=>k c v q) (fun c q=>by rw[Zc (Zb q hn)];exact q) fun c xs q=>by rw[Zc (Zb q hn)];exact q
end
def Rd(H:Hp)(a:Addr)(u:HO):Prop:=H a=some u∨∃o,H a=some (.frz o u)
theorem Rd.ok{P:Program}{w:World}{H:Hp}{h:Heap}{a:Addr}{u:HO}(r:Rd H a u)(x:HOk P w H h):Z1 P w H h a u:=by
 rcases r with r|⟨o,r⟩
 ·exact x a u r
 ·obtain⟨_,q⟩:=x a _ r
  exact q
def Mut:Option HO→Prop
 | some (.lst _)=>True
 | some (.dK _)=>True
 | some (.dT _)=>True
 | some (.set _ _)=>True
 | some (.ins _ _ _)=>True
 | some (.ext _)=>True
 | _=>False
section
variable {P:Program} {w:World} {H:Hp} {h h':Heap} {x e:Addr} {o':HO}
theorem HOk.write(ok:HOk P w H h)(mu:Mut (H x))(he:e=x∨H e=some (.own x))(k:∀b u,b≠e→h.get? b=some u→h'.get? b=some u)(heo:∃u,h'.get? e=some u)
  (new:Z1 P w (upd H x o') h' x o'):HOk P w (upd H x o') h':=fun b u q=>by
 have nown:∀c y,H c=some (.own y)→c≠x:=fun c y r z=>by subst z;rw[r]at mu;exact mu
 have ntup:∀c xs,H c=some (.tup xs)→c≠x:=fun c xs r z=>by subst z;rw[r]at mu;exact mu
 by_cases hb:b=x
 ·subst hb;rw[Zd]at q;cases q;exact new
 ·rw[Zc hb]at q
  by_cases hbe:b=e
  ·have q':H b=some (.own x):=by
    rcases he with z|z
    ·exact absurd (hbe.trans z) hb
    ·rw[hbe];exact z
   rw[q]at q';cases q'
   obtain⟨v,hv⟩:=heo
   exact⟨v,by rw[hbe];exact hv⟩
  ·refine(ok b u q).stay (fun c v hc r=>k c v ?_ r) (fun c r=>by rw[Zc (nown c b r)];exact r) fun c xs r=>by rw[Zc (ntup c xs r)];exact r
   rcases hc with rfl|hc
   ·exact hbe
   ·rintro rfl
    rcases he with z|z
    ·exact nown c b hc z
    ·rw[hc]at z;cases z;exact hb rfl
end
structure Un (fs ex:List Addr) (H H':Hp) (h h':Heap):Prop where
 keep:∀b o,h.get? b=some o→H b=none→b ∉ fs→b ∉ ex→h'.get? b=some o
 slot:∀b o,h.get? b=some o→H b=none→b∈fs→b ∉ ex→∃sl,h'.get? b=some { o with slots:=sl }
 free:∀b o,h.get? b=some o→H b=none→b ∉ ex→H' b=none
 there:∀b o,h.get? b=some o→b ∉ ex→∃o',h'.get? b=some o'
 tups:∀b xs,H b=some (.tup xs)→H' b=some (.tup xs)
 frzs:∀b o u,H b=some (.frz o u)→H' b=some (.frz o u)
 tbls:∀b ps,H b=some (.tbl ps)→∃more,H' b=some (.tbl (ps++more))
section
variable {fs fs' ex ex':List Addr} {H H1 H2:Hp} {h h1 h2 h':Heap} {a x e:Addr} {o:HO}
theorem Un.any(u:Un fs ex H H1 h h1){b:Addr}{ob:Obj}(q:h.get? b=some ob)(n:H b=none)(hx:b ∉ ex):∃sl,h1.get? b=some { ob with slots:=sl }:=by
 by_cases hb:b∈fs
 ·exact u.slot b ob q n hb hx
 ·exact⟨ob.slots,u.keep b ob q n hb hx⟩
theorem Un.kept(k:∀b u,h.get? b=some u→h'.get? b=some u):Un fs ex H H h h' :=
 ⟨fun b ob q _ _ _=>k b ob q,fun b ob q _ _ _=>⟨ob.slots,k b ob q⟩,fun _ _ _ n _=>n,fun b ob q _=>⟨ob,k b ob q⟩,fun _ _ q=>q,fun _ _ _ q=>q,fun _ ps q=>⟨#[],by rw[q];simp⟩⟩
theorem Un.refl:Un fs ex H H h h:=Un.kept fun _ _ q=>q
theorem Un.laid(k:∀b u,h.get? b=some u→h'.get? b=some u)(hp:h.objs.size≤a)(hn:H a=none):Un fs ex H (upd H a o) h h' where
 keep:=fun b u q _ _ _=>k b u q
 slot:=fun b u q _ _ _=>⟨u.slots,k b u q⟩
 free:=fun b u q n _=>by rw[Zc (Qu (Qt (Qk q) hp))];exact n
 there:=fun b u q _=>⟨u,k b u q⟩
 tups:=fun b xs q=>by rw[Zc (Zb q hn)];exact q
 frzs:=fun b u xs q=>by rw[Zc (Zb q hn)];exact q
 tbls:=fun b ps q=>⟨#[],by rw[Zc (Zb q hn),q];simp⟩
theorem Un.write(mu:Mut (H x))(he:e=x∨H e=some (.own x))(k:∀b u,b≠e→h.get? b=some u→h'.get? b=some u)(heo:∃u,h'.get? e=some u):Un fs ex H (upd H x o) h h':=by
 have hx:∀b,H b=none→b≠x:=fun b n z=>by subst z;rw[n]at mu;exact mu
 have hb:∀b,H b=none→b≠e:=fun b n z=>by
  subst z
  rcases he with r|r
  ·exact hx b n r
  ·rw[n]at r;cases r
 have hm:∀b u,H b=some u→¬ Mut (some u)→b≠x:=fun b u q nm z=>by subst z;rw[q]at mu;exact nm mu
 refine⟨fun b u q n _ _=>k b u (hb b n) q,fun b u q n _ _=>⟨u.slots,k b u (hb b n) q⟩,fun b u q n _=>by rw[Zc (hx b n)];exact n,fun b u q _=>?_,
  fun b xs q=>by rw[Zc (hm b _ q fun z=>z)];exact q,fun b u xs q=>by rw[Zc (hm b _ q fun z=>z)];exact q,fun b ps q=>⟨#[],by rw[Zc (hm b _ q fun z=>z),q];simp⟩⟩
 by_cases hbe:b=e
 ·subst hbe;exact heo
 ·exact⟨u,k b u hbe q⟩
end
def trk(h:Heap)(H:Hp):List Addr:=(List.range h.objs.size).filter fun a=>(H a).isSome
def Zgt(h:Heap)(H:Hp):Heap:=PySem.W.hideAll h (trk h H)
theorem Zjb(h:Heap)(H:Hp):(Zgt h H).objs.size=h.objs.size:=PySem.W.hideAll_size _ _
theorem Zlo{h:Heap}{H:Hp}{b:Addr}{o:Obj}(e:h.get? b=some o)(n:H b=none):(Zgt h H).get? b=some o :=
 PySem.W.hideAll_get _ e fun hm=>by
  have q:(H b).isSome=true:=(List.mem_filter.mp hm).2
  rw[n]at q;simp at q
theorem Zl3{h:Heap}{H:Hp}{b:Addr}{o:Obj}(e:(Zgt h H).get? b=some o):h.get? b=some o∧H b=none:=by
 have e':h.get? b=some o:=PySem.W.of_hideAll (trk h H) e
 refine⟨e',?_⟩
 cases q:H b with
 | none=>rfl
 | some x =>
  have hm:b∈trk h H:=List.mem_filter.mpr ⟨Q7.mpr (Qk e'),by simp[q]⟩
  have z:(Zgt h H).get? b=none:=PySem.W.hideAll_none (trk h H) hm
  rw[z]at e;cases e
def ZlI(g h:Heap)(L:Addr):List (Addr×Obj):=(List.range h.objs.size).filterMap fun a=>if a=L∨(g.get? a).isSome=true then none else (h.get? a).map fun o=>(a,o)
def rest(g h:Heap)(L d:Addr):List (Addr×Obj):=(ZlI g h L).filter fun p=>decide (p.1≠d)
structure Mod (K:PySem.W.Frag) (mg:Str→Option Value) (base:Heap):Prop where
 kin:K.In base
 glob:base.Ns mainGlobals mg
 blt:∃mb,base.Ns builtinsNs mb∧∀x:Str,x ≠ "__name__"→mb x=bootBuiltins x
 nolimit:base.NoLimit
structure Cx where
 prog:Program
 w:World
 K:PySem.W.Frag
 mg:Str→Option Value
 base:Heap
 A:Around
 N:List Str
 s₀:Shared
 H₀:Hp
 env:Env
 outer:List Env
 stack:List Env
 ex:List Addr
 fn:Str→Bool
 calm:Bool
 pn:List (Addr×Obj)
 xe:Value→Shared→Prop
def frs(l:List Env):List Addr:=l.filterMap (·.frame)
abbrev Cx.fs(X:Cx):List Addr:=frs X.outer
def Vis(sc:Scope)(x:Str):Prop:=sc.names.lookup x=some .local∨sc.names.lookup x=some .cell∨sc.names.lookup x=some .free
def Loc(sc:Scope)(x:Str):Prop:=sc.names.lookup x=some .local∨sc.names.lookup x=some .cell
def ZpH(env:Env)(h:Heap)(m:Str→Option Value)(x:Str)(u:Value):Prop :=
 (env.kindOf x=some .local∧m x=some u)∨((env.kindOf x=some .cell∨env.kindOf x=some .free)∧∃c,env.cells.lookup x=some c∧h.IsCell c (some u))
structure Cx.Ok (X:Cx):Prop where
 mod:Mod X.K X.mg X.base
 kind:X.env.scope.kind=.function
 glob:X.env.globals=mainGlobals
 blt:X.env.builtins=builtinsNs
 above:X.s₀.heap.objs.size≤X.env.locals
 inj:∀x y c,X.env.cells.lookup x=some c→X.env.cells.lookup y=some c→x=y
 has:∀x,(X.env.kindOf x=some .cell∨X.env.kindOf x=some .free)→∃c,X.env.cells.lookup x=some c
 cab:∀x c,X.fn x=true→X.env.cells.lookup x=some c→X.s₀.heap.objs.size≤c
 hd:X.calm=true→X.A.handled=none
 frames:X.A.frames=some X.stack
 stk:X.stack=X.outer∨(X.stack=X.env::X.outer∧X.env.frame=some X.env.locals)
 exf:∀b∈X.ex,b≠X.env.locals∧∀x c,X.env.cells.lookup x=some c→c≠b
 bs:∀b o,X.base.get? b=some o→X.s₀.heap.get? b=some o∧X.H₀ b=none
 bsz:X.base.objs.size≤X.s₀.heap.objs.size
 noex:∀b o,X.base.get? b=some o→b ∉ X.ex
 exfs:∀b∈X.ex,b ∉ X.fs
 funs:X.s₀.heap.FunFrames X.base X.outer
 frf:∀b∈X.fs,X.H₀ b=none
structure Inv (X:Cx) (pins:List (Addr×Obj)) (σ:List (Option V)) (H:Hp) (s:Shared):Prop where
 ok:X.Ok
 os:s.os=X.s₀.os
 bare:AllBare s.gens
 base:Un X.fs X.ex X.H₀ H X.s₀.heap s.heap
 loc:∃m,s.heap.Ns X.env.locals m∧∀ (i:Nat) (x:Str) (v:V),X.N[i]? = some x→σ[i]? = some (some v)→Vis X.env.scope x→∃u,ZA v u∧ZpH X.env s.heap m x u
 cell:∀x c,X.env.cells.lookup x=some c→∃v,s.heap.IsCell c v
 free:H X.env.locals=none
 freeC:∀x c,X.env.cells.lookup x=some c→H c=none
 pin:∀p∈X.pn++pins,s.heap.get? p.1=some p.2∧H p.1=none∧p.1≠X.env.locals∧p.1 ∉ X.fs∧∀v,p.2.data≠.cell v
 hok:HOk X.prog X.w H s.heap
 len:σ.length=X.N.length
section
variable {X:Cx} {pins:List (Addr×Obj)} {σ:List (Option V)} {H H':Hp} {s:Shared} {h':Heap}
theorem Cx.Ok.nofr(ok:X.Ok){b:Addr}{o:Obj}(e:X.base.get? b=some o):b ∉ X.fs:=fun hb=>by
 have:=(ok.funs.mem hb).1
 rw[e]at this;cases this
theorem Inv.bs(I:Inv X pins σ H s):∀b o,X.base.get? b=some o→s.heap.get? b=some o∧H b=none:=fun b o e =>
 ⟨I.base.keep b o (I.ok.bs b o e).1 (I.ok.bs b o e).2 (I.ok.nofr e) (I.ok.noex b o e),I.base.free b o (I.ok.bs b o e).1 (I.ok.bs b o e).2 (I.ok.noex b o e)⟩
theorem Inv.bk(I:Inv X pins σ H s):∀b o,X.base.get? b=some o→s.heap.get? b=some o:=fun b o e=>(I.bs b o e).1
theorem Inv.mod(I:Inv X pins σ H s):Mod X.K X.mg X.base:=I.ok.mod
theorem Inv.kIn(I:Inv X pins σ H s):X.K.In s.heap:=I.ok.mod.kin.keeps I.bk
theorem Inv.lt(I:Inv X pins σ H s):X.env.locals<s.heap.objs.size:=let ⟨_,hn,_⟩:=I.loc;hn.lt
theorem Inv.sz(I:Inv X pins σ H s):X.s₀.heap.objs.size≤s.heap.objs.size:=QG I.ok.above (Nat.le_of_lt I.lt)
theorem Inv.nofs(I:Inv X pins σ H s){a:Addr}(h:s.heap.objs.size≤a):a ∉ X.fs:=fun hb=>by
 obtain⟨_,o,ho,_⟩:=I.ok.funs.mem hb
 exact absurd (Qt (Qk ho) (QG I.sz h)) (QY _)
theorem Inv.cne(I:Inv X pins σ H s):∀x c,X.env.cells.lookup x=some c→c≠X.env.locals:=fun x c e z=>by
 obtain⟨v,o,ho,hd⟩:=I.cell x c e
 obtain⟨m,⟨o',es,ep,ho',hd',_⟩,_⟩:=I.loc
 rw[z,ho']at ho;cases ho;rw[hd']at hd;cases hd
theorem Inv.funs(I:Inv X pins σ H s):s.heap.FunFrames X.base X.outer:=by
 have all:∀ (l:List Env),(∀b∈frs l,b∈X.fs)→X.s₀.heap.FunFrames X.base l→s.heap.FunFrames X.base l:=by
  intro l
  induction l with
  | nil=>intro _ _;trivial
  | cons env r ih =>
   intro hs hl
   obtain⟨hk,⟨L,o,hf,hn,ho,hd⟩,hr⟩:=hl
   have hL:L∈X.fs:=hs L (by unfold frs;rw[QV,hf];exact QW)
   obtain⟨sl,e⟩:=I.base.slot L o ho (I.ok.frf L hL) hL fun z=>I.ok.exfs L z hL
   exact⟨hk,⟨L,_,hf,hn,e,hd⟩,ih (fun b hb=>hs b (by unfold frs;rw[QV,hf];exact Qm _ hb)) hr⟩
 exact all X.outer (fun _ hb=>hb) I.ok.funs
theorem Inv.stack(I:Inv X pins σ H s):s.heap.FunFrames X.base X.stack:=by
 rcases I.ok.stk with e|⟨e,hf⟩
 ·rw[e];exact I.funs
 ·rw[e]
  obtain⟨m,hn,_⟩:=I.loc
  refine .cons (by rw[I.ok.kind];decide) hf hn ?_ I.funs
  exact Heap.get?_none_of_le (QG I.ok.bsz I.ok.above)
theorem Inv.stkSub(I:Inv X pins σ H s):∀b∈frs X.stack,b∈X.env.locals::X.fs:=fun b hb=>by
 rcases I.ok.stk with e|⟨e,hf⟩
 ·rw[e]at hb;exact Qm _ hb
 ·rw[e]at hb
  unfold frs at hb
  rw[QV,hf]at hb
  exact hb
theorem Inv.stkFree(I:Inv X pins σ H s):∀b∈frs X.stack,H b=none:=fun b hb=>by
 rcases QA.mp (I.stkSub b hb) with e|hb
 ·rw[e];exact I.free
 ·obtain⟨_,o,ho,_⟩:=I.ok.funs.mem hb
  exact I.base.free b o ho (I.ok.frf b hb) fun z=>I.ok.exfs b z hb
theorem Inv.step{g':Array GenState}{t':Nat}{d':Drawn}{ch:List Addr}(I:Inv X pins σ H s)
  (hch:∀b∈ch,(b∈X.ex∨X.s₀.heap.objs.size≤b)∧b≠X.env.locals∧(∀x c,X.env.cells.lookup x=some c→c≠b)∧∀p∈X.pn++pins,p.1≠b)
  (keep:∀b o,b≠X.env.locals→b ∉ X.fs→b ∉ ch→s.heap.get? b=some o→H b=none→h'.get? b=some o)
  (slot:∀b o,b≠X.env.locals→b∈X.fs→b ∉ ch→s.heap.get? b=some o→H b=none→∃sl,h'.get? b=some { o with slots:=sl }) (free:∀b o,b ∉ ch→s.heap.get? b=some o→H b=none→H' b=none)
  (there:∀b o,b ∉ ch→s.heap.get? b=some o→∃o',h'.get? b=some o')
  (tups:∀b xs,H b=some (.tup xs)→H' b=some (.tup xs)) (frzs:∀b o u,H b=some (.frz o u)→H' b=some (.frz o u)) (tbls:∀b ps,H b=some (.tbl ps)→∃more,H' b=some (.tbl (ps++more)))
  (ns:∀m,s.heap.Ns X.env.locals m→h'.Ns X.env.locals m) (hok:HOk X.prog X.w H' h') (hg:AllBare g') :
  Inv X pins σ H' { s with heap:=h',gens:=g',drawn:=d',toks:=t' }:=by
 have neL:∀b o,X.s₀.heap.get? b=some o→b≠X.env.locals:=fun b o e=>Qu (Qt (Qk e) I.ok.above)
 have neC:∀b o,X.s₀.heap.get? b=some o→b ∉ X.ex→b ∉ ch:=fun b o e hx hb=>by
  rcases(hch b hb).1 with z|z
  ·exact hx z
  ·exact absurd (Qt (Qk e) z) (QY _)
 have cellK:∀x c,X.env.cells.lookup x=some c→∀v,s.heap.IsCell c v→h'.IsCell c v:=fun x c e v ⟨o,ho,hd⟩=>by
  have nch:c ∉ ch:=fun z=>(hch c z).2.2.1 x c e rfl
  by_cases hc:c∈X.fs
  ·obtain⟨sl,q⟩:=slot c o (I.cne x c e) hc nch ho (I.freeC x c e)
   exact⟨_,q,hd⟩
  ·exact⟨o,keep c o (I.cne x c e) hc nch ho (I.freeC x c e),hd⟩
 refine⟨I.ok,I.os,hg,⟨fun b o e n hb hx=>?_,fun b o e n hb hx=>?_,fun b o e n hx=>?_,fun b o e hx=>?_,fun b xs e=>tups b xs (I.base.tups b xs e),fun b o xs e=>frzs b o xs (I.base.frzs b o xs e),fun b ps e=>?_⟩,?_,fun x c e=>?_,?_,fun x c e=>?_,fun p hp=>?_,hok,I.len⟩
 ·exact keep b o (neL b o e) hb (neC b o e hx) (I.base.keep b o e n hb hx) (I.base.free b o e n hx)
 ·obtain⟨sl,e1⟩:=I.base.slot b o e n hb hx
  obtain⟨sl',e2⟩:=slot b _ (neL b o e) hb (neC b o e hx) e1 (I.base.free b o e n hx)
  exact⟨sl',e2⟩
 ·obtain⟨o',e1⟩:=I.base.there b o e hx
  exact free b o' (neC b o e hx) e1 (I.base.free b o e n hx)
 ·obtain⟨o',e1⟩:=I.base.there b o e hx
  exact there b o' (neC b o e hx) e1
 ·obtain⟨m1,e1⟩:=I.base.tbls b ps e
  obtain⟨m2,e2⟩:=tbls b _ e1
  exact⟨m1++m2,by rw[e2,Array.append_assoc]⟩
 ·obtain⟨m,hn,hl⟩:=I.loc
  refine⟨m,ns m hn,fun i x v e1 e2 e3=>?_⟩
  obtain⟨u,r,l⟩:=hl i x v e1 e2 e3
  refine⟨u,r,?_⟩
  rcases l with l|⟨k,c,e,z⟩
  ·exact .inl l
  ·exact .inr ⟨k,c,e,cellK x c e _ z⟩
 ·obtain⟨v,z⟩:=I.cell x c e
  exact⟨v,cellK x c e v z⟩
 ·obtain⟨m,⟨o,_,_,ho,_⟩,_⟩:=I.loc
  exact free _ o (fun z=>(hch _ z).2.1 rfl) ho I.free
 ·obtain⟨v,o,ho,hd⟩:=I.cell x c e
  exact free c o (fun z=>(hch c z).2.2.1 x c e rfl) ho (I.freeC x c e)
 ·obtain⟨e,n,ne,nf,d⟩:=I.pin p hp
  have nch:p.1 ∉ ch:=fun z=>(hch p.1 z).2.2.2 p hp rfl
  exact⟨keep p.1 p.2 ne nf nch e n,free p.1 p.2 nch e n,ne,nf,d⟩
theorem Inv.un{t':Nat}(I:Inv X pins σ H s)(u:Un X.fs [] H H' s.heap h')(hok:HOk X.prog X.w H' h'):Inv X pins σ H' { s with heap:=h',toks:=t' }:=by
 obtain⟨m,⟨o,es,ep,ho,r⟩,_⟩:=id I.loc
 obtain⟨sl,hL⟩:=u.any ho I.free (by simp)
 exact I.step (g':=s.gens) (d':=s.drawn) (ch:=[]) (fun _ z=>nomatch z) (fun b o _ hb _ e n=>u.keep b o e n hb (by simp)) (fun b o _ hb _ e n=>u.slot b o e n hb (by simp)) (fun b o _ e n=>u.free b o e n (by simp)) (fun b o _ e=>u.there b o e (by simp)) u.tups u.frzs u.tbls (fun m' hm=>by
  obtain⟨o',es',ep',ho',r'⟩:=hm
  rw[ho]at ho';cases ho'
  exact⟨_,es',ep',hL,r'⟩) hok I.bare
theorem Inv.call{g':Array GenState}{t':Nat}{d':Drawn}{ch:List Addr}(I:Inv X pins σ H s)(u:Un (frs X.stack) ch H H' s.heap h')(hok:HOk X.prog X.w H' h')(hg:AllBare g')
  (hch:∀b∈ch,(b∈X.ex∨X.s₀.heap.objs.size≤b)∧b≠X.env.locals∧(∀x c,X.env.cells.lookup x=some c→c≠b)∧∀p∈X.pn++pins,p.1≠b) :
  Inv X pins σ H' { s with heap:=h',gens:=g',drawn:=d',toks:=t' }:=by
 obtain⟨m,⟨o,es,ep,ho,r⟩,_⟩:=id I.loc
 obtain⟨sl,hL⟩:=u.any ho I.free fun z=>(hch _ z).2.1 rfl
 exact I.step (ch:=ch) hch (fun b o hL hb hc e n=>u.keep b o e n (fun z=>(QA.mp (I.stkSub b z)).elim hL hb) hc) (fun b o _ _ hc e n=>u.any e n hc) (fun b o hc e n=>u.free b o e n hc) (fun b o hc e=>u.there b o e hc) u.tups u.frzs u.tbls (fun m' hm=>by
  obtain⟨o',es',ep',ho',r'⟩:=hm
  rw[ho]at ho';cases ho'
  exact⟨_,es',ep',hL,r'⟩) hok hg
theorem Inv.turned{t':Nat}{it:Addr}(I:Inv X pins σ H s)(k:∀b o,b≠it→s.heap.get? b=some o→h'.get? b=some o)(hn:H it=none)(hL:it≠X.env.locals)
  (h1:it∈X.ex∨X.s₀.heap.objs.size≤it) (h2:∀x c,X.env.cells.lookup x=some c→c≠it) (h3:∀p∈X.pn++pins,p.1≠it):Inv X pins σ H { s with heap:=h',toks:=t' }:=by
 have nit:∀b u,H b=some u→b≠it:=fun b u e z=>by rw[z,hn]at e;cases e
 refine I.step (g':=s.gens) (d':=s.drawn) (ch:=[it]) (fun b hb=>?_) (fun b o _ _ hc e _=>k b o (fun z=>hc (by simp[z])) e) (fun b o _ _ hc e _=>⟨o.slots,k b o (fun z=>hc (by simp[z])) e⟩) (fun _ _ _ _ n=>n)
  (fun b o hc e=>⟨o,k b o (fun z=>hc (by simp[z])) e⟩) (fun _ _ e=>e) (fun _ _ _ e=>e) (fun b ps e=>⟨#[],by rw[e];simp⟩) (fun m hm=>?_) (fun b u e=>?_) I.bare
 ·have e:b=it:=by simpa using hb
  subst e
  exact⟨h1,hL,h2,h3⟩
 ·obtain⟨o,es,ep,ho,r⟩:=hm
  exact⟨o,es,ep,k _ o (Ne.symm hL) ho,r⟩
 ·refine(I.hok b u e).stay (fun c v hc q=>k c v ?_ q) (fun _ q=>q) fun _ _ q=>q
  rcases hc with z|z
  ·rw[z];exact nit b u e
  ·exact nit c _ z
theorem Inv.tok(I:Inv X pins σ H s)(t:Nat):Inv X pins σ H { s with toks:=t }:=I.un (h':=s.heap) (t':=t) Un.refl I.hok
theorem Inv.kept{t':Nat}(I:Inv X pins σ H s)(k:∀b u,s.heap.get? b=some u→h'.get? b=some u):Inv X pins σ H { s with heap:=h',toks:=t' }:=I.un (Un.kept k) (I.hok.kept k)
theorem Inv.laid{a:Addr}{o:HO}{t':Nat}(I:Inv X pins σ H s)(k:∀b u,s.heap.get? b=some u→h'.get? b=some u)(hp:s.heap.objs.size≤a)(new:Z1 X.prog X.w (upd H a o) h' a o) :
  Inv X pins σ (upd H a o) { s with heap:=h',toks:=t' }:=I.un (Un.laid k hp (I.hok.fresh hp)) (I.hok.laid k hp new)
theorem Inv.write{x e:Addr}{o:HO}{t':Nat}(I:Inv X pins σ H s)(mu:Mut (H x))(he:e=x∨H e=some (.own x))(k:∀b u,b≠e→s.heap.get? b=some u→h'.get? b=some u)(heo:∃u,h'.get? e=some u)
  (new:Z1 X.prog X.w (upd H x o) h' x o):Inv X pins σ (upd H x o) { s with heap:=h',toks:=t' }:=I.un (Un.write mu he k heo) (I.hok.write mu he k heo new)
theorem Inv.pins_of{pins':List (Addr×Obj)}(I:Inv X pins σ H s)(h:∀p∈pins',s.heap.get? p.1=some p.2∧H p.1=none∧p.1≠X.env.locals∧p.1 ∉ X.fs∧∀v,p.2.data≠.cell v):Inv X pins' σ H s :=
 ⟨I.ok,I.os,I.bare,I.base,I.loc,I.cell,I.free,I.freeC,fun p hp=>(Qq.mp hp).elim (fun z=>I.pin p (QM _ z)) (h p),I.hok,I.len⟩
theorem Zhw{N:List Str}(hN:N.Nodup){i j:Nat}{x:Str}(a:N[i]? = some x)(b:N[j]? = some x):i=j:=by
 obtain⟨h1,e1⟩:=Qf.mp a
 obtain⟨h2,e2⟩:=Qf.mp b
 exact(List.getElem_inj hN).mp (e1.trans e2.symm)
theorem ZjU{M:Model}{A:Around}{E:Value→Shared→Prop}{i:Nat}{x:Str}{v:V}{u:Value}{Q:Unit→Shared→Prop}(I:Inv X pins σ H s)(hN:X.N.Nodup)(hi:X.N[i]? = some x)(hx:Loc X.env.scope x)(r:ZA v u)
  (h:∀s',Inv X pins (σ.set i (some v)) H s'→(∃a,Heap.SameBut a s.heap s'.heap∧(a=X.env.locals∨X.env.cells.lookup x=some a))→Q () s') (hf:X.fn x=true∨X.env.scope.names.lookup x=some .local:=by first|exact .inl rfl|exact .inr rfl|assumption):wpAny M A (storeName X.env x u) Q E s:=by
 obtain⟨m,hn,hl⟩:=id I.loc
 have hcls:(X.env.scope.kind == .class||(X.env.scope.kind == .module&&X.env.locals != X.env.globals))=false:=by rw[I.ok.kind];rfl
 have hiσ:i<σ.length:=by rw[I.len];exact(Qf.mp hi).1
 have cne:=I.cne
 have tracked:∀ {a:Addr} {h':Heap},(∃o,s.heap.get? a=some o∧H a=none)→Heap.SameBut a s.heap h'→HOk X.prog X.w H h':=fun {a h'} ha hs b ob e=>by
  obtain⟨_,_,hfree⟩:=ha
  refine(I.hok b ob e).stay (fun c w' hc q=>(hs.2 c ?_).trans q) (fun _ q=>q) fun _ _ q=>q
  rintro rfl
  rcases hc with rfl|hc
  ·rw[hfree]at e;cases e
  ·rw[hfree]at hc;cases hc
 rcases hx with hk|hk
 ·refine wpAny_storeName_local hk hn (fun h' hn' hs=>?_) hcls
  obtain⟨oL,_,_,hoL,_⟩:=id hn
  refine h _ ⟨I.ok,I.os,I.bare,⟨fun b o e n hb hx=>?_,fun b o e n hb hx=>?_,I.base.free,fun b o e hx=>?_,I.base.tups,I.base.frzs,I.base.tbls⟩,⟨_,hn',fun j y v' e1 e2 e3=>?_⟩,fun y c e=>?_,I.free,I.freeC,fun p hp=>?_,tracked ⟨oL,hoL,I.free⟩ hs,by simpa using I.len⟩ ⟨_,hs,.inl rfl⟩
  ·exact(hs.2 b (Qu (Qt (Qk e) I.ok.above))).trans (I.base.keep b o e n hb hx)
  ·obtain⟨sl,e1⟩:=I.base.slot b o e n hb hx
   exact⟨sl,(hs.2 b (Qu (Qt (Qk e) I.ok.above))).trans e1⟩
  ·obtain⟨o',e1⟩:=I.base.there b o e hx
   exact⟨o',(hs.2 b (Qu (Qt (Qk e) I.ok.above))).trans e1⟩
  ·by_cases hj:j=i
   ·subst hj
    rw[hi]at e1;cases e1
    rw[List.getElem?_set_self hiσ]at e2
    cases e2
    exact⟨u,r,.inl ⟨hk,by simp⟩⟩
   ·rw[List.getElem?_set_ne (Ne.symm hj)]at e2
    obtain⟨u',r',q⟩:=hl j y v' e1 e2 e3
    refine⟨u',r',?_⟩
    rcases q with⟨k,e⟩|⟨k,c,e,z⟩
    ·refine .inl ⟨k,?_⟩
     have:y≠x:=fun e=>hj (Zhw hN e1 (e ▸ hi))
     simp[this,e]
    ·exact .inr ⟨k,c,e,z.sameBut hs (cne y c e)⟩
  ·obtain⟨w',z⟩:=I.cell y c e
   exact⟨w',z.sameBut hs (cne y c e)⟩
  ·obtain⟨e,n,ne,nf,d⟩:=I.pin p hp
   exact⟨(hs.2 p.1 ne).trans e,n,ne,nf,d⟩
 ·have hfn:X.fn x=true:=by
   rcases hf with z|z
   ·exact z
   ·rw[z]at hk;cases hk
  obtain⟨c,hc⟩:=I.ok.has x (.inl hk)
  obtain⟨w',z⟩:=I.cell x c hc
  refine wpAny_storeName_cell I.ok.kind hk hc z (fun h' hc' hs=>?_)
  obtain⟨oc,hoc,hocd⟩:=id z
  refine h { s with heap:=h' } ⟨I.ok,I.os,I.bare,⟨fun b o e n hb hx=>?_,fun b o e n hb hx=>?_,I.base.free,fun b o e hx=>?_,I.base.tups,I.base.frzs,I.base.tbls⟩,⟨m,hn.sameBut hs (Ne.symm (cne x c hc)),fun j y v' e1 e2 e3=>?_⟩,fun y c' e=>?_,I.free,I.freeC,fun p hp=>?_,tracked ⟨oc,hoc,I.freeC x c hc⟩ hs,by simpa using I.len⟩ ⟨c,hs,.inr hc⟩
  ·exact(hs.2 b (Qu (Qt (Qk e) (I.ok.cab x c hfn hc)))).trans (I.base.keep b o e n hb hx)
  ·obtain⟨sl,e1⟩:=I.base.slot b o e n hb hx
   exact⟨sl,(hs.2 b (Qu (Qt (Qk e) (I.ok.cab x c hfn hc)))).trans e1⟩
  ·obtain⟨o',e1⟩:=I.base.there b o e hx
   exact⟨o',(hs.2 b (Qu (Qt (Qk e) (I.ok.cab x c hfn hc)))).trans e1⟩
  ·by_cases hj:j=i
   ·subst hj
    rw[hi]at e1;cases e1
    rw[List.getElem?_set_self hiσ]at e2
    cases e2
    exact⟨u,r,.inr ⟨.inl hk,c,hc,hc'⟩⟩
   ·rw[List.getElem?_set_ne (Ne.symm hj)]at e2
    obtain⟨u',r',q⟩:=hl j y v' e1 e2 e3
    refine⟨u',r',?_⟩
    rcases q with q|⟨k,c',e,z'⟩
    ·exact .inl q
    ·refine .inr ⟨k,c',e,z'.sameBut hs ?_⟩
     rintro rfl
     exact hj (Zhw hN e1 (I.ok.inj _ _ _ e hc ▸ hi))
  ·by_cases hcc:c'=c
   ·subst hcc;exact⟨_,hc'⟩
   ·obtain⟨w2,z2⟩:=I.cell y c' e
    exact⟨w2,z2.sameBut hs hcc⟩
  ·obtain⟨e,n,ne,nf,d⟩:=I.pin p hp
   refine⟨(hs.2 p.1 ?_).trans e,n,ne,nf,d⟩
   intro q
   rw[q,hoc]at e
   have q':oc=p.2:=Qh e
   exact d w' (by rw[← q'];exact hocd)
theorem ZeW{M:Model}{A:Around}{E:Value→Shared→Prop}{i:Nat}{x:Str}{v:V}{u:Value}{Q:Unit→Shared→Prop}(I:Inv X pins σ H s)(hN:X.N.Nodup)(hi:X.N[i]? = some x)(hx:Loc X.env.scope x)(r:ZA v u)
  (h:∀s',Inv X pins (σ.set i (some v)) H s'→Q () s') (hf:X.fn x=true∨X.env.scope.names.lookup x=some .local:=by first|exact .inl rfl|exact .inr rfl|assumption):wpAny M A (storeName X.env x u) Q E s :=
 ZjU I hN hi hx r (fun s' I' _=>h s' I') hf
theorem Inv.call'{s':Shared}{ch:List Addr}(I:Inv X pins σ H s)(ho:s'.os=s.os)(u:Un (frs X.stack) ch H H' s.heap s'.heap)(hok:HOk X.prog X.w H' s'.heap)(hg:AllBare s'.gens)
  (hch:∀b∈ch,(b∈X.ex∨X.s₀.heap.objs.size≤b)∧b≠X.env.locals∧(∀x c,X.env.cells.lookup x=some c→c≠b)∧∀p∈X.pn++pins,p.1≠b):Inv X pins σ H' s':=by
 obtain⟨h',g',d',t',o'⟩:=s'
 have e:o'=s.os:=ho
 subst e
 exact I.call (g':=g') (t':=t') (d':=d') u hok hg hch
end
abbrev XK:=Value→Option Addr→Hp→Prop
abbrev St:=List (Option V)
abbrev VK:=V→Hp→Prop
abbrev TE:=St→Hp→VK→Prop
abbrev TT:=St→Hp→(Bool→Hp→Prop)→Prop
abbrev TA:=St→Hp→(List V→Hp→Prop)→Prop
structure ZcB where
 nx:St→Hp→Prop
 rt:VK
 bk:St→Hp→Prop:=fun _ _=>False
 ct:St→Hp→Prop:=fun _ _=>False
abbrev TS:=ZcB→St→Hp→Prop
def EP(X:Cx)(pins:List (Addr×Obj))(σ:St)(Q:VK)(u:Value)(s':Shared):Prop:=∃v H',Inv X pins σ H' s'∧ZA v u∧Q v H'
def TP(X:Cx)(pins:List (Addr×Obj))(σ:St)(Q:Bool→Hp→Prop)(b:Bool)(s':Shared):Prop:=∃H',Inv X pins σ H' s'∧Q b H'
def AP(X:Cx)(pins:List (Addr×Obj))(σ:St)(Q:List V→Hp→Prop)(us:List Value)(s':Shared):Prop:=∃vs H',Inv X pins σ H' s'∧ZB vs us∧Q vs H'
def SP(X:Cx)(pins:List (Addr×Obj))(D:ZcB)(f:Flow)(s':Shared):Prop :=
 match f with
 | .next=>∃σ' H',Inv X pins σ' H' s'∧D.nx σ' H'
 | .brk=>∃σ' H',Inv X pins σ' H' s'∧D.bk σ' H'
 | .cont=>∃σ' H',Inv X pins σ' H' s'∧D.ct σ' H'
 | .ret u=>∃v σ' H',Inv X pins σ' H' s'∧ZA v u∧D.rt v H'
def PE(X:Cx)(e:Expr)(t:TE):Prop :=
 ∀ (pins:List (Addr×Obj)) (s:Shared) (σ:St) (H:Hp) (Q:VK),Inv X pins σ H s→t σ H Q→wpAny (model X.prog X.w) X.A (eval e X.env) (EP X pins σ Q) X.xe s
def PT(X:Cx)(e:Expr)(t:TT):Prop :=
 ∀ (pins:List (Addr×Obj)) (s:Shared) (σ:St) (H:Hp) (Q:Bool→Hp→Prop),Inv X pins σ H s→t σ H Q→wpAny (model X.prog X.w) X.A (isTrue e X.env (eval e X.env)) (TP X pins σ Q) X.xe s
def PW(X:Cx)(e:Expr)(t:TT):Prop :=
 ∀ (whole:Sem Value) (pins:List (Addr×Obj)) (s:Shared) (σ:St) (H:Hp) (Q:Bool→Hp→Prop),Inv X pins σ H s→t σ H Q→wpAny (model X.prog X.w) X.A (isTrue e X.env whole) (TP X pins σ Q) X.xe s
theorem PW.pt{X:Cx}{e:Expr}{t:TT}(h:PW X e t):PT X e t:=h _
def PA(X:Cx)(es:List Expr)(t:TA):Prop :=
 ∀ (pos:Pos) (pins:List (Addr×Obj)) (s:Shared) (σ:St) (H:Hp) (Q:List V→Hp→Prop),Inv X pins σ H s→t σ H Q→wpAny (model X.prog X.w) X.A (spliced (backTo pos (starEach es X.env))) (AP X pins σ Q) X.xe s
def PS(X:Cx)(st:Stmt)(t:TS):Prop :=
 ∀ (pins:List (Addr×Obj)) (s:Shared) (σ:St) (H:Hp) (D:ZcB),Inv X pins σ H s→t D σ H→wpAny (model X.prog X.w) X.A (exec st X.env) (SP X pins D) X.xe s
def PSs(X:Cx)(st:List Stmt)(t:TS):Prop :=
 ∀ (pins:List (Addr×Obj)) (s:Shared) (σ:St) (H:Hp) (D:ZcB),Inv X pins σ H s→t D σ H→wpAny (model X.prog X.w) X.A (execs st X.env) (SP X pins D) X.xe s
theorem thn{α:Type}{t:Sem α}{Q Q':α→Shared→Prop}{M:Model}{A:Around}{E:Value→Shared→Prop}{s:Shared}(h:wpAny M A t Q E s)(hQ:∀a s,Q a s→Q' a s):wpAny M A t Q' E s:=wpAny_mono h hQ fun _ _ x=>x
section
variable {X:Cx}
def ZmH(i:Nat):TE:=fun σ H Q=>∃v,σ[i]? = some (some v)∧Q v H
def tC(v:V):TE:=fun _ H Q=>Q v H
theorem Zil{i:Nat}{x:Str}{pos:Pos}(hN:X.N[i]? = some x)(hv:Vis X.env.scope x)(hd:(x == ("__debug__" : Str))=false:=by decide)(hcd:(x == ("__classdict__" : Str))=false:=by decide):PE X (.Name x pos) (ZmH i):=by
 intro pins s σ H Q I h
 obtain⟨v,e,h⟩:=h
 obtain⟨m,hn,hl⟩:=I.loc
 obtain⟨u,r,l⟩:=hl i x v hN e hv
 have fin:EP X pins σ Q u s:=⟨v,H,I,r,h⟩
 rcases l with⟨hk,hm⟩|⟨hk,c,hc,hcell⟩
 ·exact wpAny_Name (wpAny_loadName_local I.ok.kind hk hn hm fin) hd
 ·rcases hk with hk|hk
  ·exact wpAny_Name (wpAny_loadName_cell I.ok.kind hk hc hcell fin) hd
  ·exact wpAny_Name (wpAny_loadName_free I.ok.kind hk hc hcell fin hcd) hd
theorem Zh{i j pos}:PE X (.Constant (.int i) j pos) (tC (.int i)):=fun _ _ _ H _ I h=>wpAny_Constant_int ⟨.int i,H,I.tok _,⟨_,rfl⟩,h⟩
theorem ZhB{b j pos}:PE X (.Constant (.bool b) j pos) (tC (.bl b)):=fun _ _ _ H _ I h=>Constant_bool ⟨.bl b,H,I,rfl,h⟩
theorem Zaj{j pos}:PE X (.Constant .none j pos) (tC .non):=fun _ _ _ H _ I h=>Constant_none ⟨.non,H,I,rfl,h⟩
theorem Za3{x j pos}:PE X (.Constant (.str x) j pos) (tC (.str x)):=fun _ _ _ H _ I h=>Calls.Constant_str ⟨.str x,H,I.tok _,⟨_,rfl⟩,h⟩
def Gl(X:Cx)(x:Str):Prop:=X.env.kindOf x=some .globalImplicit
theorem ZiH{E:Value→Shared→Prop}{pins:List (Addr×Obj)}{s:Shared}{σ:St}{H:Hp}{x:Str}{u:Value}{pos:Pos}{Q:Value→Shared→Prop}(I:Inv X pins σ H s)(hg:Gl X x)(hm:X.mg x=some u)(h:Q u s)
  (hd:(x == ("__debug__" : Str))=false:=by decide):wpAny (model X.prog X.w) X.A (eval (.Name x pos) X.env) Q E s :=
 Calls.Name_function_global I.ok.kind hg (Calls.loadGlobal_global (by rw[I.ok.glob];exact I.mod.glob.keeps I.bk) hm h) hd
theorem Zdv{E:Value→Shared→Prop}{pins:List (Addr×Obj)}{s:Shared}{σ:St}{H:Hp}{x:Str}{u:Value}{pos:Pos}{Q:Value→Shared→Prop}(I:Inv X pins σ H s)(hg:Gl X x)(hm:X.mg x=none)(hv:bootBuiltins x=some u)(h:Q u s)
  (hn:x ≠ "__name__":=by decide) (hd:(x == ("__debug__" : Str))=false:=by decide):wpAny (model X.prog X.w) X.A (eval (.Name x pos) X.env) Q E s:=by
 obtain⟨mb,h1,h2⟩:=I.mod.blt
 exact Calls.Name_function_global I.ok.kind hg (Calls.loadGlobal_builtin (by rw[I.ok.glob];exact I.mod.glob.keeps I.bk) hm (by rw[I.ok.blt];exact h1.keeps I.bk) ((h2 x hn).trans hv) h) hd
theorem Zmn{x:Str}{v:V}{u:Value}{pos:Pos}(hg:Gl X x)(hm:X.mg x=none)(hv:bootBuiltins x=some u)(r:ZA v u)(hn:x ≠ "__name__":=by decide)(hd:(x == ("__debug__" : Str))=false:=by decide):PE X (.Name x pos) (tC v) :=
 fun _ _ _ H _ I h=>Zdv I hg hm hv ⟨v,H,I,r,h⟩ hn hd
def t2I(ta tb:TE)(k:Int→Int→Hp→Prop):St→Hp→Prop:=fun σ H=>ta σ H fun x H1=>tb σ H1 fun y H2=>∃i j,x=.int i∧y=.int j∧k i j H2
def tAdd(ta tb:TE):TE:=fun σ H Q=>t2I ta tb (fun i j H2=>Q (.int (i+j)) H2) σ H
def tSub(ta tb:TE):TE:=fun σ H Q=>t2I ta tb (fun i j H2=>Q (.int (i-j)) H2) σ H
def tMul(ta tb:TE):TE:=fun σ H Q=>t2I ta tb (fun i j H2=>(-(2 ^ 64)<i∧i<2 ^ 64)∧Q (.int (i*j)) H2) σ H
variable {a b:Expr} {ta tb:TE} {pos:Pos}
def PC(X:Cx)(op:CmpOp)(a b:Expr)(t:TE):Prop :=
 ∀ (pins:List (Addr×Obj)) (s:Shared) (σ:St) (H:Hp) (Q:VK),Inv X pins σ H s→t σ H Q →
  wpAny (model X.prog X.w) X.A (eval a X.env) (fun v s₁=>wpAny (model X.prog X.w) X.A (eval b X.env) (fun u s₂=>wpAny (model X.prog X.w) X.A (compareOp op v u) (EP X pins σ Q) X.xe s₂) X.xe s₁) X.xe s
def ZjJ(p:Int→Int→Bool)(ta tb:TE):TE:=fun σ H Q=>t2I ta tb (fun i j H2=>Q (.bl (p i j)) H2) σ H
abbrev tLt:TE→TE→TE:=ZjJ fun i j=>decide (i<j)
abbrev tLe:TE→TE→TE:=ZjJ fun i j=>decide (i≤j)
abbrev tGt:TE→TE→TE:=ZjJ fun i j=>decide (j<i)
abbrev tGe:TE→TE→TE:=ZjJ fun i j=>decide (j≤i)
abbrev tEqI:TE→TE→TE:=ZjJ fun i j=>decide (i=j)
abbrev tNeI:TE→TE→TE:=ZjJ fun i j=>!decide (i=j)
def tIsN(ta:TE):TE:=fun σ H Q=>ta σ H fun x H1=>Q (.bl (decide (x=.non))) H1
def tNotN(ta:TE):TE:=fun σ H Q=>ta σ H fun x H1=>Q (.bl (!decide (x=.non))) H1
def tB(t:TE):TT:=fun σ H Q=>t σ H fun x H1=>∃c,x=.bl c∧Q c H1
theorem Zdz{e:Expr}{t:TE}(h:PE X e t)(he:∀whole,isTrue e X.env whole=(do let v ← whole;standAt e.pos;holding [v] (truthy v)):=by intro _;rfl):PT X e (tB t):=by
 intro pins s σ H Q I hw
 refine isTrue_plain (thn (h pins s σ H _ I hw) fun v s1 ⟨x,H1,I1,r1,q1⟩=>?_) (he _)
 obtain⟨d,rfl,q⟩:=q1
 cases r1
 exact wpAny_truthy_bool ⟨H1,I1,q⟩
variable {tA tB':TT} {rest:List Expr}
def Zpq(t u:TT):TT:=fun σ H Q=>t σ H fun c H1=>if c=true then u σ H1 Q else Q false H1
def tOr(t u:TT):TT:=fun σ H Q=>t σ H fun c H1=>if c=true then Q true H1 else u σ H1 Q
def Zpr(t:TT):TT:=fun σ H Q=>t σ H fun c H1=>Q (!c) H1
theorem Zc4(ha:PT X a tA):PW X (.BoolOp .And [a] pos) tA:=by
 intro wh pins s σ H Q I h
 refine isTrue_and (thn (ha pins s σ H Q I h) fun c s1 e=>?_)
 cases c with
 | true=>exact isTrue_and_nil e
 | false=>exact e
theorem Zgw(ha:PT X a tA):PW X (.BoolOp .Or [a] pos) tA:=by
 intro wh pins s σ H Q I h
 refine isTrue_or (thn (ha pins s σ H Q I h) fun c s1 e=>?_)
 cases c with
 | false=>exact isTrue_or_nil e
 | true=>exact e
theorem ZdA(ha:PT X a tA)(hb:PW X (.BoolOp .And (b::rest) pos) tB'):PW X (.BoolOp .And (a::b::rest) pos) (Zpq tA tB'):=by
 intro wh pins s σ H Q I h
 refine isTrue_and (thn (ha pins s σ H _ I h) fun c s1 ⟨H1,I1,q1⟩=>?_)
 cases c with
 | true=>exact hb wh pins s1 σ H1 Q I1 q1
 | false=>exact⟨H1,I1,q1⟩
theorem ZiB(ha:PT X a tA)(hb:PW X (.BoolOp .Or (b::rest) pos) tB'):PW X (.BoolOp .Or (a::b::rest) pos) (tOr tA tB'):=by
 intro wh pins s σ H Q I h
 refine isTrue_or (thn (ha pins s σ H _ I h) fun c s1 ⟨H1,I1,q1⟩=>?_)
 cases c with
 | true=>exact⟨H1,I1,q1⟩
 | false=>exact hb wh pins s1 σ H1 Q I1 q1
theorem Zgu(ha:PT X a tA):PT X (.UnaryOp .Not a pos) (Zpr tA):=by
 intro pins s σ H Q I h
 exact isTrue_not (ha pins s σ H (fun c H1=>Q (!c) H1) I h)
def ZoZ(ta tb:TE):TE:=fun σ H Q=>ta σ H fun x H1=>∃c,x=.bl c∧if c=true then tb σ H1 Q else Q (.bl false) H1
def tOrV(ta tb:TE):TE:=fun σ H Q=>ta σ H fun x H1=>∃c,x=.bl c∧if c=true then Q (.bl true) H1 else tb σ H1 Q
def ZoQ(ta:TE):TE:=fun σ H Q=>ta σ H fun x H1=>∃c,x=.bl c∧Q (.bl (!c)) H1
theorem ZgA{op}{t:TE}(h:PE X a t):PE X (.BoolOp op [a] pos) t:=fun pins s σ H Q I hw=>BoolOp_one (h pins s σ H Q I hw)
theorem ZeB(ha:PE X a ta)(hb:PE X (.BoolOp .And (b::rest) pos) tb):PE X (.BoolOp .And (a::b::rest) pos) (ZoZ ta tb):=by
 intro pins s σ H Q I h
 refine BoolOp_and (thn (ha pins s σ H _ I h) fun v s1 ⟨x,H1,I1,r1,q1⟩=>?_)
 obtain⟨c,rfl,q1⟩:=q1
 cases r1
 refine wpAny_truthy_bool ?_
 cases c with
 | true=>exact hb pins s1 σ H1 Q I1 q1
 | false=>exact⟨.bl false,H1,I1,rfl,q1⟩
theorem Zm6(ha:PE X a ta):PE X (.UnaryOp .Not a pos) (ZoQ ta):=by
 intro pins s σ H Q I h
 refine UnaryOp_ (thn (ha pins s σ H _ I h) fun v s1 ⟨x,H1,I1,r1,q1⟩=>?_)
 obtain⟨c,rfl,q1⟩:=q1
 cases r1
 exact not_of (wpAny_truthy_bool ⟨.bl (!c),H1,I1,rfl,q1⟩)
def tIf(t:TT)(ta tb:TE):TE:=fun σ H Q=>t σ H fun c H1=>if c=true then ta σ H1 Q else tb σ H1 Q
theorem Zbm{c:Expr}(hc:PT X c tA)(ha:PE X a ta)(hb:PE X b tb):PE X (.IfExp c a b pos) (tIf tA ta tb):=by
 intro pins s σ H Q I h
 refine wpAny_IfExp (thn (hc pins s σ H _ I h) fun d s1 ⟨H1,I1,q1⟩=>?_)
 cases d with
 | true=>exact ha pins s1 σ H1 Q I1 q1
 | false=>exact hb pins s1 σ H1 Q I1 q1
end
def SqL(K:PySem.W.Frag)(H:Hp)(a:Addr)(xs:List V):Prop :=
 Rd H a (.lst xs) ∨
  ∃ (o:Obj) (its:Array Value) (n:Nat),K.lookup a=some o∧o.cls=.type "list"∧o.dict=none∧o.data=.seq its n∧its.size≤sizeLine∧ZB xs its.toList
def SqT(K:PySem.W.Frag)(H:Hp)(a:Addr)(xs:List V):Prop :=
 Rd H a (.tup xs) ∨
  ∃ (o:Obj) (its:Array Value) (n:Nat),K.lookup a=some o∧o.cls=.type "tuple"∧o.data=.seq its n∧its.size≤sizeLine∧ZB xs its.toList
def ZpK:Value→Option V
 | .none=>some .non
 | .bool b=>some (.bl b)
 | .int i _=>some (.int i)
 | .str x _=>some (.str x)
 | .bytes b _=>some (.byt b)
 | .float b _=>some (.flt b)
 | .ref a=>some (.ref a)
 | .type n=>some (.ty n)
 | _=>none
theorem ZA.abs{x:V}{u:Value}(r:ZA x u):ZpK u=some x:=by
 cases x with
 | non=>cases r;rfl
 | bl _=>cases r;rfl
 | int _=>obtain⟨t,rfl⟩:=r;rfl
 | str _=>obtain⟨t,rfl⟩:=r;rfl
 | byt _=>obtain⟨t,rfl⟩:=r;rfl
 | flt _=>obtain⟨t,rfl⟩:=r;rfl
 | ref _=>cases r;rfl
 | ty _=>cases r;rfl
theorem ZA.inj{x y:V}{u:Value}(r:ZA x u)(q:ZA y u):x=y:=Qh (r.abs.symm.trans q.abs)
theorem ZB.inj:∀ {xs ys:List V} {us:List Value},ZB xs us→ZB ys us→xs=ys
 | _,_,_,.nil,.nil=>rfl
 | _,_,_,.cons r t,.cons r' t'=>by rw[r.inj r',ZB.inj t t']
section
variable {X:Cx} {pins:List (Addr×Obj)} {σ:St} {H:Hp} {s:Shared} {a:Addr} {xs ys:List V}
theorem SqL.of{K:PySem.W.Frag}(h:H a=some (.lst xs)):SqL K H a xs:=.inl (.inl h)
theorem SqT.of{K:PySem.W.Frag}(h:H a=some (.tup xs)):SqT K H a xs:=.inl (.inl h)
theorem Inv.list(I:Inv X pins σ H s)(h:SqL X.K H a xs):∃its:List Value,ZB xs its∧PlainL s.heap a its.toArray∧xs.length≤sizeLine:=by
 rcases h with h|⟨o,its,n,hk,hc,hd,hs,hz,r⟩
 ·obtain⟨z,its,n,r,e⟩:=h.ok I.hok
  exact⟨its,r,⟨_,n,e,rfl,rfl,rfl⟩,z⟩
 ·refine⟨its.toList,r,⟨o,n,I.kIn a o hk,hc,hd,by simpa using hs⟩,?_⟩
  have e:=r.length
  simp only[Array.length_toList]at e
  omega
theorem Inv.tuple(I:Inv X pins σ H s)(h:SqT X.K H a xs):∃its:List Value,ZB xs its∧IsTup s.heap a its.toArray∧xs.length≤sizeLine:=by
 rcases h with h|⟨o,its,n,hk,hc,hs,hz,r⟩
 ·obtain⟨z,its,r,p⟩:=h.ok I.hok
  exact⟨its,r,p,z⟩
 ·refine⟨its.toList,r,⟨o,I.kIn a o hk,hc,n,by simpa using hs⟩,?_⟩
  have e:=r.length
  simp only[Array.length_toList]at e
  omega
theorem Inv.list_inj(I:Inv X pins σ H s)(h:SqL X.K H a xs)(h':SqL X.K H a ys):xs=ys:=by
 obtain⟨its,r,⟨o,n,e,_,_,d⟩,_⟩:=I.list h
 obtain⟨its',r',⟨o',n',e',_,_,d'⟩,_⟩:=I.list h'
 rw[e]at e';cases e'
 rw[d]at d'
 injection d' with d1 _
 have:its=its':=by simpa using congrArg Array.toList d1
 subst this
 exact r.inj r'
theorem Inv.tuple_inj(I:Inv X pins σ H s)(h:SqT X.K H a xs)(h':SqT X.K H a ys):xs=ys:=by
 obtain⟨its,r,⟨o,e,_,n,d⟩,_⟩:=I.tuple h
 obtain⟨its',r',⟨o',e',_,n',d'⟩,_⟩:=I.tuple h'
 rw[e]at e';cases e'
 rw[d]at d'
 injection d' with d1 _
 have:its=its':=by simpa using congrArg Array.toList d1
 subst this
 exact r.inj r'
end
abbrev Cx.wish(X:Cx)(E:Value→Shared→Prop):Cx:={ X with xe:=E }
abbrev Cx.nox(X:Cx):Cx:=X.wish fun _ _=>False
theorem Cx.Ok.wish{X:Cx}(ok:X.Ok)(E:Value→Shared→Prop):(X.wish E).Ok :=
 ⟨ok.mod,ok.kind,ok.glob,ok.blt,ok.above,ok.inj,ok.has,ok.cab,ok.hd,ok.frames,ok.stk,ok.exf,ok.bs,ok.bsz,ok.noex,ok.exfs,ok.funs,ok.frf⟩
theorem Cx.Ok.unwish{X:Cx}{E:Value→Shared→Prop}(ok:(X.wish E).Ok):X.Ok :=
 ⟨ok.mod,ok.kind,ok.glob,ok.blt,ok.above,ok.inj,ok.has,ok.cab,ok.hd,ok.frames,ok.stk,ok.exf,ok.bs,ok.bsz,ok.noex,ok.exfs,ok.funs,ok.frf⟩
section
variable {X:Cx} {pins:List (Addr×Obj)} {σ:St} {H:Hp} {s:Shared} {E:Value→Shared→Prop}
theorem Inv.wish(I:Inv X pins σ H s)(E:Value→Shared→Prop):Inv (X.wish E) pins σ H s:=⟨I.ok.wish E,I.os,I.bare,I.base,I.loc,I.cell,I.free,I.freeC,I.pin,I.hok,I.len⟩
theorem Inv.unwish(I:Inv (X.wish E) pins σ H s):Inv X pins σ H s:=⟨I.ok.unwish,I.os,I.bare,I.base,I.loc,I.cell,I.free,I.freeC,I.pin,I.hok,I.len⟩
theorem SP.unwish{D:ZcB}{f:Flow}{s':Shared}(h:SP (X.wish E) pins D f s'):SP X pins D f s':=by
 cases f with
 | next=>obtain⟨σ',H',I,q⟩:=h;exact⟨σ',H',I.unwish,q⟩
 | brk=>obtain⟨σ',H',I,q⟩:=h;exact⟨σ',H',I.unwish,q⟩
 | cont=>obtain⟨σ',H',I,q⟩:=h;exact⟨σ',H',I.unwish,q⟩
 | ret u=>obtain⟨v,σ',H',I,r,q⟩:=h;exact⟨v,σ',H',I.unwish,r,q⟩
theorem PSs.nox{st:List Stmt}{t:TS}(h:PSs X.nox st t):PSs X st t:=fun pins s σ H D I hw =>
 wpAny_mono (h pins s σ H D (I.wish _) hw) (fun _ _ q=>q.unwish) fun _ _ z=>False.elim z
end
section
variable {X:Cx} {st:Stmt} {rest:List Stmt} {t u:TS} {e:Expr} {te:TE} {pos:Pos}
def Zo7:TS:=fun D σ H=>D.nx σ H
def ZpN(t u:TS):TS:=fun D σ H=>t { D with nx:=u D } σ H
theorem ZS:PSs X [] Zo7:=fun _ _ σ H _ I h=>wpAny_execs_nil ⟨σ,H,I,h⟩
theorem Zg(h1:PS X st t)(h2:PSs X rest u):PSs X (st::rest) (ZpN t u):=by
 intro pins s σ H D I h
 refine wpAny_execs_cons (thn (h1 pins s σ H { D with nx:=u D } I h) fun f s1 q=>?_)
 cases f with
 | next =>
  obtain⟨σ',H',I',q⟩:=q
  exact h2 pins s1 σ' H' D I' q
 | ret v=>exact q
 | brk=>exact q
 | cont=>exact q
theorem Zi(h1:PS X st t):PSs X [st] t:=by
 intro pins s σ H D I h
 refine wpAny_execs_cons (thn (h1 pins s σ H D I h) fun f s1 q=>?_)
 cases f with
 | next=>exact wpAny_execs_nil q
 | ret v=>exact q
 | brk=>exact q
 | cont=>exact q
def tBreak:TS:=fun D σ H=>D.bk σ H
def tCont:TS:=fun D σ H=>D.ct σ H
theorem Inv.quiet{pins:List (Addr×Obj)}{σ:St}{H:Hp}{s:Shared}(I:Inv X pins σ H s):interactive X.env=false:=by simp[interactive,I.ok.kind]
def Zol(te:TE):TS:=fun D σ H=>te σ H fun _ H1=>D.nx σ H1
theorem ZaG(he:PE X e te)(hs:swapsWith e none pos.line X.env=pure false:=by rfl):PS X (.Expr e pos) (Zol te):=by
 intro pins s σ H D I h
 exact wpAny_Expr_any (thn (he pins s σ H _ I h) fun v s1 ⟨x,H1,I1,r1,q1⟩=>⟨σ,H1,I1,q1⟩) I.quiet hs
def ZpE(te:TE):TS:=fun D σ H=>te σ H D.rt
theorem Zr(he:PE X e te):PS X (.Return (some e) pos) (ZpE te):=by
 intro pins s σ H D I h
 exact wpAny_Return_some (thn (he pins s σ H _ I h) fun v s1 ⟨x,H1,I1,r1,q1⟩=>⟨x,σ,H1,I1,r1,q1⟩)
def tRetN:TS:=fun D _ H=>D.rt .non H
def Zpb(c:TT)(t u:TS):TS:=fun D σ H=>c σ H fun b H1=>if b=true then t D σ H1 else u D σ H1
theorem Zaw{c:Expr}{a b:List Stmt}{tc:TT}(hc:PT X c tc)(ha:PSs X a t)(hb:PSs X b u):PS X (.If c a b pos) (Zpb tc t u):=by
 intro pins s σ H D I h
 refine wpAny_If (thn (hc pins s σ H _ I h) fun d s1 ⟨H1,I1,q1⟩=>?_)
 cases d with
 | true=>exact ha pins s1 σ H1 D I1 q1
 | false=>exact hb pins s1 σ H1 D I1 q1
def tNever:TS:=fun _ _ _=>False
end
abbrev TG:=V→St→Hp→(St→Hp→Prop)→Prop
abbrev TGs:=List V→St→Hp→(St→Hp→Prop)→Prop
def PG(X:Cx)(target:Expr)(t:TG):Prop :=
 ∀ (pins:List (Addr×Obj)) (s:Shared) (σ:St) (H:Hp) (v:V) (u:Value) (Q:St→Hp→Prop),Inv X pins σ H s→ZA v u→t v σ H Q →
  wpAny (model X.prog X.w) X.A (assign target X.env u) (fun _ s'=>∃σ' H',Inv X pins σ' H' s'∧Q σ' H') X.xe s
def PGs(X:Cx)(ts:List Expr)(t:TGs):Prop :=
 ∀ (pins:List (Addr×Obj)) (s:Shared) (σ:St) (H:Hp) (vs:List V) (us:List Value) (Q:St→Hp→Prop),Inv X pins σ H s→ZB vs us→t vs σ H Q →
  wpAny (model X.prog X.w) X.A (assignInOrder ((assignEach ts X.env).map (·.2)) us) (fun _ s'=>∃σ' H',Inv X pins σ' H' s'∧Q σ' H') X.xe s
abbrev Zju:=V→V→V→Hp→(Hp→Prop)→Prop
def Znh(X:Cx)(t:Zju):Prop :=
 ∀ (pins:List (Addr×Obj)) (s:Shared) (σ:St) (H:Hp) (o i v:V) (ov iv u:Value) (Q:Hp→Prop),Inv X pins σ H s→ZA o ov→ZA i iv→ZA v u→t o i v H Q →
  wpAny (model X.prog X.w) X.A (setItem ov iv u) (fun _ s'=>∃H',Inv X pins σ H' s'∧Q H') X.xe s
abbrev TIp:=V→V→Hp→VK→Prop
def PIp(X:Cx)(op:Operator)(t:TIp):Prop :=
 ∀ (pins:List (Addr×Obj)) (s:Shared) (σ:St) (H:Hp) (x y:V) (v u:Value) (Q:VK),Inv X pins σ H s→ZA x v→ZA y u→t x y H Q →
  wpAny (model X.prog X.w) X.A (inplaceOp op v u) (EP X pins σ Q) X.xe s
section
variable {X:Cx} {pos:Pos}
def Zk9(i:Nat):TG:=fun v σ H Q=>Q (σ.set i (some v)) H
theorem ZL{i:Nat}{x:Str}(hN:X.N.Nodup)(hi:X.N[i]? = some x)(hx:Loc X.env.scope x)(hf:X.fn x=true∨X.env.scope.names.lookup x=some .local:=by first|exact .inl rfl|exact .inr rfl|assumption):PG X (.Name x pos) (Zk9 i):=by
 intro pins s σ H v u Q I r h
 exact wpAny_assign_Name (ZeW I hN hi hx r (fun s' I'=>⟨_,H,I',h⟩) hf)
def Zpe:TGs:=fun vs σ H Q=>vs=[]∧Q σ H
def Zoc(t:TG)(u:TGs):TGs:=fun vs σ H Q=>∃v r,vs=v::r∧t v σ H fun σ' H'=>u r σ' H' Q
theorem ZaW:PGs X [] Zpe:=by
 intro pins s σ H vs us Q I r h
 obtain⟨e,h⟩:=h
 subst e
 cases r
 exact assignInOrder_nil ⟨σ,H,I,h⟩
theorem Zz{e:Expr}{es:List Expr}{t:TG}{u:TGs}(h1:PG X e t)(h2:PGs X es u)
  (hs:(assignEach (e::es) X.env).map (·.2)=assign e X.env::(assignEach es X.env).map (·.2):=by rfl):PGs X (e::es) (Zoc t u):=by
 intro pins s σ H vs us Q I r h
 obtain⟨v,vr,e1,h⟩:=h
 subst e1
 cases r with
 | cons r rr =>
  rw[hs]
  refine assignInOrder_cons (thn (h1 pins s σ H _ _ _ I r h) fun _ s1 ⟨σ1,H1,I1,q1⟩=>?_)
  exact h2 pins s1 σ1 H1 _ _ Q I1 rr q1
def ZoG(K:PySem.W.Frag)(n:Nat)(t:TGs):TG:=fun v σ H Q=>∃a xs,v=.ref a∧SqT K H a xs∧xs.length=n∧t xs σ H Q
theorem Znc{es:List Expr}{k:Nat}{t:TGs}{n:Nat}(hc:X.calm=true)(h:PGs X es t)
  (hn:(assignEach es X.env).length=n:=by rfl) (hst:(assignEach es X.env).findIdx? (·.1)=none:=by rfl):PG X (.Tuple es k pos) (ZoG X.K n t):=by
 intro pins s σ H v u Q I r hw
 obtain⟨a,xs,e1,hq,hl,hw⟩:=hw
 subst e1
 cases r
 obtain⟨its,rv,ht,hz⟩:=I.tuple hq
 refine assign_Tuple_tuple (I.ok.hd hc) ht (by simp[hn,← hl,rv.length]) hst fun h' hx=>?_
 have I1:Inv X pins σ H { s with heap:=h' }:=I.kept (t':=s.toks) fun b o e=>hx b o (Qu (Qk e)) e
 exact h pins _ σ H xs _ Q I1 (by simpa using rv) hw
def Zpo(to ti:TE)(t:Zju):TG:=fun v σ H Q=>to σ H fun o H1=>ti σ H1 fun i H2=>t o i v H2 fun H3=>Q σ H3
theorem ZdD{o i:Expr}{to ti:TE}{t:Zju}(ho:PE X o to)(hi:PE X i ti)(hs:Znh X t)
  (ha:∀v,assign (.Subscript o i pos) X.env v=(do
   let ov ← holding [v] (eval o X.env)
   let iv ← holding [v,ov] (eval i X.env)
   standAt pos
   holding [v,ov,iv] (setItem ov iv v)
   release [v,ov,iv] []):=by intro _;rfl):PG X (.Subscript o i pos) (Zpo to ti t):=by
 intro pins s σ H v u Q I r h
 rw[ha]
 refine wpAny_bind (wpAny_holding (thn (ho pins s σ H _ I h) fun ov s1 ⟨x,H1,I1,r1,q1⟩=>?_))
 refine wpAny_bind (wpAny_holding (thn (hi pins s1 σ H1 _ I1 q1) fun iv s2 ⟨y,H2,I2,r2,q2⟩=>?_))
 refine wpAny_bind (wpAny_standAt (wpAny_bind (wpAny_holding (thn (hs pins s2 σ H2 x y v ov iv u _ I2 r1 r2 r q2) fun _ s3 ⟨H3,I3,q3⟩=>?_))))
 exact wpAny_release ⟨σ,H3,I3,q3⟩
def ZoM(te:TE)(g:TG):TS:=fun D σ H=>te σ H fun x H1=>g x σ H1 D.nx
theorem Za9{tg e:Expr}{te:TE}{g:TG}(he:PE X e te)(hg:PG X tg g)(hs:swapsWithSole [tg] e pos.line X.env=pure false:=by rfl)(hw:swappedStores [tg] e X.env=pure none:=by rfl)
  (h1:(assignEach [tg] X.env).map (·.2)=[assign tg X.env]:=by rfl):PS X (.Assign [tg] e pos) (ZoM te g):=by
 intro pins s σ H D I h
 refine wpAny_Assign_stores (thn (he pins s σ H _ I h) fun v s1 ⟨x,H1,I1,r1,q1⟩=>?_) hs hw
 rw[h1]
 exact thn (hg pins s1 σ H1 x v _ I1 r1 q1) fun _ s2 q=>q
theorem Zy{i:Nat}{x:Str}{e:Expr}{te:TE}{pos':Pos}(hN:X.N.Nodup)(hi:X.N[i]? = some x)(hx:Loc X.env.scope x)(he:PE X e te)(hs:swapsWith e (some (.Name x pos')) pos.line X.env=pure false:=by rfl)(hf:X.fn x=true∨X.env.scope.names.lookup x=some .local:=by first|exact .inl rfl|exact .inr rfl|assumption) :
  PS X (.Assign [.Name x pos'] e pos) (ZoM te (Zk9 i)):=by
 intro pins s σ H D I h
 refine wpAny_Assign_Name (thn (he pins s σ H _ I h) fun v s1 ⟨y,H1,I1,r1,q1⟩=>?_) hs
 exact ZeW I1 hN hi hx r1 (fun s2 I2=>⟨_,H1,I2,q1⟩) hf
def tPar(i j:Nat)(ta:TA):TS:=fun D σ H=>ta σ H fun vs H1=>∃v w,vs=[v,w]∧D.nx ((σ.set i (some v)).set j (some w)) H1
def Zpt(i:Nat)(te:TE)(ti:TIp):TS:=fun D σ H=>∃x,σ[i]? = some (some x)∧te σ H fun y H1=>ti x y H1 fun z H2=>D.nx (σ.set i (some z)) H2
theorem Znd{i:Nat}{x:Str}{e:Expr}{te:TE}{op:Operator}{ti:TIp}{pos':Pos}(hN:X.N.Nodup)(hi:X.N[i]? = some x)(hx:Loc X.env.scope x)(he:PE X e te)(ho:PIp X op ti)(hf:X.fn x=true∨X.env.scope.names.lookup x=some .local:=by first|exact .inl rfl|exact .inr rfl|assumption) :
  PS X (.AugAssign (.Name x pos') op e pos) (Zpt i te ti):=by
 intro pins s σ H D I h
 obtain⟨v,e1,h⟩:=h
 obtain⟨m,hn,hl⟩:=I.loc
 have vis:Vis X.env.scope x:=by rcases hx with k|k;exact .inl k;exact .inr (.inl k)
 obtain⟨u,r,l⟩:=hl i x v hi e1 vis
 refine wpAny_AugAssign_Name ?_
 have go:wpAny (model X.prog X.w) X.A (eval e X.env) (fun w s₂=>wpAny (model X.prog X.w) X.A (inplaceOp op u w) (fun r s₃=>wpAny (model X.prog X.w) X.A (storeName X.env x r) (fun _=>SP X pins D .next) X.xe s₃) X.xe s₂) X.xe s:=by
  refine thn (he pins s σ H _ I h) fun w s1 ⟨y,H1,I1,r1,q1⟩=>?_
  refine thn (ho pins s1 σ H1 v y u w _ I1 r r1 q1) fun z s2 ⟨zv,H2,I2,r2,q2⟩=>?_
  exact ZeW I2 hN hi hx r2 (fun s3 I3=>⟨_,H2,I3,q2⟩) hf
 rcases l with⟨hk,hm⟩|⟨hk,c,hc,hcell⟩
 ·exact wpAny_loadName_local I.ok.kind hk hn hm go
 ·rcases hk with hk|hk
  ·exact wpAny_loadName_cell I.ok.kind hk hc hcell go
  ·rcases hx with k|k
   ·have:X.env.scope.names.lookup x=some .free:=hk
    rw[k]at this;cases this
   ·have:X.env.scope.names.lookup x=some .free:=hk
    rw[k]at this;cases this
def tAugS(to ti te:TE)(tget:V→V→Hp→VK→Prop)(tip:TIp)(tset:Zju):TS:=fun D σ H=>to σ H fun o H1=>ti σ H1 fun i H2=>tget o i H2 fun x H3=>te σ H3 fun y H4=>tip x y H4 fun z H5=>tset o i z H5 fun H6=>D.nx σ H6
def PGet(X:Cx)(t:V→V→Hp→VK→Prop):Prop :=
 ∀ (pins:List (Addr×Obj)) (s:Shared) (σ:St) (H:Hp) (o i:V) (ov iv:Value) (Q:VK),Inv X pins σ H s→ZA o ov→ZA i iv→t o i H Q →
  wpAny (model X.prog X.w) X.A (getItem ov iv) (EP X pins σ Q) X.xe s
def ipI(f:Int→Int→Int):TIp:=fun x y H Q=>∃i j,x=.int i∧y=.int j∧Q (.int (f i j)) H
theorem ZnY:PIp X .Add (ipI fun i j=>i+j):=by
 intro pins s σ H x y v u Q I r1 r2 h
 obtain⟨i,j,e1,e2,q⟩:=h
 subst e1;subst e2
 obtain⟨t,rfl⟩:=r1
 obtain⟨t',rfl⟩:=r2
 exact iadd_int ⟨.int _,H,I.tok _,⟨_,rfl⟩,q⟩
end
section
variable {X:Cx} {pos:Pos}
def Zn2(c:TT)(tb:TS):TS:=fun D σ H=>∃W:Nat→St→Hp→Prop,(∃m,W m σ H)∧∀m σ H,W m σ H →
 c σ H fun b H1=>if b=true then ∃N:St→Hp→Prop,(∀σ' H',N σ' H'→∃m',m'<m∧W m' σ' H')∧tb { D with nx:=N,ct:=N,bk:=D.nx } σ H1 else D.nx σ H1
theorem Ze5{c:Expr}{body:List Stmt}{tc:TT}{tb:TS}(hp:PassesOwn (model X.prog X.w) X.A X.env X.xe)(hc:PT X c tc)(hb:PSs X body tb):PS X (.While c body [] pos) (Zn2 tc tb):=by
 intro pins s σ H D I h
 obtain⟨W,⟨m0,w0⟩,turn⟩:=h
 refine wpAny_While (codeAny_whileLoop (fun n s'=>∃σ' H',Inv X pins σ' H' s'∧W n σ' H') ?_ m0 ⟨σ,H,I,w0⟩)
 rintro n s1 ⟨σ1,H1,I1,w1⟩
 refine wpAny_passesOwn hp (thn (hc pins s1 σ1 H1 _ I1 (turn n σ1 H1 w1)) fun b s2 ⟨H2,I2,q2⟩=>?_)
 cases b with
 | true =>
  obtain⟨N,hN,q2⟩:=q2
  rw[if_pos rfl]
  refine wpAny_passesOwn hp (thn (hb pins s2 σ1 H2 _ I2 q2) fun f s3 q3=>?_)
  cases f with
  | next =>
   obtain⟨σ3,H3,I3,n3⟩:=q3
   obtain⟨m',hm,w3⟩:=hN σ3 H3 n3
   exact⟨m',hm,σ3,H3,I3,w3⟩
  | cont =>
   obtain⟨σ3,H3,I3,n3⟩:=q3
   obtain⟨m',hm,w3⟩:=hN σ3 H3 n3
   exact⟨m',hm,σ3,H3,I3,w3⟩
  | brk=>exact q3
  | ret v=>exact q3
 | false =>
  rw[if_neg Qi]
  exact wpAny_execs_nil ⟨σ1,H2,I2,q2⟩
end
structure It where
 go:Nat→Hp→Prop
 yld:Nat→Hp→V→Hp→Prop
 stop:Nat→Hp→Prop
def ZdN(X:Cx)(pins:List (Addr×Obj))(H:Hp)(b:Addr):Prop :=
 H b=none∧b≠X.env.locals∧b ∉ X.fs∧(b∈X.ex∨X.s₀.heap.objs.size≤b)∧(∀x c,X.env.cells.lookup x=some c→c≠b)∧∀p∈X.pn++pins,p.1≠b
theorem Inv.fpOk{X:Cx}{pins:List (Addr×Obj)}{σ:St}{H H':Hp}{s:Shared}{b:Addr}(I:Inv X pins σ H s)(hb:s.heap.objs.size≤b)(hn:H' b=none):ZdN X pins H' b:=by
 refine⟨hn,QU (Qt I.lt hb),I.nofs hb,.inr (QG I.sz hb),fun x c e z=>?_,fun p hp z=>?_⟩
 ·obtain⟨v,q⟩:=I.cell x c e
  exact absurd (Qt q.lt (by rw[z];exact hb)) (QY _)
 ·exact absurd (Qt (Qk (I.pin p hp).1) (by rw[z];exact hb)) (QY _)
structure ZhS (P:Program) (w:World) (K:PySem.W.Frag) (tg:Expr) (J:It) (fp:List Addr) (it:Addr) (tn:Nat→Heap→Prop):Prop where
 mem:it∈fp
 obj:∀i h,tn i h→∀b∈fp,∃o,h.get? b=some o∧∀v,o.data≠.cell v
 keep:∀i h h',tn i h→(∀b∈fp,∀o,h.get? b=some o→h'.get? b=some o)→tn i h'
 item:∀ (X:Cx),X.prog=P→X.w=w→X.K=K→X.calm=true→∀ (i:Nat) (pins:List (Addr×Obj)) (s:Shared) (σ:St) (H:Hp) (E:Value→Shared→Prop),Inv X pins σ H s→(∀b∈fp,ZdN X pins H b)→tn i s.heap→J.go i H →
  wpAny (model P w) X.A (pyNext (.ref it)) (fun r s1=>∃u,r=some u ∧
   wpAny (model P w) X.A (letOwnedTupleGo tg (.ref it) u) (fun _ s2=>∃x H',Inv X pins σ H' s2∧ZA x u∧J.yld i H x H'∧tn (i+1) s2.heap∧∀b∈fp,H' b=none) E s1) E s
 done:∀ (X:Cx),X.prog=P→X.w=w→X.K=K→X.calm=true→∀ (i:Nat) (pins:List (Addr×Obj)) (s:Shared) (σ:St) (H:Hp) (E:Value→Shared→Prop),Inv X pins σ H s→(∀b∈fp,ZdN X pins H b)→tn i s.heap→J.stop i H →
  wpAny (model P w) X.A (pyNext (.ref it)) (fun r s1=>r=none∧Inv X pins σ H s1) E s
 self:∀ (A:Around) (i:Nat) (s:Shared) (Q:Value→Shared→Prop) (E:Value→Shared→Prop),tn i s.heap→Q (.ref it) s→wpAny (model P w) A (pyIter (.ref it)) Q E s
abbrev TI:=St→Hp→(It→Hp→Prop)→Prop
def PIE(X:Cx)(pins:List (Addr×Obj))(σ:St)(tg:Expr)(R:It→Hp→Prop)(itv:Value)(s2:Shared):Prop :=
 ∃ (it:Addr) (fp:List Addr) (tn:Nat→Heap→Prop) (J:It) (H':Hp),itv=.ref it∧Inv X pins σ H' s2∧ZhS X.prog X.w X.K tg J fp it tn∧tn 0 s2.heap∧(∀b∈fp,ZdN X pins H' b)∧R J H'
def PI(X:Cx)(tg iter:Expr)(wi:TI):Prop :=
 ∀ (pins:List (Addr×Obj)) (s:Shared) (σ:St) (H:Hp) (R:It→Hp→Prop),Inv X pins σ H s→wi σ H R →
  wpAny (model X.prog X.w) X.A (eval iter X.env) (fun v s1=>wpAny (model X.prog X.w) X.A (pyIter v) (PIE X pins σ tg R) X.xe s1) X.xe s
theorem Zlv{M:Model}{A:Around}{E:Value→Shared→Prop}{s:Shared}{tg:Expr}{it:Addr}{u:Value}{o:Obj}{n:String}{vs:Array Value}{Q:Unit→Shared→Prop}(ho:s.heap.get? it=some o)(hc:o.cls=.type n)(hd:o.data=.fields vs)
  (hn:["enumerate", "zip", "dict_itemiterator", "dict_reverseitemiterator", "odict_iterator", "itertools.zip_longest", "itertools.pairwise"].contains n=false) (hQ:Q () s):wpAny M A (letOwnedTupleGo tg (.ref it) u) Q E s:=by
 unfold letOwnedTupleGo
 cases tg<;>first
  | exact wpAny_pure hQ
  | (cases u<;>first
    | exact wpAny_pure hQ
    | (refine wpAny_bind (wpAny_load ho ?_);rw[hc,hd];show wpAny M A (if (["enumerate", "zip", "dict_itemiterator", "dict_reverseitemiterator", "odict_iterator", "itertools.zip_longest", "itertools.pairwise"].contains n&&vs[0]? == some (rawInt _))=true then _ else _) Q E s;rw[if_neg (by intro h;rw[hn,Bool.false_and]at h;cases h)];exact wpAny_pure hQ))
def Itl(K:PySem.W.Frag)(a:Addr):It :=
 ⟨fun i H=>∃xs x,SqL K H a xs∧xs[i]? = some x,fun i H x H'=>H'=H∧∀xs,SqL K H a xs→xs[i]? = some x,fun i H=>∃xs,SqL K H a xs∧xs.length≤i⟩
def Itt(K:PySem.W.Frag)(a:Addr):It :=
 ⟨fun i H=>∃xs x,SqT K H a xs∧xs[i]? = some x,fun i H x H'=>H'=H∧∀xs,SqT K H a xs→xs[i]? = some x,fun i H=>∃xs,SqT K H a xs∧xs.length≤i⟩
def Itr(lo:Int)(n:Nat):It:=⟨fun i _=>i<n,fun i H x H'=>H'=H∧x=.int (lo+i),fun i _=>n≤i⟩
theorem ZjI{P:Program}{w:World}{K:PySem.W.Frag}{tg:Expr}(a it:Addr):ZhS P w K tg (Itl K a) [it] it (fun i h=>h.IsListIter it a i) where
 mem:=by simp
 obj:=fun i h st b hb=>by
  have e:b=it:=by simpa using hb
  subst e
  obtain⟨o,e,c,d⟩:=st
  exact⟨o,e,fun v z=>by rw[d]at z;cases z⟩
 keep:=fun i h h' st k=>st.at fun o e=>k it (by simp) o e
 item:=by
  intro X hP hw hK hc i pins s σ H E I hf st hg
  subst hP hw hK
  obtain⟨xs,x,hq,hx⟩:=hg
  obtain⟨its,rv,p,hz⟩:=I.list hq
  obtain⟨u,hu,ru⟩:=rv.get hx
  obtain⟨f0,f1,f2,f3,f4,f5⟩:=hf it (by simp)
  refine wpAny_pyNext_list_item st p.isList (x:=u) (by simpa using hu) fun h' st' sb=>?_
  have I1:Inv X pins σ H { s with heap:=h' }:=I.turned (t':=s.toks) (fun b o hb e=>(sb.2 b hb).trans e) f0 f1 f3 f4 f5
  obtain⟨o,e,c,d⟩:=id st'
  exact⟨u,rfl,Zlv (s:={ s with heap:=h' }) e c d (by decide) ⟨x,H,I1,ru,⟨rfl,fun ys hy=>by rw[I.list_inj hy hq];exact hx⟩,st',fun b hb=>(hf b hb).1⟩⟩
 done:=by
  intro X hP hw hK hc i pins s σ H E I hf st hg
  subst hP hw hK
  obtain⟨xs,hq,hx⟩:=hg
  obtain⟨its,rv,p,hz⟩:=I.list hq
  obtain⟨f0,f1,f2,f3,f4,f5⟩:=hf it (by simp)
  have hl:=rv.length
  exact wpAny_pyNext_list_end (I.ok.hd hc) st p.isList (by simp;omega) fun h' eb=>⟨rfl,I.turned (t':=s.toks) (fun b o hb e=>eb b o hb e) f0 f1 f3 f4 f5⟩
 self:=fun _ _ _ _ _ st h=>wpAny_pyIter_listiter st h
theorem Zig{P:Program}{w:World}{K:PySem.W.Frag}{tg:Expr}(it:Addr)(lo:Int)(n:Nat):ZhS P w K tg (Itr lo n) [it] it (fun i h=>IsRangeIter h it (lo+(i:Nat)*1) ((n:Int)-(i:Nat)) 1) where
 mem:=by simp
 obj:=fun i h st b hb=>by
  have e:b=it:=by simpa using hb
  subst e
  exact⟨_,st,fun v z=>by
   have z':Data.fields _=Data.cell v:=z
   cases z'⟩
 keep:=fun i h h' st k=>k it (by simp) _ st
 item:=by
  intro X hP hw hK hc i pins s σ H E I hf st hg
  subst hP hw hK
  obtain⟨f0,f1,f2,f3,f4,f5⟩:=hf it (by simp)
  have W:=Walks.range (prog:=X.prog) (w:=X.w) (I.ok.hd hc) it lo 1 n
  refine W.item i s _ _ hg st fun v h' tk hv st' kk=>?_
  obtain⟨t,rfl⟩:=hv
  have I1:Inv X pins σ H { s with heap:=h',toks:=tk }:=I.turned (fun b o hb e=>kk b o (by simpa using hb) e) f0 f1 f3 f4 f5
  refine⟨_,rfl,Zlv (s:={ s with heap:=h',toks:=tk }) (n := "range_iterator") st' rfl rfl (by decide) ⟨.int (lo+i),H,I1,⟨t,?_⟩,⟨rfl,rfl⟩,st',fun b hb=>(hf b hb).1⟩⟩
  rw[Int.mul_one]
 done:=by
  intro X hP hw hK hc i pins s σ H E I hf st hg
  subst hP hw hK
  obtain⟨f0,f1,f2,f3,f4,f5⟩:=hf it (by simp)
  exact wpAny_pyNext_range_end (I.ok.hd hc) st (by have:n≤i:=hg;omega) fun h' eb=>⟨rfl,I.turned (t':=s.toks) (fun b o hb e=>eb b o hb e) f0 f1 f3 f4 f5⟩
 self:=fun _ _ _ _ _ st h=>wpAny_pyIter_rangeiter st h
section
variable {X:Cx} {tg:Expr}
def ZmY(K:PySem.W.Frag)(tl:TE):TI:=fun σ H R=>tl σ H fun x H1=>∃a,x=.ref a∧(∃xs,SqL K H1 a xs)∧R (Itl K a) H1
def iTup(K:PySem.W.Frag)(tl:TE):TI:=fun σ H R=>tl σ H fun x H1=>∃a,x=.ref a∧(∃xs,SqT K H1 a xs)∧R (Itt K a) H1
theorem Zmp{l:Expr}{tl:TE}(hl:PE X l tl):PI X tg l (ZmY X.K tl):=by
 intro pins s σ H R I h
 refine thn (hl pins s σ H _ I h) fun v s1 ⟨x,H1,I1,r1,q1⟩=>?_
 obtain⟨a,e,⟨xs,hq⟩,q⟩:=q1
 subst e
 cases r1
 obtain⟨its,rv,p,hz⟩:=I1.list hq
 refine wpAny_pyIter_list p.isList ?_
 refine⟨s1.heap.objs.size,[s1.heap.objs.size],_,_,H1,rfl,I1.kept (t':=s1.toks) fun b o e=>Qc _ e,ZjI a _,⟨_,Qn _ rfl,rfl,rfl⟩,fun b hb=>?_,q⟩
 have e:b=s1.heap.objs.size:=by simpa using hb
 subst e
 exact I1.fpOk (Qd _) (I1.hok.fresh (Qd _))
theorem ZgR{pins:List (Addr×Obj)}{σ:St}{H:Hp}{s:Shared}{R:It→Hp→Prop}{E:Value→Shared→Prop}{lo hi:Int}{t u v:Tok}{tk:Nat}(I:Inv X pins σ H s)(h1:-(2 ^ 62)≤lo)(h2:lo<2 ^ 62)(h3:-(2 ^ 62)≤hi)(h4:hi<2 ^ 62)
  (q:R (Itr lo (hi-lo).toNat) H):wpAny (model X.prog X.w) X.A (pyIter (.ref s.heap.objs.size)) (PIE X pins σ tg R) E { s with heap:=s.heap.push { cls:=.type "range",data:=.fields #[.int lo t,.int hi u,.int 1 v] },toks:=tk }:=by
 refine wpAny_pyIter_range (IsRange.new ..) (small_one h1 h2 h3 h4) ?_
 have I1:Inv X pins σ H { s with heap:=s.heap.push { cls:=.type "range",data:=.fields #[.int lo t,.int hi u,.int 1 v] },toks:=tk }:=I.kept fun b o e=>Qc _ e
 refine⟨(s.heap.push { cls:=.type "range",data:=.fields #[.int lo t,.int hi u,.int 1 v] }).objs.size,[(s.heap.push { cls:=.type "range",data:=.fields #[.int lo t,.int hi u,.int 1 v] }).objs.size],_,_,H,rfl,
  I1.kept (t':=tk) fun b o e=>Qc _ e,Zig _ lo (hi-lo).toNat,?_,fun b hb=>?_,q⟩
 ·have e1:lo+((0:Nat):Int)*1=lo:=by simp
  have e2:(((hi-lo).toNat:Nat):Int)-((0:Nat):Int)=Builtin.Range.rangeSize lo hi 1:=by rw[rangeSize_one];split<;>omega
  show IsRangeIter _ _ (lo+((0:Nat):Int)*1) ((((hi-lo).toNat:Nat):Int)-((0:Nat):Int)) 1
  rw[e1,e2]
  exact Qn _ rfl
 ·have e:b=(s.heap.push { cls:=.type "range",data:=.fields #[.int lo t,.int hi u,.int 1 v] }).objs.size:=by simpa using hb
  subst e
  exact I1.fpOk (Qd _) (I1.hok.fresh (Qd _))
def ZoE(ta:TA):TI:=fun σ H R=>ta σ H fun vs H1=>∃j:Int,vs=[.int j] ∧ -(2 ^ 62)≤j∧j<2 ^ 62∧R (Itr 0 j.toNat) H1
def Zok(ta:TA):TI:=fun σ H R=>ta σ H fun vs H1=>∃i j:Int,vs=[.int i,.int j]∧(-(2 ^ 62)≤i∧i<2 ^ 62 ∧ -(2 ^ 62)≤j∧j<2 ^ 62)∧R (Itr i (j-i).toNat) H1
theorem Zbw{a:Expr}{ta:TA}{p pos:Pos}(hg:Gl X "range")(hm:X.mg "range" = none)(ha:PA X [a] ta)(hs:starEach [a] X.env=[(false,eval a X.env)]:=by rfl):PI X tg (.Call (.Name "range" p) [a] [] pos) (ZoE ta):=by
 intro pins s σ H R I h
 refine Call_ (Zdv I hg hm boot_range (QX (thn (ha pos pins s σ H _ I h) fun us s1 ⟨vs,H1,I1,r1,q1⟩=>?_) hs rfl))
 obtain⟨j,e,q1,q2,q⟩:=q1
 subst e
 cases r1 with
 | cons r rr =>
  cases rr
  obtain⟨t,rfl⟩:=r
  exact call_range_1 (ZgR I1 (by omega) (by omega) q1 q2 (by simpa using q))
theorem ZjB{a b:Expr}{ta:TA}{p pos:Pos}(hg:Gl X "range")(hm:X.mg "range" = none)(ha:PA X [a,b] ta)(hs:starEach [a,b] X.env=[(false,eval a X.env),(false,eval b X.env)]:=by rfl)(hs2:starEach [b] X.env=[(false,eval b X.env)]:=by rfl) :
  PI X tg (.Call (.Name "range" p) [a,b] [] pos) (Zok ta):=by
 intro pins s σ H R I h
 refine Call_ (Zdv I hg hm boot_range (QX (thn (ha pos pins s σ H _ I h) fun us s1 ⟨vs,H1,I1,r1,q1⟩=>?_) (by rw[hs,hs2]) (by rw[hs2];rfl)))
 obtain⟨i,j,e,⟨q1,q2,q3,q4⟩,q⟩:=q1
 subst e
 cases r1 with
 | cons r rr =>
  cases rr with
  | cons r' rr =>
   cases rr
   obtain⟨t,rfl⟩:=r
   obtain⟨t',rfl⟩:=r'
   exact call_range_2 (ZgR I1 q1 q2 q3 q4 q)
def Zps(wi:TI)(g:TG)(tb:TS):TS:=fun D σ H=>wi σ H fun J H1=>∃W:Nat→Nat→St→Hp→Prop,(∃m,W 0 m σ H1)∧∀i m σ H,W i m σ H →
 (J.stop i H∧D.nx σ H)∨(J.go i H∧∃N:St→Hp→Prop,(∀σ' H',N σ' H'→∃m',m'<m∧W (i+1) m' σ' H')∧∀x H',J.yld i H x H'→g x σ H' fun σ2 H2=>tb { D with nx:=N,ct:=N,bk:=D.nx } σ2 H2)
def Zej(fp:List Addr)(h:Heap):List (Addr×Obj):=fp.filterMap fun b=>(h.get? b).map fun o=>(b,o)
theorem Zbc{fp:List Addr}{h:Heap}{b:Addr}{o:Obj}(hb:b∈fp)(e:h.get? b=some o):(b,o)∈Zej fp h:=List.mem_filterMap.mpr ⟨b,hb,by rw[e];rfl⟩
theorem Zi3{fp:List Addr}{h:Heap}{p:Addr×Obj}(hp:p∈Zej fp h):p.1∈fp∧h.get? p.1=some p.2:=by
 obtain⟨b,hb,e⟩:=List.mem_filterMap.mp hp
 cases q:h.get? b with
 | none=>rw[q]at e;cases e
 | some o =>
  rw[q]at e
  have e':(b,o)=p:=Qh e
  subst e'
  exact⟨hb,q⟩
theorem Inv.pinned{pins:List (Addr×Obj)}{σ:St}{H:Hp}{s:Shared}{fp:List Addr}(I:Inv X pins σ H s)(hf:∀b∈fp,ZdN X pins H b)(ho:∀b∈fp,∃o,s.heap.get? b=some o∧∀v,o.data≠.cell v):Inv X (pins++Zej fp s.heap) σ H s :=
 I.pins_of fun p hp=>(Qq.mp hp).elim (fun z=>I.pin p (Qo _ z)) fun z=>by
  obtain⟨hb,e⟩:=Zi3 z
  obtain⟨f0,f1,f2,_⟩:=hf p.1 hb
  obtain⟨o,e',d⟩:=ho p.1 hb
  rw[e]at e';cases e'
  exact⟨e,f0,f1,f2,d⟩
theorem Inv.unpinned{pins pl:List (Addr×Obj)}{σ:St}{H:Hp}{s:Shared}(I:Inv X (pins++pl) σ H s):Inv X pins σ H s:=I.pins_of fun p hp=>I.pin p (Qo _ (QM _ hp))
theorem ZcI{iter:Expr}{body:List Stmt}{wi:TI}{g:TG}{tb:TS}{pos:Pos}(hp:PassesOwn (model X.prog X.w) X.A X.env X.xe)(hc:X.calm=true)(hi:PI X tg iter wi)(hg:PG X tg g)(hb:PSs X body tb)
  (hs:∀x,foldedSetIterable iter X.env x=pure x:=by intro _;rfl):PS X (.For tg iter body [] pos) (Zps wi g tb):=by
 intro pins s σ H D I h
 refine wpAny_For (thn (hi pins s σ H _ I h) fun v s1 h1=>thn h1 fun itv s2 h2=>?_) hs
 obtain⟨it,fp,tn,J,H2,e,I2,T,st2,f2,W,⟨m0,w0⟩,turn⟩:=h2
 subst e
 have stat:∀ {H':Hp},(∀b∈fp,H' b=none)→∀b∈fp,ZdN X pins H' b:=fun hn b hb=>⟨hn b hb,(f2 b hb).2⟩
 refine codeAny_forLoop_any (fun n s'=>∃i σ' H',Inv X pins σ' H' s'∧tn i s'.heap∧(∀b∈fp,H' b=none)∧W i n σ' H') ?_ m0 ⟨0,σ,H2,I2,st2,fun b hb=>(f2 b hb).1,w0⟩
 rintro n s3 ⟨i,σ3,H3,I3,st3,fr3,w3⟩
 rcases turn i n σ3 H3 w3 with⟨stop,qn⟩|⟨go,N,hN,step⟩
 ·refine wpAny_passesOwn hp (thn (T.done X rfl rfl rfl hc i pins s3 σ3 H3 X.xe I3 (stat fr3) st3 stop) fun r s4 ⟨hr,I4⟩=>?_)
  subst hr
  exact wpAny_execs_nil ⟨σ3,H3,I4,qn⟩
 ·refine wpAny_passesOwn hp (thn (T.item X rfl rfl rfl hc i pins s3 σ3 H3 X.xe I3 (stat fr3) st3 go) fun r s4 ⟨u,hr,h4⟩=>?_)
  subst hr
  refine wpAny_passesOwn hp (thn h4 fun _ s5 ⟨x,H5,I5,r5,y5,st5,fr5⟩=>?_)
  have I5':=I5.pinned (stat fr5) (T.obj _ _ st5)
  refine wpAny_passesOwn hp (thn (hg _ s5 σ3 H5 x u _ I5' r5 (step x H5 y5)) fun _ s6 ⟨σ6,H6,I6,q6⟩=>?_)
  refine wpAny_passesOwn hp (thn (hb _ s6 σ6 H6 _ I6 q6) fun f s7 q7=>?_)
  have again:∀ {σ7:St} {H7:Hp},Inv X (pins++Zej fp s5.heap) σ7 H7 s7→N σ7 H7→∃m,m<n∧∃i σ' H',Inv X pins σ' H' s7∧tn i s7.heap∧(∀b∈fp,H' b=none)∧W i m σ' H':=fun {σ7 H7} I7 n7=>by
   obtain⟨m',hm,w7⟩:=hN σ7 H7 n7
   refine⟨m',hm,i+1,σ7,H7,I7.unpinned,T.keep _ _ _ st5 fun b hb o e=>(I7.pin (b,o) (Qo _ (Qo _ (Zbc hb e)))).1,fun b hb=>?_,w7⟩
   obtain⟨o,e,d⟩:=T.obj _ _ st5 b hb
   exact(I7.pin (b,o) (Qo _ (Qo _ (Zbc hb e)))).2.1
  cases f with
  | next=>obtain⟨σ7,H7,I7,n7⟩:=q7;exact again I7 n7
  | cont=>obtain⟨σ7,H7,I7,n7⟩:=q7;exact again I7 n7
  | brk=>obtain⟨σ7,H7,I7,q7⟩:=q7;exact⟨σ7,H7,I7.unpinned,q7⟩
  | ret v=>obtain⟨x7,σ7,H7,I7,r7,q7⟩:=q7;exact⟨x7,σ7,H7,I7.unpinned,r7,q7⟩
end
theorem ZgT{K:PySem.W.Frag}{a:Addr}{xs:List V}{g:TG}{tb:TS}{D:ZcB}{σ:St}{H:Hp}(Pv:Nat→St→Hp→Prop)(h0:Pv 0 σ H)(hl:∀i σ H,i≤xs.length→Pv i σ H→SqL K H a xs)
  (hs:∀i x σ H,xs[i]? = some x→Pv i σ H→g x σ H fun σ2 H2=>tb { D with nx:=Pv (i+1),ct:=Pv (i+1),bk:=D.nx } σ2 H2) (hd:∀σ H,Pv xs.length σ H→D.nx σ H) :
  ∃W:Nat→Nat→St→Hp→Prop,(∃m,W 0 m σ H)∧∀i m σ H,W i m σ H →
   ((Itl K a).stop i H∧D.nx σ H)∨((Itl K a).go i H∧∃N:St→Hp→Prop,(∀σ' H',N σ' H'→∃m',m'<m∧W (i+1) m' σ' H')∧∀x H',(Itl K a).yld i H x H'→g x σ H' fun σ2 H2=>tb { D with nx:=N,ct:=N,bk:=D.nx } σ2 H2):=by
 refine⟨fun i m σ H=>m=xs.length-i∧i≤xs.length∧Pv i σ H,⟨xs.length,by simp,Qr _,h0⟩,?_⟩
 rintro i m σ H ⟨rfl,hi,p⟩
 have q:=hl i σ H hi p
 by_cases hlt:i<xs.length
 ·refine .inr ⟨⟨xs,xs[i],q,by simp[hlt]⟩,Pv (i+1),fun σ' H' p'=>⟨xs.length-(i+1),by omega,rfl,hlt,p'⟩,fun x H' y=>?_⟩
  obtain⟨e,y⟩:=y
  subst e
  exact hs i x σ _ (y xs q) p
 ·have e:i=xs.length:=by omega
  subst e
  exact .inl ⟨⟨xs,q,Qd _⟩,hd σ H p⟩
theorem Zc3{lo:Int}{n:Nat}{g:TG}{tb:TS}{D:ZcB}{σ:St}{H:Hp}(Pv:Nat→St→Hp→Prop)(h0:Pv 0 σ H)
  (hs:∀i σ H,i<n→Pv i σ H→g (.int (lo+i)) σ H fun σ2 H2=>tb { D with nx:=Pv (i+1),ct:=Pv (i+1),bk:=D.nx } σ2 H2) (hd:∀σ H,Pv n σ H→D.nx σ H) :
  ∃W:Nat→Nat→St→Hp→Prop,(∃m,W 0 m σ H)∧∀i m σ H,W i m σ H →
   ((Itr lo n).stop i H∧D.nx σ H)∨((Itr lo n).go i H∧∃N:St→Hp→Prop,(∀σ' H',N σ' H'→∃m',m'<m∧W (i+1) m' σ' H')∧∀x H',(Itr lo n).yld i H x H'→g x σ H' fun σ2 H2=>tb { D with nx:=N,ct:=N,bk:=D.nx } σ2 H2):=by
 refine⟨fun i m σ H=>m=n-i∧i≤n∧Pv i σ H,⟨n,by simp,Qr _,h0⟩,?_⟩
 rintro i m σ H ⟨rfl,hi,p⟩
 by_cases hlt:i<n
 ·refine .inr ⟨hlt,Pv (i+1),fun σ' H' p'=>⟨n-(i+1),by omega,rfl,hlt,p'⟩,fun x H' y=>?_⟩
  obtain⟨e,y⟩:=y
  subst e y
  exact hs i σ _ hlt p
 ·have e:i=n:=by omega
  subst e
  exact .inl ⟨Qd _,hd σ H p⟩
abbrev R2:=V→V→Hp→VK→Prop
def OpR(X:Cx)(f:Value→Value→Sem Value)(r:R2):Prop :=
 ∀ (pins:List (Addr×Obj)) (s:Shared) (σ:St) (H:Hp) (x y:V) (v u:Value) (Q:VK),Inv X pins σ H s→ZA x v→ZA y u→r x y H Q →
  wpAny (model X.prog X.w) X.A (f v u) (EP X pins σ Q) X.xe s
def UnR(X:Cx)(f:Value→Sem Value)(r:V→Hp→VK→Prop):Prop :=
 ∀ (pins:List (Addr×Obj)) (s:Shared) (σ:St) (H:Hp) (x:V) (v:Value) (Q:VK),Inv X pins σ H s→ZA x v→r x H Q →
  wpAny (model X.prog X.w) X.A (f v) (EP X pins σ Q) X.xe s
def Zay(X:Cx)(f:Value)(r:List V→Hp→VK→Prop):Prop :=
 ∀ (pins:List (Addr×Obj)) (s:Shared) (σ:St) (H:Hp) (xs:List V) (us:List Value) (Q:VK),Inv X pins σ H s→ZB xs us→r xs H Q →
  wpAny (model X.prog X.w) X.A (call f us) (EP X pins σ Q) X.xe s
def TruR(X:Cx)(r:V→Hp→(Bool→Hp→Prop)→Prop):Prop :=
 ∀ (pins:List (Addr×Obj)) (s:Shared) (σ:St) (H:Hp) (x:V) (v:Value) (Q:Bool→Hp→Prop),Inv X pins σ H s→ZA x v→r x H Q →
  wpAny (model X.prog X.w) X.A (truthy v) (TP X pins σ Q) X.xe s
def tOp(r:R2)(ta tb:TE):TE:=fun σ H Q=>ta σ H fun x H1=>tb σ H1 fun y H2=>r x y H2 Q
def tUn(r:V→Hp→VK→Prop)(ta:TE):TE:=fun σ H Q=>ta σ H fun x H1=>r x H1 Q
def rI(C:Int→Int→Prop)(g:Int→Int→V):R2:=fun x y H Q=>∃i j,x=.int i∧y=.int j∧C i j∧Q (g i j) H
def rI0(g:Int→Int→V):R2:=fun x y H Q=>∃i j,x=.int i∧y=.int j∧Q (g i j) H
def rU(g:Int→V):V→Hp→VK→Prop:=fun x H Q=>∃i,x=.int i∧Q (g i) H
section
variable {X:Cx} {a b c:Expr} {ta tb tc:TE} {pos:Pos}
theorem Zn0(ha:PE X a ta)(hb:PE X b tb){pins:List (Addr×Obj)}{s:Shared}{σ:St}{H:Hp}{R:V→V→Hp→Prop}(I:Inv X pins σ H s)
  (h:ta σ H fun x H1=>tb σ H1 fun y H2=>R x y H2) {Q:Value→Shared→Prop} {f:Value→Value→Sem Value}
  (hf:∀v u s2 x y H2,Inv X pins σ H2 s2→ZA x v→ZA y u→R x y H2→wpAny (model X.prog X.w) X.A (f v u) Q X.xe s2) :
  wpAny (model X.prog X.w) X.A (eval a X.env) (fun v s₁=>wpAny (model X.prog X.w) X.A (eval b X.env) (fun u s₂=>wpAny (model X.prog X.w) X.A (f v u) Q X.xe s₂) X.xe s₁) X.xe s:=by
 refine thn (ha pins s σ H _ I h) fun v s1 ⟨x,H1,I1,r1,q1⟩=>?_
 refine thn (hb pins s1 σ H1 _ I1 q1) fun u s2 ⟨y,H2,I2,r2,q2⟩=>?_
 exact hf v u s2 x y H2 I2 r1 r2 q2
theorem Zab{op:Operator}{r:R2}(ho:OpR X (binaryOp op) r)(ha:PE X a ta)(hb:PE X b tb):PE X (.BinOp a op b pos) (tOp r ta tb):=by
 intro pins s σ H Q I h
 exact wpAny_BinOp (Zn0 ha hb I h fun v u s2 x y H2 I2 rx ry q=>ho pins s2 σ H2 x y v u Q I2 rx ry q)
theorem Zhx{op:UnaryOp}{r:V→Hp→VK→Prop}(ho:UnR X (unaryOp op) r)(ha:PE X a ta):PE X (.UnaryOp op a pos) (tUn r ta):=by
 intro pins s σ H Q I h
 exact UnaryOp_ (thn (ha pins s σ H _ I h) fun v s1 ⟨x,H1,I1,r1,q1⟩=>ho pins s1 σ H1 x v Q I1 r1 q1)
theorem opI{f:Value→Value→Sem Value}{C:Int→Int→Prop}{g:Int→Int→Int}
  (rule:∀ (i j:Int) (t u:Tok) (s:Shared) (Q:Value→Shared→Prop) (E:Value→Shared→Prop),C i j→Q (.int (g i j) s.toks) { s with toks:=s.toks+1 }→wpAny (model X.prog X.w) X.A (f (.int i t) (.int j u)) Q E s) :
  OpR X f (rI C fun i j=>.int (g i j)):=by
 intro pins s σ H x y v u Q I rx ry h
 obtain⟨i,j,rfl,rfl,hc,q⟩:=h
 obtain⟨t,rfl⟩:=rx
 obtain⟨t',rfl⟩:=ry
 exact rule i j t t' s _ _ hc ⟨.int (g i j),H,I.tok _,⟨_,rfl⟩,q⟩
theorem ZoA{f:Value→Value→Sem Value}{g:Int→Int→Int}
  (rule:∀ (i j:Int) (t u:Tok) (s:Shared) (Q:Value→Shared→Prop) (E:Value→Shared→Prop),Q (.int (g i j) s.toks) { s with toks:=s.toks+1 }→wpAny (model X.prog X.w) X.A (f (.int i t) (.int j u)) Q E s) :
  OpR X f (rI0 fun i j=>.int (g i j)):=by
 intro pins s σ H x y v u Q I rx ry h
 obtain⟨i,j,rfl,rfl,q⟩:=h
 obtain⟨t,rfl⟩:=rx
 obtain⟨t',rfl⟩:=ry
 exact rule i j t t' s _ _ ⟨.int (g i j),H,I.tok _,⟨_,rfl⟩,q⟩
theorem Znn{f:Value→Value→Sem Value}{g:Int→Int→Bool}
  (rule:∀ (i j:Int) (t u:Tok) (s:Shared) (Q:Value→Shared→Prop) (E:Value→Shared→Prop),Q (.bool (g i j)) s→wpAny (model X.prog X.w) X.A (f (.int i t) (.int j u)) Q E s) :
  OpR X f (rI0 fun i j=>.bl (g i j)):=by
 intro pins s σ H x y v u Q I rx ry h
 obtain⟨i,j,rfl,rfl,q⟩:=h
 obtain⟨t,rfl⟩:=rx
 obtain⟨t',rfl⟩:=ry
 exact rule i j t t' s _ _ ⟨.bl (g i j),H,I,rfl,q⟩
def Zpc(i j:Int):Prop:=0<j∧j<1073741824
def CDivN(i j:Int):Prop:=j≠0∧j.natAbs<1073741824
def Zov(i j:Int):Prop:=0≤j∧j≤1000000∧i.natAbs<2 ^ 64
def Zn8(i j:Int):Prop:=(-(2 ^ 64)<i∧i<2 ^ 64)∨(-(2 ^ 64)<j∧j<2 ^ 64)
theorem Zn8.ok{i j:Int}(h:Zn8 i j):IntMulOk i j:=by
 rcases h with⟨h1,h2⟩|⟨h1,h2⟩
 ·exact .of_left (intBits_le_64 h1 h2)
 ·exact .of_right (intBits_le_64 h1 h2)
theorem Zbp:OpR X (binaryOp .Add) (rI0 fun i j=>.int (i+j)):=ZoA fun _ _ _ _ _ _ _ q=>add_int q
theorem Zgp:OpR X (binaryOp .Sub) (rI0 fun i j=>.int (i-j)):=ZoA fun _ _ _ _ _ _ _ q=>sub_int q
theorem Zeb:OpR X (binaryOp .Mult) (rI Zn8 fun i j=>.int (i*j)):=opI fun _ _ _ _ _ _ _ hc q=>mul_int q hc.ok
theorem Zgm:OpR X (binaryOp .FloorDiv) (rI Zpc fun i j=>.int (i / j)):=opI fun i j _ _ _ _ _ hc q=>by
 have h1:(0:Int)<j:=hc.1
 have h2:j<1073741824:=hc.2
 exact floordiv_int (by omega) (by rw[Int.fdiv_eq_ediv_of_nonneg i (by omega)];exact q) (.inl (PyProof.noPylong_small (by omega)))
theorem ZeN:OpR X (binaryOp .Mod) (rI (fun _ j=>0<j) fun i j=>.int (i % j)):=opI fun i j _ _ _ _ _ hc q=>by
 have h1:(0:Int)<j:=hc
 exact mod_int' (by omega) (by rw[Int.fmod_eq_emod_of_nonneg i (by omega)];exact q)
theorem Zm3:OpR X (binaryOp .Pow) (rI Zov fun i j=>.int (i ^ j.toNat)):=opI fun _ _ _ _ _ _ _ hc q=>pow_int_small hc.1 hc.2.1 hc.2.2 q
theorem unI{f:Value→Sem Value}{g:Int→Int}
  (rule:∀ (i:Int) (t:Tok) (s:Shared) (Q:Value→Shared→Prop) (E:Value→Shared→Prop),Q (.int (g i) s.toks) { s with toks:=s.toks+1 }→wpAny (model X.prog X.w) X.A (f (.int i t)) Q E s) :
  UnR X f (rU fun i=>.int (g i)):=by
 intro pins s σ H x v Q I rx h
 obtain⟨i,rfl,q⟩:=h
 obtain⟨t,rfl⟩:=rx
 exact rule i t s _ _ ⟨.int (g i),H,I.tok _,⟨_,rfl⟩,q⟩
theorem Ze4:UnR X (unaryOp .USub) (rU fun i=>.int (-i)):=unI fun _ _ _ _ _ q=>neg_int q
end
def Zoe:V→V→Bool
 | .non,.non=>true|.non,.int _=>true|.int _,.non=>true|.non,.bl _=>true|.bl _,.non=>true|.non,.str _=>true|.str _,.non=>true
 | .int _,.int _=>true|.bl _,.bl _=>true|.str _,.str _=>true|.byt _,.byt _=>true
 | .int _,.str _=>true|.str _,.int _=>true|.bl _,.str _=>true|.str _,.bl _=>true
 | _,_=>false
def rEq:R2:=fun x y H Q=>Zoe x y=true∧Q (.bl (decide (x=y))) H
def rNe:R2:=fun x y H Q=>Zoe x y=true∧Q (.bl (!decide (x=y))) H
theorem Ziw{i j:Int}:decide (V.int i=V.int j)=(i == j):=by
 rw[Qaq]
 simp
theorem ZkV{i j:Bool}:decide (V.bl i=V.bl j)=(i == j):=by
 rw[Qaq]
 simp
theorem ZiT{i j:Str}:decide (V.str i=V.str j)=(i == j):=by
 rw[Qaq]
 simp
theorem Zin{i j:Array UInt8}:decide (V.byt i=V.byt j)=(i.toList == j.toList):=by
 rw[Qaq]
 cases i
 cases j
 simp
section
variable {X:Cx} {a b c:Expr} {ta tb tc:TE} {pos:Pos}
theorem ZI{pins:List (Addr×Obj)}{σ:St}{H:Hp}{s:Shared}{Q:VK}{k k':Bool}(I:Inv X pins σ H s)(q:Q (.bl k) H)(e:k=k'):EP X pins σ Q (.bool k') s:=by
 subst e
 exact⟨.bl k,H,I,rfl,q⟩
theorem Zbo:OpR X (compareOp .Eq) rEq:=by
 intro pins s σ H x y v u Q I rx ry h
 obtain⟨hs,q⟩:=h
 cases x with
 | non =>
  cases rx
  cases y with
  | non=>cases ry;exact PySem.EqNone.eq_none_none (ZI I q (by simp))
  | bl j=>cases ry;exact PySem.EqNone.eq_none_bool (ZI I q (by simp))
  | int j=>obtain⟨t',rfl⟩:=ry;exact PySem.EqNone.eq_none_int (ZI I q (by simp))
  | str j=>obtain⟨t',rfl⟩:=ry;exact PySem.EqNone.eq_none_str (ZI I q (by simp))
  | _=>exact absurd (show false=true from hs) Qi
 | bl i =>
  cases rx
  cases y with
  | non=>cases ry;exact PySem.EqNone.eq_bool_none (ZI I q (by simp))
  | bl j=>cases ry;exact eq_bool (ZI I q ZkV)
  | str j=>obtain⟨t',rfl⟩:=ry;exact PySem.EqMixed.eq_bool_str (ZI I q (by simp))
  | _=>exact absurd (show false=true from hs) Qi
 | int i =>
  obtain⟨t,rfl⟩:=rx
  cases y with
  | non=>cases ry;exact PySem.EqNone.eq_int_none (ZI I q (by simp))
  | int j=>obtain⟨t',rfl⟩:=ry;exact eq_int (ZI I q Ziw)
  | str j=>obtain⟨t',rfl⟩:=ry;exact PySem.EqMixed.eq_int_str (ZI I q (by simp))
  | _=>exact absurd (show false=true from hs) Qi
 | str i =>
  obtain⟨t,rfl⟩:=rx
  cases y with
  | non=>cases ry;exact PySem.EqNone.eq_str_none (ZI I q (by simp))
  | bl j=>cases ry;exact PySem.EqMixed.eq_str_bool (ZI I q (by simp))
  | int j=>obtain⟨t',rfl⟩:=ry;exact PySem.EqMixed.eq_str_int (ZI I q (by simp))
  | str j=>obtain⟨t',rfl⟩:=ry;exact eq_str (ZI I q ZiT)
  | _=>exact absurd (show false=true from hs) Qi
 | byt i =>
  obtain⟨t,rfl⟩:=rx
  cases y with
  | byt j=>obtain⟨t',rfl⟩:=ry;exact PySem.W.eq_bytes (ZI I q Zin)
  | _=>exact absurd (show false=true from hs) Qi
 | _=>cases y<;>exact absurd (show false=true from hs) Qi
theorem ZmX:OpR X (compareOp .NotEq) rNe:=by
 intro pins s σ H x y v u Q I rx ry h
 obtain⟨hs,q⟩:=h
 cases x with
 | non =>
  cases rx
  cases y with
  | non=>cases ry;exact PySem.EqNone.ne_none_none (ZI I q (by simp))
  | bl j=>cases ry;exact PySem.EqNone.ne_none_bool (ZI I q (by simp))
  | int j=>obtain⟨t',rfl⟩:=ry;exact PySem.EqNone.ne_none_int (ZI I q (by simp))
  | str j=>obtain⟨t',rfl⟩:=ry;exact PySem.EqNone.ne_none_str (ZI I q (by simp))
  | _=>exact absurd (show false=true from hs) Qi
 | bl i =>
  cases rx
  cases y with
  | non=>cases ry;exact PySem.EqNone.ne_bool_none (ZI I q (by simp))
  | bl j=>cases ry;exact ne_bool (ZI I q (congrArg not ZkV))
  | str j=>obtain⟨t',rfl⟩:=ry;exact PySem.EqMixed.ne_bool_str (ZI I q (by simp))
  | _=>exact absurd (show false=true from hs) Qi
 | int i =>
  obtain⟨t,rfl⟩:=rx
  cases y with
  | non=>cases ry;exact PySem.EqNone.ne_int_none (ZI I q (by simp))
  | int j=>obtain⟨t',rfl⟩:=ry;exact ne_int (ZI I q (congrArg not Ziw))
  | str j=>obtain⟨t',rfl⟩:=ry;exact PySem.EqMixed.ne_int_str (ZI I q (by simp))
  | _=>exact absurd (show false=true from hs) Qi
 | str i =>
  obtain⟨t,rfl⟩:=rx
  cases y with
  | non=>cases ry;exact PySem.EqNone.ne_str_none (ZI I q (by simp))
  | bl j=>cases ry;exact PySem.EqMixed.ne_str_bool (ZI I q (by simp))
  | int j=>obtain⟨t',rfl⟩:=ry;exact PySem.EqMixed.ne_str_int (ZI I q (by simp))
  | str j=>obtain⟨t',rfl⟩:=ry;exact ne_str (ZI I q (congrArg not ZiT))
  | _=>exact absurd (show false=true from hs) Qi
 | byt i =>
  obtain⟨t,rfl⟩:=rx
  cases y with
  | byt j=>obtain⟨t',rfl⟩:=ry;exact PySem.W.ne_bytes (ZI I q (congrArg not Zin))
  | _=>exact absurd (show false=true from hs) Qi
 | _=>cases y<;>exact absurd (show false=true from hs) Qi
theorem Ze0:OpR X (compareOp .Lt) (rI0 fun i j=>.bl (decide (i<j))):=Znn fun _ _ _ _ _ _ _ q=>lt_int q
theorem Zhk:OpR X (compareOp .Gt) (rI0 fun i j=>.bl (decide (j<i))):=Znn fun _ _ _ _ _ _ _ q=>gt_int q
theorem Zof:OpR X (compareOp .GtE) (rI0 fun i j=>.bl (decide (j≤i))):=Znn fun _ _ _ _ _ _ _ q=>ge_int q
theorem Zjd:OpR X (compareOp .Lt) (fun x y H Q=>∃i j,x=.str i∧y=.str j∧Q (.bl (decide (i.cps.toList<j.cps.toList))) H):=by
 intro pins s σ H x y v u Q I rx ry h
 obtain⟨i,j,rfl,rfl,q⟩:=h
 obtain⟨t,rfl⟩:=rx
 obtain⟨t',rfl⟩:=ry
 exact lt_str (ZI I q rfl)
theorem Zco:OpR X (compareOp .Is) (fun x y H Q=>y=.non∧Q (.bl (decide (x=.non))) H):=by
 intro pins s σ H x y v u Q I rx ry h
 obtain⟨rfl,q⟩:=h
 cases ry
 refine is_none_gen (ZI I q ?_)
 cases x<;>first
  | (cases rx;rfl)
  | (obtain⟨t,rfl⟩:=rx;rfl)
theorem Zew:OpR X (compareOp .IsNot) (fun x y H Q=>y=.non∧Q (.bl (!decide (x=.non))) H):=by
 intro pins s σ H x y v u Q I rx ry h
 obtain⟨rfl,q⟩:=h
 cases ry
 refine isnot_none_gen (ZI I q ?_)
 cases x<;>first
  | (cases rx;rfl)
  | (obtain⟨t,rfl⟩:=rx;rfl)
def isObj:HO→Bool
 | .lst _=>true
 | .ins _ _ _=>true
 | _=>false
theorem Zw(b:Expr){op:CmpOp}(h:op≠.In:=by decide)(h2:op≠.NotIn:=by decide):behindInMarks op b=false:=by
 have e1:(op == CmpOp.In)=false:=by cases op<;>first|rfl|exact absurd rfl h
 have e2:(op == CmpOp.NotIn)=false:=by cases op<;>first|rfl|exact absurd rfl h2
 cases b<;>simp[behindInMarks,e1,e2]
theorem Zc6{op:CmpOp}{r:R2}(ho:OpR X (compareOp op) r)(ha:PE X a ta)(hb:PE X b tb)(hm:behindInMarks op b=false):PE X (.Compare a [op] [b] pos) (tOp r ta tb):=by
 intro pins s σ H Q I h
 exact wpAny_Compare1 (Zn0 ha hb I h fun v u s2 x y H2 I2 rx ry q=>ho pins s2 σ H2 x y v u Q I2 rx ry q) hm
def ZoX(t:TE):TT:=fun σ H Q=>t σ H fun x H'=>∃k,x=.bl k∧Q k H'
theorem Zt{op:CmpOp}{r:R2}(ho:OpR X (compareOp op) r)(ha:PE X a ta)(hb:PE X b tb)(hm:behindInMarks op b=false):PT X (.Compare a [op] [b] pos) (ZoX (tOp r ta tb)):=by
 intro pins s σ H Q I h
 refine wpAny_isTrue_Compare1 (thn (ha pins s σ H _ I h) fun v s1 ⟨x,H1,I1,r1,q1⟩=>thn (hb pins s1 σ H1 _ I1 q1) fun u s2 ⟨y,H2,I2,r2,q2⟩=>
  thn (ho pins s2 σ H2 x y v u _ I2 r1 r2 q2) fun c s3 ⟨z,H3,I3,r3,k,e,q3⟩=>?_) hm
 subst e
 cases r3
 exact wpAny_truthy_bool ⟨H3,I3,q3⟩
def tChain(r r':R2)(ta tb tc:TE):TE:=fun σ H Q=>ta σ H fun x H1=>tb σ H1 fun y H2=>r x y H2 fun z H3=>∃k,z=.bl k ∧
 (if k=true then tc σ H3 fun w' H4=>r' y w' H4 Q else Q (.bl false) H3)
def ZpA(K:PySem.W.Frag)(x:V)(H:Hp)(k:Bool):Prop :=
 match x with
 | .non=>k=false
 | .bl b=>k=b
 | .int i=>k=(i != 0)
 | .str y=>y.length≤sizeLine∧k=((y.length:Int) != 0)
 | .byt y=>y.size≤sizeLine∧k=((y.size:Int) != 0)
 | .ref p=>(∃xs,SqL K H p xs∧k = !xs.isEmpty)∨(∃xs,SqT K H p xs∧k = !xs.isEmpty)∨∃kvs,H p=some (.dK kvs)∧k = !kvs.isEmpty
 | _=>False
theorem Zd2:(sizeLine:Nat)<2 ^ 63:=by rw[sizeLine_eq];decide
theorem Zh4:OpR X (binaryOp .Add) (fun x y H Q=>∃i j,x=.str i∧y=.str j∧i.length+j.length≤sizeLine∧Q (.str (i++j)) H):=by
 intro pins s σ H x y v u Q I rx ry h
 obtain⟨i,j,rfl,rfl,hz,q⟩:=h
 obtain⟨t,rfl⟩:=rx
 obtain⟨t',rfl⟩:=ry
 exact add_str (fun t' tk=>⟨.str (i++j),H,I.tok _,⟨_,rfl⟩,q⟩) hz
def PlainIxT(b:Expr):Prop:=∀o i,subscripted b false o i=operate [o,i] (getItem o i)
theorem Zct{x:V}{us:List Value}(r:ZB [x] us):∃u,us=[u]∧ZA x u:=by
 cases r with
 | cons r1 r2=>cases r2;exact⟨_,rfl,r1⟩
theorem Zit{x y:V}{us:List Value}(r:ZB [x,y] us):∃u w',us=[u,w']∧ZA x u∧ZA y w':=by
 cases r with
 | cons r1 r2 =>
  cases r2 with
  | cons r3 r4=>cases r4;exact⟨_,_,rfl,r1,r3⟩
theorem Zhc:Zay X (.builtin "abs") (fun xs H Q=>∃i,xs=[.int i]∧Q (.int (if i<0 then -i else i)) H):=by
 intro pins s σ H xs us Q I r h
 obtain⟨i,rfl,q⟩:=h
 obtain⟨u,rfl,t,rfl⟩:=Zct r
 exact call_abs_int fun u tk=>⟨.int (if i<0 then -i else i),H,I.tok _,⟨_,rfl⟩,q⟩
theorem Zja(hc:X.calm=true):Zay X (.builtin "max") (fun xs H Q=>∃i j,xs=[.int i,.int j]∧Q (.int (if j>i then j else i)) H):=by
 intro pins s σ H xs us Q I r h
 obtain⟨i,j,rfl,q⟩:=h
 obtain⟨u,w',rfl,⟨t,rfl⟩,⟨t',rfl⟩⟩:=Zit r
 refine max_two_ints (I.ok.hd hc) fun h' tk k=>⟨_,H,I.kept k,?_,q⟩
 by_cases hj:j>i
 ·rw[if_pos hj,if_pos hj];exact⟨_,rfl⟩
 ·rw[if_neg hj,if_neg hj];exact⟨_,rfl⟩
theorem Zjk(hc:X.calm=true):Zay X (.builtin "min") (fun xs H Q=>∃i j,xs=[.int i,.int j]∧Q (.int (if j<i then j else i)) H):=by
 intro pins s σ H xs us Q I r h
 obtain⟨i,j,rfl,q⟩:=h
 obtain⟨u,w',rfl,⟨t,rfl⟩,⟨t',rfl⟩⟩:=Zit r
 refine min_two_ints (I.ok.hd hc) fun h' tk k=>⟨_,H,I.kept k,?_,q⟩
 by_cases hj:j<i
 ·rw[if_pos hj,if_pos hj];exact⟨_,rfl⟩
 ·rw[if_neg hj,if_neg hj];exact⟨_,rfl⟩
theorem Zi5:Zay X (.type "int") (fun xs H Q=>(∃i,xs=[.int i]∧Q (.int i) H)∨∃k,xs=[.bl k]∧Q (.int (if k then 1 else 0)) H):=by
 intro pins s σ H xs us Q I r h
 rcases h with⟨i,rfl,q⟩|⟨k,rfl,q⟩
 ·obtain⟨u,rfl,t,rfl⟩:=Zct r
  exact call_int_int ⟨.int i,H,I,⟨_,rfl⟩,q⟩
 ·obtain⟨u,rfl,r1⟩:=Zct r
  cases r1
  exact call_int_bool ⟨.int (if k then 1 else 0),H,I.tok _,⟨_,rfl⟩,q⟩
def LenV(K:PySem.W.Frag)(x:V)(H:Hp)(n:Nat):Prop :=
 match x with
 | .str y=>y.length≤sizeLine∧n=y.length
 | .byt y=>y.size≤sizeLine∧n=y.size
 | .ref p=>(∃xs,SqL K H p xs∧n=xs.length)∨∃xs,SqT K H p xs∧n=xs.length
 | _=>False
end
structure Zid (h:Heap) (x dx C:Addr) (mA:Str→Option Value):Prop where
 obj:h.get? x=some (PySem.W.instObj C dx)
 ns:h.Ns1 dx mA
 ne:dx≠x
theorem ZjQ{h:Heap}{dx:Addr}{mA:Str→Option Value}(n:h.Ns1 dx mA):∃od,h.get? dx=some od∧∀name,PySem.W.lookIn name od=some (mA name):=by
 obtain⟨o,es,ep,ho,hd,hk,_,hm⟩:=n
 refine⟨o,ho,fun name=>?_⟩
 have e:=hm name
 unfold nsFind findBy at e
 rw[← Array.find?_toList]at e
 unfold PySem.W.lookIn
 rw[hd]
 dsimp only
 split
 ·rename_i y q
  rw[q]at e
  exact congrArg some e
 ·rename_i q
  rw[q]at e
  have a:es.toList.any (·.refKey)=false:=by
   rw[List.any_eq_false]
   intro y hy
   obtain⟨z,t,hkey⟩:=hk y (Array.mem_toList_iff.mp hy)
   simp[DictEntry.refKey,hkey]
  have a':¬ es.toList.any (·.refKey)=true:=by rw[a];exact Qi
  rw[if_neg a']
  exact congrArg some e
theorem Zid.look{h:Heap}{x dx C:Addr}{mA:Str→Option Value}(I:Zid h x dx C mA):∃od,PySem.W.InstAt h x (PySem.W.instObj C dx) C (some od)∧∀name,PySem.W.lookIn name od=some (mA name) :=
 let ⟨od,ho,hl⟩:=ZjQ I.ns
 ⟨od,⟨I.obj,rfl,rfl,ho⟩,hl⟩
section
variable {prog:Program} {w:World} {A:Around} {E:Value→Shared→Prop} {s:Shared} {K:PySem.W.Frag} {x dx C f:Addr} {mA:Str→Option Value} {name:Str} {v:Value}
theorem ZlN{expr:Bool}{Q:Value→Shared→Prop}(X:K.In s.heap)(I:Zid s.heap x dx C mA)(hg:PySem.W.plainGet K C name=true)(hh:PySem.W.hasDictIn K C=true)
  (ha:PySem.W.findIn K (.ref C) name=some none) (hv:mA name=some v) (hv':PySem.W.handedIn v=true) (h:Q v { s with toks:=s.toks+1 }) :
  wpAny (model prog w) A (getAttr (.ref x) name expr) Q E s:=by
 obtain⟨od,J,hl⟩:=I.look
 exact PySem.W.get_value X J (PySem.W.plainGet_of hg).1 (PySem.W.findObj_own hh ha rfl (by rw[hl,hv])) hv' h
theorem Zkn{pl:Sem Bool}{Q:Value×List Value→Shared→Prop}(X:K.In s.heap)(I:Zid s.heap x dx C mA)(hg:PySem.W.plainGet K C name=true)
  (hf:PySem.W.findIn K (.ref C) name=some (some (.ref f))) (ht:PySem.W.isFn K (.ref f)=true) (hv:mA name=none) (h:Q (.ref f,[.ref x]) s) :
  wpAny (model prog w) A (getMethod (.ref x) name pl) Q E s:=by
 obtain⟨od,J,hl⟩:=I.look
 exact PySem.W.method_fn X J (PySem.W.plainGet_of hg).1 (PySem.W.plainGet_of hg).2 hf (beq_iff_eq.mp ht) (by show (PySem.W.lookIn name od).map (·.isSome)=some false;rw[hl,hv];rfl) h
theorem ZlP{ns:List Str}{Q:Unit→Shared→Prop}(X:K.In s.heap)(I:Zid s.heap x dx C mA)
  (hs:PySem.W.findIn K (.ref C) "__setattr__" = some (some (.builtin "object.__setattr__"))) (hp:PySem.W.plainOver K C=true) (ht:PySem.W.takerIn K C name=some none) (hh:PySem.W.hasDictIn K C=true)
  (hw:PySem.Within mA ns) (hsz:ns.length≤sizeLine)
  (h:∀h',Zid h' x dx C (fun y=>if y=name then some v else mA y)→Heap.SameBut dx s.heap h'→Q () { s with heap:=h',toks:=s.toks+2 }) :
  wpAny (model prog w) A (setAttr (.ref x) name v) Q E s:=by
 obtain⟨od,J,hl⟩:=I.look
 refine PySem.W.set_plain X J hs (PySem.W.osa_open (s:={ s with toks:=s.toks+1 }) (r:=none) X J hp ht fun b=>?_)
 obtain⟨cd,hc,hd'⟩:=PySem.W.any_some hh
 have hx:s.heap.get? x=some ⟨.ref C,some dx,.plain,#[]⟩:=I.obj
 refine wpAny_bind (wpAny_pure (wpAny_bind (wpAny_bind (wpAny_loadPart hx (wpAny_bind (PySem.W.Looks.here (s:={ s with toks:=s.toks+1 }) (PySem.W.looks_clsIn X hc) ?_))))))
 rw[hd']
 refine wpAny_pure (a:=some dx) (wpAny_bind (wpAny_pure (wpAny_bind ?_)))
 refine wpAny_nsSet1 (s:={ s with toks:=s.toks+1 }) I.ns fun h' hn2 hs2=>?_
 obtain⟨oD,esD,epD,hoD,hdD,hcD⟩:=hn2.count (PySem.Within.cons name v hw)
 refine wpAny_bind (wpAny_lookBehind hoD (by rw[hdD];exact pastItsLine_dict (QG hcD (by rw[QI];omega))) ?_)
 exact wpAny_pure (h _ ⟨(hs2.2 _ (Ne.symm I.ne)).trans I.obj,hn2,I.ne⟩ hs2)
theorem ZkH{R:Result→Shared→Prop}{vs:List Value}{kw:List (Str×Value)}(X:K.In s.heap)(hm:PySem.W.makesIn K C=true)
  (hi:PySem.W.findIn K (.ref C) "__init__" = some (some (.ref f))) (hf:PySem.W.typeIn K (.ref f)=some (.type "function"))
  (h:codeAny (model prog w) (A.under (.builtin "type.__call__" ⟨.ref C::vs,kw⟩)) (.call (.ref f) ⟨.ref (s.heap.objs.size+1)::vs,kw⟩) (PySem.W.InitBack (s.heap.objs.size+1) R)
   { s with heap:=(s.heap.push PySem.W.emptyDict).push (PySem.W.instObj C s.heap.objs.size) }) :
  codeAny (model prog w) A (.call (.ref C) ⟨vs,kw⟩) R s:=by
 obtain⟨hh,g,d,t,os⟩:=s
 exact PySem.W.make_core (PySem.W.makes_of X hm) (PySem.W.looks_findIn X hi) (fun self=>PySem.W.bind_fn X self hf) (.inl rfl) h
end
def Zm(f:Str)(v:V):List (Str×V)→List (Str×V)
 | []=>[(f,v)]
 | (g,x)::r=>if g=f then (g,v)::r else (g,x)::Zm f v r
theorem Zk(f g:Str)(v:V):∀fs:List (Str×V),(Zm f v fs).lookup g=if g=f then some v else fs.lookup g
 | []=>by
  show List.lookup g [(f,v)]=_
  by_cases h:g=f
  ·have hb:(g == f)=true:=beq_iff_eq.mpr h
   simp only[List.lookup,hb,if_pos h]
  ·have hb:(g == f)=false:=beq_eq_false_iff_ne.mpr h
   simp only[List.lookup,hb,if_neg h]
 | (k,x)::r=>by
  have ih:=Zk f g v r
  rw[show Zm f v ((k,x)::r)=(if k=f then (k,v)::r else (k,x)::Zm f v r) from rfl]
  by_cases hk:k=f
  ·rw[if_pos hk]
   by_cases h:g=k
   ·have hb:(g == k)=true:=beq_iff_eq.mpr h
    simp only[List.lookup,hb,if_pos (h.trans hk)]
   ·have hb:(g == k)=false:=beq_eq_false_iff_ne.mpr h
    simp only[List.lookup,hb,if_neg (fun e:g=f=>h (e.trans hk.symm))]
  ·rw[if_neg hk]
   by_cases h:g=k
   ·have hb:(g == k)=true:=beq_iff_eq.mpr h
    simp only[List.lookup,hb,if_neg (fun e:g=f=>hk (h.symm.trans e))]
   ·have hb:(g == k)=false:=beq_eq_false_iff_ne.mpr h
    simp only[List.lookup,hb]
    exact ih
theorem Zd0(f:Str)(v:V):∀fs:List (Str×V),f∈(Zm f v fs).map (·.1)∧∀g,g∈fs.map (·.1)→g∈(Zm f v fs).map (·.1)
 | []=>⟨by simp[Zm],fun g h=>by simp at h⟩
 | (k,x)::r=>by
  obtain⟨i1,i2⟩:=Zd0 f v r
  rw[show Zm f v ((k,x)::r)=(if k=f then (k,v)::r else (k,x)::Zm f v r) from rfl]
  by_cases hk:k=f
  ·rw[if_pos hk]
   subst hk
   exact⟨by simp,fun g h=>by simpa using h⟩
  ·rw[if_neg hk]
   refine⟨?_,fun g h=>?_⟩
   ·rw[Qg]
    exact Qm _ i1
   ·rw[Qg]at h ⊢
    rcases QA.mp h with e|e
    ·exact List.mem_cons.mpr (.inl e)
    ·exact Qm _ (i2 g e)
theorem Zen(f:Str)(v:V):∀fs:List (Str×V),(Zm f v fs).length≤fs.length+1
 | []=>by simp[Zm]
 | (k,x)::r=>by
  have ih:=Zen f v r
  rw[show Zm f v ((k,x)::r)=(if k=f then (k,v)::r else (k,x)::Zm f v r) from rfl]
  by_cases hk:k=f
  ·rw[if_pos hk,QI,QI];omega
  ·rw[if_neg hk,QI,QI];omega
theorem ZcA.some_of{v:V}{o:Option Value}(r:ZcA (some v) o):∃u,o=some u∧ZA v u:=by
 cases o with
 | none=>exact(show False from r).elim
 | some u=>exact⟨u,rfl,r⟩
theorem ZcA.none_of{o:Option Value}(r:ZcA none o):o=none:=by
 cases o with
 | none=>rfl
 | some u=>exact(show False from r).elim
theorem ZjA{v:V}{u:Value}(r:ZA v u):PySem.W.handedIn u=true:=by
 cases v with
 | non=>cases (show u=Value.none from r);rfl
 | bl b=>cases (show u=Value.bool b from r);rfl
 | int i=>obtain⟨t,e⟩:=(show ∃t,u=Value.int i t from r);cases e;rfl
 | str x=>obtain⟨t,e⟩:=(show ∃t,u=Value.str x t from r);cases e;rfl
 | byt b=>obtain⟨t,e⟩:=(show ∃t,u=Value.bytes b t from r);cases e;rfl
 | flt b=>obtain⟨t,e⟩:=(show ∃t,u=Value.float b t from r);cases e;rfl
 | ref a=>cases (show u=Value.ref a from r);rfl
 | ty n=>cases (show u=Value.type n from r);rfl
section
variable {P:Program} {w:World} {H H':Hp} {h h':Heap} {a C dx:Addr} {fs fs':List (Str×V)}
theorem ZdV(hok:HOk P w H h)(e:H a=some (.ins C dx fs)):∃mA,Zid h a dx C mA∧(∀f,ZcA (fs.lookup f) (mA f))∧PySem.Within mA (fs.map (·.1))∧fs.length≤1000∧H dx=some (.own a):=by
 obtain⟨d,z,ne,ob,mA,n,r,q⟩:=(show Z1 P w H h a (.ins C dx fs) from hok a _ e)
 exact⟨mA,⟨ob,n,ne⟩,r,q,z,d⟩
end
structure Cls (K:PySem.W.Frag) (C:Addr):Prop where
 pg:PySem.W.plainGet K C Str.empty=true
 hd:PySem.W.hasDictIn K C=true
 po:PySem.W.plainOver K C=true
 sa:PySem.W.findIn K (.ref C) "__setattr__" = some (some (.builtin "object.__setattr__"))
theorem Cls.get{K:PySem.W.Frag}{C:Addr}(c:Cls K C)(f:Str):PySem.W.plainGet K C f=true:=c.pg
def ZaR(K:PySem.W.Frag)(C:Addr)(f:Str):Prop:=PySem.W.findIn K (.ref C) f=some none
theorem ZaR.taker{K:PySem.W.Frag}{C:Addr}{f:Str}(n:ZaR K C f):PySem.W.takerIn K C f=some none:=by
 unfold PySem.W.takerIn
 rw[show PySem.W.findIn K (.ref C) f=some none from n]
 rfl
structure Con (K:PySem.W.Frag) (C:Addr) (f:Str) (v:V) (u:Value):Prop where
 at_:PySem.W.findIn K (.ref C) f=some (some u)
 rel:ZA v u
 get:PySem.W.specialIn K u "__get__" = some none
 cp:PySem.W.copiedNames.contains f=false
structure ZkS (K:PySem.W.Frag) (C:Addr) (m:Str) (f:Addr):Prop where
 at_:PySem.W.findIn K (.ref C) m=some (some (.ref f))
 fn:PySem.W.isFn K (.ref f)=true
 kp:PySem.W.keepIn K (.ref f)=true
section
variable {X:Cx} {pins:List (Addr×Obj)} {σ:St} {H:Hp} {s:Shared} {a C dx:Addr} {fs:List (Str×V)} {f:Str} {v:V} {A:Around} {E:Value→Shared→Prop}
theorem Zff{b:Bool}{Q:Value→Shared→Prop}(I:Inv X pins σ H s)(e:H a=some (.ins C dx fs))(c:Cls X.K C)(n:ZaR X.K C f)(l:fs.lookup f=some v)
  (h:∀u s',Inv X pins σ H s'→ZA v u→Q u s'):wpAny (model X.prog X.w) A (getAttr (.ref a) f b) Q E s:=by
 obtain⟨mA,O,r,_,_,_⟩:=ZdV I.hok e
 obtain⟨u,hu,ru⟩:=ZcA.some_of (v:=v) (o:=mA f) (by rw[← l];exact r f)
 exact ZlN I.kIn O (c.get f) c.hd n hu (ZjA ru) (h u _ (I.tok _) ru)
theorem ZeS{m:Str}{g:Addr}{pl:Sem Bool}{Q:Value×List Value→Shared→Prop}(I:Inv X pins σ H s)(e:H a=some (.ins C dx fs))(c:Cls X.K C)(k:ZkS X.K C m g)(l:fs.lookup m=none)
  (h:Q (.ref g,[.ref a]) s):wpAny (model X.prog X.w) A (getMethod (.ref a) m pl) Q E s:=by
 obtain⟨mA,O,r,_,_,_⟩:=ZdV I.hok e
 have hn:mA m=none:=ZcA.none_of (by rw[← l];exact r m)
 exact Zkn I.kIn O (c.get m) k.at_ k.fn hn h
theorem ZeM{y:V}{u:Value}{Q:Unit→Shared→Prop}(I:Inv X pins σ H s)(e:H a=some (.ins C dx fs))(c:Cls X.K C)(n:ZaR X.K C f)(hl:fs.length<1000)(ry:ZA y u)
  (h:∀s',Inv X pins σ (upd H a (.ins C dx (Zm f y fs))) s'→Q () s'):wpAny (model X.prog X.w) A (setAttr (.ref a) f u) Q E s:=by
 obtain⟨mA,O,r,wi,_,ho⟩:=ZdV I.hok e
 have hz:(fs.map (·.1)).length≤sizeLine:=by rw[Qa,sizeLine_eq];omega
 refine ZlP I.kIn O c.sa c.po n.taker c.hd wi hz fun h' O' sb=>h _ ?_
 have hd:∃o,h'.get? dx=some o:=let ⟨o,_,_,e',_⟩:=O'.ns;⟨o,e'⟩
 refine I.write (x:=a) (e:=dx) (by rw[e];exact True.intro) (.inr ho) (fun b q hb z=>(sb.2 b hb).trans z) hd ?_
 refine⟨by rw[Zc O.ne];exact ho,?_,O.ne,O'.obj,_,O'.ns,fun g=>?_,fun g hg=>?_⟩
 ·have:=Zen f y fs;omega
 ·show ZcA ((Zm f y fs).lookup g) (if g=f then some u else mA g)
  rw[Zk]
  by_cases q:g=f
  ·rw[if_pos q,if_pos q];exact ry
  ·rw[if_neg q,if_neg q];exact r g
 ·by_cases q:g=f
  ·rw[q];exact(Zd0 f y fs).1
  ·refine(Zd0 f y fs).2 g (wi g fun z=>hg ?_)
   show (if g=f then some u else mA g)=none
   rw[if_neg q];exact z
theorem Inv.made(I:Inv X pins σ H s):Inv X pins σ (upd (upd H s.heap.objs.size (.own (s.heap.objs.size+1))) (s.heap.objs.size+1) (.ins C s.heap.objs.size []))
  { s with heap:=(s.heap.push PySem.W.emptyDict).push (PySem.W.instObj C s.heap.objs.size) }:=by
 have e1:(s.heap.push PySem.W.emptyDict).get? s.heap.objs.size=some PySem.W.emptyDict:=Qn s.heap rfl
 have e2:((s.heap.push PySem.W.emptyDict).push (PySem.W.instObj C s.heap.objs.size)).get? (s.heap.objs.size+1)=some (PySem.W.instObj C s.heap.objs.size):=by
  have:=Qn (s.heap.push PySem.W.emptyDict) (o:=PySem.W.instObj C s.heap.objs.size) rfl
  rwa [Q0]at this
 have e3:(s.heap.push PySem.W.emptyDict).Ns s.heap.objs.size (fun _=>none):=⟨PySem.W.emptyDict,#[],_,e1,rfl,(fun e he=>absurd he (by simp)),fun _=>rfl⟩
 have I1:=I.laid (a:=s.heap.objs.size) (o:=.own (s.heap.objs.size+1)) (h':=s.heap.push PySem.W.emptyDict) (t':=s.toks) (fun b u q=>Qc _ q) (Qd _) ⟨_,e1⟩
 refine I1.laid (a:=s.heap.objs.size+1) (o:=.ins C s.heap.objs.size []) (t':=s.toks) (fun b u q=>Qc _ q) (Nat.le_of_eq (Q0 _ _)) ?_
 have ne:s.heap.objs.size≠s.heap.objs.size+1:=Qu (Nat.lt_succ_self _)
 refine⟨by rw[Zc ne,Zd],Qr _,ne,e2,fun _=>none,(Heap.Ns1.of_empty e3).at fun o q=>Qc _ q,fun _=>True.intro,fun y hy=>absurd rfl hy⟩
theorem Zl0{prog:Program}{w:World}{env:Env}{e:Expr}{f:Str}{pos:Pos}{s:Shared}{Q:Value→Shared→Prop}(hb:attributeBase e f env (eval e env)=eval e env)
  (h:wpAny (model prog w) A (eval e env) (fun o s₁=>wpAny (model prog w) A (getAttr o f true) Q E s₁) E s):wpAny (model prog w) A (eval (.Attribute e f pos) env) Q E s :=
 Attribute_any_ h (by rw[arm_eval_Attribute,hb])
end
def Zpk(K:PySem.W.Frag)(ta:TE)(f:Str):TE:=fun σ H Q=>ta σ H fun x H1=>∃a C dx fs v,x=.ref a∧H1 a=some (.ins C dx fs)∧Cls K C∧ZaR K C f∧fs.lookup f=some v∧Q v H1
def tCon(K:PySem.W.Frag)(ta:TE)(f:Str):TE:=fun σ H Q=>ta σ H fun x H1=>∃a C dx fs v u,x=.ref a∧H1 a=some (.ins C dx fs)∧Cls K C∧Con K C f v u∧fs.lookup f=none∧Q v H1
def Zpj(K:PySem.W.Frag)(ta tv:TE)(f:Str):TS:=fun D σ H=>tv σ H fun y H1=>ta σ H1 fun x H2=>∃a C dx fs,x=.ref a∧H2 a=some (.ins C dx fs)∧Cls K C∧ZaR K C f∧fs.length<1000 ∧
 D.nx σ (upd H2 a (.ins C dx (Zm f y fs)))
def Zor(X:Cx)(op:Operator)(rd:V→V→Hp→VK→Prop):Prop :=
 ∀ (pins:List (Addr×Obj)) (s:Shared) (σ:St) (H:Hp) (x y:V) (u v:Value) (Q:VK),Inv X pins σ H s→ZA x u→ZA y v→rd x y H Q→wpAny (model X.prog X.w) X.A (inplaceOp op u v) (EP X pins σ Q) X.xe s
def ZlK(K:PySem.W.Frag)(ta tv:TE)(rd:V→V→Hp→VK→Prop)(f:Str):TS:=fun D σ H=>ta σ H fun x H1=>∃a C dx fs v,x=.ref a∧H1 a=some (.ins C dx fs)∧Cls K C∧ZaR K C f∧fs.lookup f=some v ∧
 tv σ H1 fun y H2=>rd v y H2 fun z H3=>∃dx' fs',H3 a=some (.ins C dx' fs')∧fs'.length<1000∧D.nx σ (upd H3 a (.ins C dx' (Zm f z fs')))
section
variable {X:Cx} {o e value:Expr} {f:Str} {pos pos' tpos:Pos} {ta tv:TE}
theorem ZH(he:PE X e ta)(hb:attributeBase e f X.env (eval e X.env)=eval e X.env):PE X (.Attribute e f pos) (Zpk X.K ta f):=by
 intro pins s σ H Q I h
 refine Zl0 hb (thn (he pins s σ H _ I h) fun u s1 ⟨x,H1,I1,rx,a,C,dx,fs,v,ex,ea,c,n,l,q⟩=>?_)
 subst ex
 obtain rfl:u=Value.ref a:=rx
 exact Zff I1 ea c n l fun u' s2 I2 ru=>⟨v,H1,I2,ru,q⟩
theorem ZaA(ha:PE X o ta)(hv:PE X value tv)(hs:swapsWith value (some (.Attribute o f pos')) pos.line X.env=pure false):PS X (.Assign [.Attribute o f pos'] value pos) (Zpj X.K ta tv f):=by
 intro pins s σ H D I h
 refine plainObj_wpAny_Assign_Attribute (thn (hv pins s σ H _ I h) fun u s1 ⟨y,H1,I1,ry,q⟩=>thn (ha pins s1 σ H1 _ I1 q) fun ov s2 ⟨x,H2,I2,rx,a,C,dx,fs,ex,ea,c,n,l,q2⟩=>?_) hs
 subst ex
 obtain rfl:ov=Value.ref a:=rx
 exact ZeM I2 ea c n l ry fun s3 I3=>⟨σ,_,I3,q2⟩
theorem Zdc{op:Operator}{rd:V→V→Hp→VK→Prop}(ha:PE X o ta)(hv:PE X value tv)(hop:Zor X op rd):PS X (.AugAssign (.Attribute o f tpos) op value pos) (ZlK X.K ta tv rd f):=by
 intro pins s σ H D I h
 refine wpAny_AugAssign_AttributeAny (thn (ha pins s σ H _ I h) fun ov s1 ⟨x,H1,I1,rx,a,C,dx,fs,v,ex,ea,c,n,l,q⟩=>?_)
 subst ex
 obtain rfl:ov=Value.ref a:=rx
 refine Zff I1 ea c n l fun u s2 I2 ru=>thn (hv pins s2 σ H1 _ I2 q) fun w3 s3 ⟨y,H2,I3,ry,q3⟩=>thn (hop pins s3 σ H2 v y u w3 _ I3 ru ry q3) fun w4 s4 ⟨z,H3,I4,rz,dx',fs',ea',l',q4⟩=>?_
 exact ZeM I4 ea' c n l' rz fun s5 I5=>⟨σ,_,I5,q4⟩
def Zpz:V→V→Hp→VK→Prop:=fun x y H Q=>∃i j,x=.int i∧y=.int j∧Q (.int (i+j)) H
def rSub:V→V→Hp→VK→Prop:=fun x y H Q=>∃i j,x=.int i∧y=.int j∧Q (.int (i-j)) H
theorem Zgc:Zor X .Add Zpz:=by
 rintro pins s σ H x y u v Q I rx ry ⟨i,j,rfl,rfl,q⟩
 obtain⟨t,rfl⟩:=(show ∃t,u=Value.int i t from rx)
 obtain⟨t',rfl⟩:=(show ∃t',v=Value.int j t' from ry)
 exact PyProof.Rows.iadd_int ⟨.int (i+j),H,I.tok _,⟨_,rfl⟩,q⟩
end
section
variable {X:Cx} {pins:List (Addr×Obj)} {σ:St} {H:Hp} {s:Shared} {A:Around} {E:Value→Shared→Prop} {Q:Value→Shared→Prop} {c:Value} {b:Bool}
inductive ZdO (K:PySem.W.Frag) (H:Hp):V→Value→Prop where
 | non:ZdO K H .non (.type "NoneType")
 | bl (x:Bool):ZdO K H (.bl x) (.type "bool")
 | int (i:Int):ZdO K H (.int i) (.type "int")
 | str (x:Str):ZdO K H (.str x) (.type "str")
 | flt (x:UInt64):ZdO K H (.flt x) (.type "float")
 | lst {a:Addr} {xs:List V} (e:H a=some (.lst xs)):ZdO K H (.ref a) (.type "list")
 | frz {a:Addr} {o:Obj} {xs:List V} (e:H a=some (.frz o (.lst xs))):ZdO K H (.ref a) (.type "list")
 | tup {a:Addr} {xs:List V} (e:H a=some (.tup xs)):ZdO K H (.ref a) (.type "tuple")
 | dK {a:Addr} {kvs:List (Key×V)} (e:H a=some (.dK kvs)):ZdO K H (.ref a) (.type "dict")
 | dT {a:Addr} {kvs:List (List Key×V)} (e:H a=some (.dT kvs)):ZdO K H (.ref a) (.type "dict")
 | ins {a C dx:Addr} {fs:List (Str×V)} (e:H a=some (.ins C dx fs)) (cl:Cls K C) (ha:PySem.W.findIn K (.ref C) "__class__" = some (some (.builtin "object.__class__")))
   (hn:PySem.W.specialIn K (.builtin "object.__class__") "__get__" = some (some (.builtin "getset_descriptor.__get__"))) (htk:PySem.W.takesIn K (.builtin "object.__class__")=some true)
   (hm:PySem.W.mroIn K C (.type "object")=some true):ZdO K H (.ref a) (.ref C)
theorem ZjX{x:V}{u t:Value}(I:Inv X pins σ H s)(rx:ZA x u)(ty:ZdO X.K H x t)(e:PySem.W.kitOne X.K t c=some b)(h:∀tk,Q (.bool b) { s with toks:=tk }) :
  wpAny (model X.prog X.w) A (call (.builtin "isinstance") [u,c]) Q E s:=by
 cases ty with
 | non=>cases (show u=Value.none from rx);exact QS PySem.W.kitx_none I.kIn True.intro e (fun z=>nomatch z) h
 | bl y=>cases (show u=Value.bool y from rx);exact QS PySem.W.kitx_bool I.kIn True.intro e (fun z=>nomatch z) h
 | int i=>obtain⟨t,q⟩:=(show ∃t,u=Value.int i t from rx);cases q;exact QS PySem.W.kitx_int I.kIn True.intro e (fun z=>nomatch z) h
 | str y=>obtain⟨t,q⟩:=(show ∃t,u=Value.str y t from rx);cases q;exact QS PySem.W.kitx_str I.kIn True.intro e (fun z=>nomatch z) h
 | flt y=>obtain⟨t,q⟩:=(show ∃t,u=Value.float y t from rx);cases q;exact QS PySem.W.kitx_float I.kIn True.intro e (fun z=>nomatch z) h
 | @lst a xs ea =>
  cases (show u=Value.ref a from rx)
  obtain⟨_,_,n,_,h1⟩:=(show Z1 X.prog X.w H s.heap a (.lst xs) from I.hok a _ ea)
  exact QS Qav I.kIn ⟨_,h1,rfl⟩ e (fun z=>nomatch z) h
 | @frz a ob xs ea =>
  cases (show u=Value.ref a from rx)
  obtain⟨_,_,_,n,_,h1⟩:=(show Z1 X.prog X.w H s.heap a (.frz ob (.lst xs)) from I.hok a _ ea)
  exact QS Qav I.kIn ⟨_,h1,rfl⟩ e (fun z=>nomatch z) h
 | @tup a xs ea =>
  cases (show u=Value.ref a from rx)
  obtain⟨_,_,_,p⟩:=(show Z1 X.prog X.w H s.heap a (.tup xs) from I.hok a _ ea)
  obtain⟨o,h1,h2,_⟩:=p
  exact QS PySem.W.kitx_tuple I.kIn ⟨o,h1,h2⟩ e (fun z=>nomatch z) h
 | @dK a kvs ea =>
  cases (show u=Value.ref a from rx)
  obtain⟨_,_,vs,_,p⟩:=(show Z1 X.prog X.w H s.heap a (.dK kvs) from I.hok a _ ea)
  obtain⟨o,es,ep,h1,h2,_⟩:=p
  exact QS Qaw I.kIn ⟨o,h1,h2.1⟩ e (fun z=>nomatch z) h
 | @dT a kvs ea =>
  cases (show u=Value.ref a from rx)
  obtain⟨_,_,xs,_,o,es,ep,h1,h2,_⟩:=(show Z1 X.prog X.w H s.heap a (.dT kvs) from I.hok a _ ea)
  exact QS Qaw I.kIn ⟨o,h1,h2.1⟩ e (fun z=>nomatch z) h
 | @ins a C dx fs ea cl ha hn htk hm =>
  cases (show u=Value.ref a from rx)
  obtain⟨mA,O,_⟩:=ZdV I.hok ea
  obtain⟨od,J,_⟩:=O.look
  exact QS (PySem.W.kitx_own (cl.get _) cl.hd ha hn htk hm) I.kIn J e (fun z=>nomatch z) h
end
structure ZaI (k:Nat) (A:Around):Prop where
 hd:A.handled=none
 dp:A.depth+3*k+5<recursionLimit
 un:A.units+16*k+200<cLine
 gd:A.guards=some []
theorem ZaI.mono{j k:Nat}{A:Around}(r:ZaI k A)(h:j≤k):ZaI j A:=⟨r.hd,by have:=r.dp;omega,by have:=r.un;omega,r.gd⟩
theorem ZaI.deeper{k:Nat}{A:Around}(r:ZaI (k+1) A)(env:Env):ZaI k (A.deeper env) :=
 ⟨r.hd,by have:=r.dp;show A.depth+1+3*k+5<_;omega,by have:=r.un;show A.units+3+16*k+200<_;omega,r.gd⟩
theorem ZhZ{A:Around}{C:Addr}{us:List Value}{kw:List (Str×Value)}:(A.under (.builtin "type.__call__" ⟨.ref C::us,kw⟩)).depth=A.depth+1:=by
 first|rfl|simp[Around.under,Code.weight,Code.isCreation,Code.isGuard,Code.isCaller,Code.frames,Code.isFrame,guardIds]
theorem ZhM{A:Around}{C:Addr}{us:List Value}{kw:List (Str×Value)}:(A.under (.builtin "type.__call__" ⟨.ref C::us,kw⟩)).units=A.units+1:=by
 first|rfl|simp[Around.under,Code.cUnits,Code.frames,Code.isFrame]
theorem ZaI.make{k:Nat}{A:Around}(r:ZaI (k+1) A)(C:Addr)(us:List Value)(kw:List (Str×Value)):ZaI k (A.under (.builtin "type.__call__" ⟨.ref C::us,kw⟩)) :=
 ⟨r.hd,by have:=r.dp;rw[ZhZ];omega,by have:=r.un;rw[ZhM];omega,by rw[show (A.under (.builtin "type.__call__" ⟨.ref C::us,kw⟩)).guards=A.guards from by first|rfl|simp[Around.under,pushGuards,Code.guards,Code.isGuard,guardIds]];exact r.gd⟩
theorem ZaI.depth{k:Nat}{A:Around}(r:ZaI k A):A.depth<recursionLimit:=by have:=r.dp;omega
theorem ZaI.units{k:Nat}{A:Around}(r:ZaI k A):A.units+64<cLine:=by have:=r.un;omega
def ZnK:TA:=fun _ H Q=>Q [] H
def Zo1(ta:TE)(tr:TA):TA:=fun σ H Q=>ta σ H fun x H1=>tr σ H1 fun xs H2=>Q (x::xs) H2
section
variable {X:Cx} {e:Expr} {es:List Expr} {te:TE} {t:TA} {pos:Pos}
theorem Zf:PA X [] ZnK:=fun _ _ _ _ H Q I h=>Calls.spliced_nil ⟨[],H,I,.nil,h⟩
theorem Za(ha:PE X e te)(hr:PA X es t)(hs:starEach (e::es) X.env=(false,eval e X.env)::starEach es X.env:=by rfl):PA X (e::es) (Zo1 te t):=by
 intro pos pins s σ H Q I h
 rw[hs]
 show wpAny _ _ (spliced ((false,eval e X.env)::backTo pos (starEach es X.env))) _ _ s
 refine Calls.spliced_cons (thn (ha pins s σ H _ I h) fun u s1 ⟨x,H1,I1,r1,q1⟩=>?_)
 exact thn (hr pos pins s1 σ H1 _ I1 q1) fun us s2 ⟨xs,H2,I2,r2,q2⟩=>⟨x::xs,H2,I2,.cons r1 r2,q2⟩
def Zpl(t:TA):TE:=fun σ H Q=>t σ H fun xs H1=>xs.length≤sizeLine∧∀p,H1 p=none→Q (.ref p) (upd H1 p (.tup xs))
def Zpf(t:TA):TE:=fun σ H Q=>t σ H fun xs H1=>xs.length≤sizeLine∧∀p,H1 p=none→Q (.ref p) (upd H1 p (.lst xs))
theorem ZaP{x1}(h:PA X es t):PE X (.Tuple es x1 pos) (Zpl t):=by
 intro pins s σ H Q I hq
 refine wpAny_Tuple_spliced (thn (h pos pins s σ H _ I hq) fun us s1 ⟨xs,H1,I1,r,z,q⟩=>⟨by rw[← r.length];exact z,?_⟩)
 have hf:H1 s1.heap.objs.size=none:=I1.hok.fresh (Qd _)
 refine⟨.ref s1.heap.objs.size,upd H1 s1.heap.objs.size (.tup xs),I1.laid (t':=s1.toks) (fun b u e=>Qc _ e) (Qd _) ?_,rfl,q _ hf⟩
 exact⟨z,us,r,⟨_,Qn _ rfl,rfl,_,rfl⟩⟩
theorem ZaX(h:PA X es t):PE X (.List es pos) (Zpf t):=by
 intro pins s σ H Q I hq
 refine wpAny_List_spliced (thn (h pos pins s σ H _ I hq) fun us s1 ⟨xs,H1,I1,r,z,q⟩=>⟨by rw[← r.length];exact z,?_⟩)
 have hf:H1 s1.heap.objs.size=none:=I1.hok.fresh (Qd _)
 refine⟨.ref s1.heap.objs.size,upd H1 s1.heap.objs.size (.lst xs),I1.laid (t':=s1.toks) (fun b u e=>Qc _ e) (Qd _) ?_,rfl,q _ hf⟩
 exact⟨z,us,0,r,Qn _ rfl⟩
end
abbrev Sp:=List V→Hp→VK→XK→Prop
abbrev CXT:=List Env→Hp→Shared→XK→Value→Shared→Prop
structure ZhP (P:Program) (w:World) (K:PySem.W.Frag) (mg:Str→Option Value) (base:Heap) (A:Around) (outer:List Env) (s:Shared) (H:Hp):Prop where
 frames:A.frames=some outer
 mod:Mod K mg base
 bs:∀b o,base.get? b=some o→s.heap.get? b=some o∧H b=none
 bsz:base.objs.size≤s.heap.objs.size
 funs:s.heap.FunFrames base outer
 frf:∀b∈frs outer,H b=none
 hok:HOk P w H s.heap
 bare:AllBare s.gens
def CE(outer:List Env)(P:Program)(w:World)(H:Hp)(s:Shared)(Q:VK)(u:Value)(s':Shared):Prop :=
 ∃v H',s'.os=s.os∧AllBare s'.gens∧Un (frs outer) [] H H' s.heap s'.heap∧HOk P w H' s'.heap∧ZA v u∧Q v H'
def CR(CX:CXT)(outer:List Env)(P:Program)(w:World)(H:Hp)(s:Shared)(Q:VK)(E:XK)(r:Result)(s':Shared):Prop :=
 match r with
 | .ok (.ret u)=>CE outer P w H s Q u s'
 | .ok _=>False
 | .error e=>CX outer H s E e s'
structure Zdf (P:Program) (w:World) (K:PySem.W.Frag) (mg:Str→Option Value) (base:Heap) (CX:CXT) (k:Nat) (f:Addr) (fd:FuncData) (ps:List Str) (sp:Sp):Prop where
 len:∀vs H Q E,sp vs H Q E→vs.length=ps.length
 run:∀ (A:Around) (outer:List Env) (s:Shared) (H:Hp) (args:Args) (us:List Value) (vs:List V) (Q:VK) (E:XK),ZaI k A→ZhP P w K mg base A outer s H→BindsTo s fd args (ps.zip us)→ZB vs us→sp vs H Q E →
  codeAny (model P w) A (.call (.ref f) args) (CR CX outer P w H s Q E) s
theorem ZhP.make{P:Program}{w:World}{K:PySem.W.Frag}{mg:Str→Option Value}{base:Heap}{A:Around}{outer:List Env}{s:Shared}{H:Hp}(e:ZhP P w K mg base A outer s H)(C:Addr)(us:List Value)(kw:List (Str×Value)) :
  ZhP P w K mg base (A.under (.builtin "type.__call__" ⟨.ref C::us,kw⟩)) outer s H:=⟨by first|exact e.frames|(simpa [Around.under,Code.envs,Code.isFrame,pushEnvs] using e.frames),e.mod,e.bs,e.bsz,e.funs,e.frf,e.hok,e.bare⟩
section
variable {X:Cx} {pins:List (Addr×Obj)} {σ:St} {H:Hp} {s s':Shared}
theorem Inv.env0(I:Inv X pins σ H s):ZhP X.prog X.w X.K X.mg X.base X.A X.stack s H :=
 ⟨I.ok.frames,I.ok.mod,I.bs,QG I.ok.bsz I.sz,I.stack,I.stkFree,I.hok,I.bare⟩
theorem Inv.after{Q:VK}{u:Value}(I:Inv X pins σ H s)(h:CE X.stack X.prog X.w H s Q u s'):EP X pins σ Q u s':=by
 obtain⟨v,H',os,bare,un,hok,r,q⟩:=h
 obtain⟨hh,g,d,t,os'⟩:=s'
 obtain rfl:os'=s.os:=os
 exact⟨v,H',I.call (h':=hh) (g':=g) (d':=d) (t':=t) (ch:=[]) un hok bare (fun b z=>absurd z (by simp)),r,q⟩
end
def ZmO(sp:Sp)(dvs:List V)(E:XK)(t:TA):TE:=fun σ H Q=>t σ H fun vs H1=>sp (vs++dvs) H1 Q E
def ZiS(C:Addr)(m:Str)(sp:Sp)(dvs:List V)(E:XK)(ta:TE)(t:TA):TE:=fun σ H Q=>ta σ H fun x H1=>∃a dx fs,x=.ref a∧H1 a=some (.ins C dx fs)∧fs.lookup m=none ∧
 t σ H1 fun vs H2=>sp (x::(vs++dvs)) H2 Q E
def ZmU(C:Addr)(sp:Sp)(dvs:List V)(E:XK)(t:TA):TE:=fun σ H Q=>t σ H fun vs H1=>∀x dx,H1 x=none→H1 dx=none→dx≠x →
 sp (.ref x::(vs++dvs)) (upd (upd H1 dx (.own x)) x (.ins C dx [])) (fun v H2=>v=.non∧Q (.ref x) H2) E
def ZbH(K:PySem.W.Frag)(fd:FuncData)(ps:List Str)(ds:List Value):Prop :=
 ∀ (s:Shared) (us:List Value),K.In s.heap→(us++ds).length=ps.length→BindsTo s fd ⟨us,[]⟩ (ps.zip (us++ds))
theorem ZbH.all{K:PySem.W.Frag}{fd:FuncData}{ps:List Str}(h:∀us:List Value,us.length=ps.length→bindArgs fd ⟨us,[]⟩=pure (ps.zip us)):ZbH K fd ps []:=fun s us _ hl=>by
 rw[Qar]at hl ⊢
 exact .of_eq (h us hl)
def ZdF(CX:CXT)(X:Cx)(E:XK):Prop:=∀ (pins:List (Addr×Obj)) (σ:St) (H:Hp) (s:Shared) (e:Value) (s':Shared),Inv X pins σ H s→CX X.stack H s E e s'→X.xe e s'
section
variable {X:Cx} {CX:CXT} {k:Nat} {f C:Addr} {fd:FuncData} {ps:List Str} {sp:Sp} {dvs:List V} {ds:List Value} {E:XK} {x m:Str} {p pos apos:Pos} {e o:Expr} {es:List Expr} {ta:TE} {t:TA}
theorem ZhR{pins:List (Addr×Obj)}{σ:St}{H:Hp}{s:Shared}{Q:VK}{us:List Value}{vs:List V}(F:Zdf X.prog X.w X.K X.mg X.base CX k f fd ps sp)(hr:ZaI k X.A)(hb:ZbH X.K fd ps ds)(hd:ZB dvs ds)(hx:ZdF CX X E)
  (I:Inv X pins σ H s) (r:ZB vs us) (h:sp (vs++dvs) H Q E):wpAny (model X.prog X.w) X.A (call (.ref f) us) (EP X pins σ Q) X.xe s:=by
 have r2:ZB (vs++dvs) (us++ds):=r.append hd
 have hl:(us++ds).length=ps.length:=by rw[← r2.length];exact F.len _ _ _ _ h
 refine wpAny_call (codeAny_mono (F.run X.A X.stack s H ⟨us,[]⟩ (us++ds) (vs++dvs) Q E hr I.env0 (hb s us I.kIn hl) r2 h) fun r s' hq=>?_)
 cases r with
 | error e=>exact hx pins σ H s e s' I hq
 | ok fl =>
  cases fl with
  | ret u=>exact I.after hq
  | next=>exact False.elim hq
  | brk=>exact False.elim hq
  | cont=>exact False.elim hq
theorem Zl6(F:Zdf X.prog X.w X.K X.mg X.base CX k f fd ps sp)(hr:ZaI k X.A)(hg:Gl X x)(hm:X.mg x=some (.ref f))(hk:PySem.W.keepIn X.K (.ref f)=true)(hb:ZbH X.K fd ps ds)(hd:ZB dvs ds)(hx:ZdF CX X E)
  (ha:PA X (e::es) t) (hdb:(x == ("__debug__" : Str))=false:=by decide) (he:starEach (e::es) X.env=(false,eval e X.env)::starEach es X.env:=by rfl) (hpl:(backTo pos (starEach es X.env)).any (·.1)=false:=by rfl) :
  PE X (.Call (.Name x p) (e::es) [] pos) (ZmO sp dvs E t):=by
 intro pins s σ H Q I h
 refine wpAny_Call_Name_kw (ZiH I hg hm ?_ hdb)
 refine PySem.W.callWith_K (h₀:=X.base) I.ok.mod.kin hk (thn (ha pos pins s σ H _ I h) fun us s1 ⟨vs,H1,I1,r,q⟩=>⟨I1.kIn,?_⟩) he hpl
 exact ZhR F hr hb hd hx I1 r q
theorem Zl8{pl:Sem Bool}(he:PE X o ta)(c:Cls X.K C)(hm:ZkS X.K C m f)(F:Zdf X.prog X.w X.K X.mg X.base CX k f fd ps sp)(hr:ZaI k X.A)(hb:ZbH X.K fd ps ds)(hd:ZB dvs ds)(hx:ZdF CX X E)(ha:PA X (e::es) t)
  (hst:starEach (e::es) X.env=(false,eval e X.env)::starEach es X.env:=by rfl) (hpl:(backTo pos (starEach es X.env)).any (·.1)=false:=by rfl)
  (ht:eval (.Call (.Attribute o m apos) (e::es) [] pos) X.env=(do
   let ov ← eval o X.env
   standAt apos.atName
   let (f,first) ← holding [ov] (getMethod ov m pl)
   callWith pos f first (backTo pos (starEach (e::es) X.env)) (backToKw pos (keywordEach [] X.env))):=by rfl) :
  PE X (.Call (.Attribute o m apos) (e::es) [] pos) (ZiS C m sp dvs E ta t):=by
 intro pins s σ H Q I h
 refine PySem.W.methodCall_KW (pl:=pl) (thn (he pins s σ H _ I h) fun u s1 ⟨x,H1,I1,rx,a,dx,fs,ex,ea,l,q⟩=>?_) ht
 subst ex
 obtain rfl:u=Value.ref a:=rx
 refine ZeS I1 ea c hm l ?_
 refine PySem.W.callWith_K (first:=[.ref a]) (h₀:=X.base) I.ok.mod.kin hm.kp (thn (ha pos pins s1 σ H1 _ I1 q) fun us s2 ⟨vs,H2,I2,r,q2⟩=>⟨I2.kIn,?_⟩) hst hpl
 exact ZhR (us:=.ref a::us) (vs:=.ref a::vs) F hr hb hd hx I2 (.cons rfl r) q2
theorem ZkG{pl:Sem Bool}(he:PE X o ta)(c:Cls X.K C)(hm:ZkS X.K C m f)(F:Zdf X.prog X.w X.K X.mg X.base CX k f fd ps sp)(hr:ZaI k X.A)(hb:ZbH X.K fd ps ds)(hd:ZB dvs ds)(hx:ZdF CX X E)
  (ht:eval (.Call (.Attribute o m apos) [] [] pos) X.env=(do
   let ov ← eval o X.env
   standAt apos.atName
   let (f,first) ← holding [ov] (getMethod ov m pl)
   callWith pos f first (backTo pos (starEach [] X.env)) (backToKw pos (keywordEach [] X.env))):=by rfl) :
  PE X (.Call (.Attribute o m apos) [] [] pos) (ZiS C m sp dvs E ta ZnK):=by
 intro pins s σ H Q I h
 refine PySem.W.methodCall_KW (pl:=pl) (thn (he pins s σ H _ I h) fun u s1 ⟨x,H1,I1,rx,a,dx,fs,ex,ea,l,q⟩=>?_) ht
 subst ex
 obtain rfl:u=Value.ref a:=rx
 refine ZeS I1 ea c hm l ?_
 exact PySem.W.callWith_K0 (first:=[.ref a]) I1.kIn hm.kp (ZhR (us:=[.ref a]) (vs:=[.ref a]) F hr hb hd hx I1 (.cons rfl .nil) q)
structure Mk (K:PySem.W.Frag) (C f:Addr):Prop where
 makes:PySem.W.makesIn K C=true
 init:PySem.W.findIn K (.ref C) "__init__" = some (some (.ref f))
 fn:PySem.W.isFn K (.ref f)=true
 kp:PySem.W.keepIn K (.ref C)=true
theorem Zj6{pins:List (Addr×Obj)}{σ:St}{H:Hp}{s:Shared}{Q:VK}{us:List Value}{vs:List V}(M:Mk X.K C f)(F:Zdf X.prog X.w X.K X.mg X.base CX k f fd ps sp)(hr:ZaI (k+1) X.A)(hb:ZbH X.K fd ps ds)(hd:ZB dvs ds)
  (hx:ZdF CX X E) (I:Inv X pins σ H s) (r:ZB vs us)
  (h:∀x dx,H x=none→H dx=none→dx≠x→sp (.ref x::(vs++dvs)) (upd (upd H dx (.own x)) x (.ins C dx [])) (fun v H2=>v=.non∧Q (.ref x) H2) E) :
  wpAny (model X.prog X.w) X.A (call (.ref C) us) (EP X pins σ Q) X.xe s:=by
 have hq:=h (s.heap.objs.size+1) s.heap.objs.size (I.hok.fresh (QaF _)) (I.hok.fresh (Qd _)) (Qu (Nat.lt_succ_self _))
 have I2:=Inv.made (C:=C) I
 have r2:ZB (V.ref (s.heap.objs.size+1)::(vs++dvs)) (Value.ref (s.heap.objs.size+1)::(us++ds)):=.cons rfl (r.append hd)
 have hl:(Value.ref (s.heap.objs.size+1)::us++ds).length=ps.length:=by
  have e:=r2.length
  rw[F.len _ _ _ _ hq]at e
  exact e.symm
 refine wpAny_call (ZkH (f:=f) I.kIn M.makes M.init (beq_iff_eq.mp M.fn) (codeAny_mono (F.run _ X.stack _ _ ⟨Value.ref (s.heap.objs.size+1)::us,[]⟩ (Value.ref (s.heap.objs.size+1)::(us++ds)) _ _ E (hr.make C us [])
  (I2.env0.make C us []) (hb _ (Value.ref (s.heap.objs.size+1)::us) I2.kIn hl) r2 hq) fun r s' hq'=>?_))
 cases r with
 | error e=>exact hx pins σ _ _ e s' I2 hq'
 | ok fl =>
  cases fl with
  | ret u =>
   obtain⟨v,H',I3,rv,ev,q3⟩:=I2.after hq'
   subst ev
   exact⟨rv,⟨V.ref (s.heap.objs.size+1),H',I3,rfl,q3⟩⟩
  | next=>exact False.elim hq'
  | brk=>exact False.elim hq'
  | cont=>exact False.elim hq'
theorem ZlR(M:Mk X.K C f)(F:Zdf X.prog X.w X.K X.mg X.base CX k f fd ps sp)(hr:ZaI (k+1) X.A)(hg:Gl X x)(hm:X.mg x=some (.ref C))(hb:ZbH X.K fd ps ds)(hd:ZB dvs ds)(hx:ZdF CX X E)
  (ha:PA X (e::es) t) (hdb:(x == ("__debug__" : Str))=false:=by decide) (he:starEach (e::es) X.env=(false,eval e X.env)::starEach es X.env:=by rfl) (hpl:(backTo pos (starEach es X.env)).any (·.1)=false:=by rfl) :
  PE X (.Call (.Name x p) (e::es) [] pos) (ZmU C sp dvs E t):=by
 intro pins s σ H Q I h
 refine wpAny_Call_Name_kw (ZiH I hg hm ?_ hdb)
 refine PySem.W.callWith_K (h₀:=X.base) I.ok.mod.kin M.kp (thn (ha pos pins s σ H _ I h) fun us s1 ⟨vs,H1,I1,r,q⟩=>⟨I1.kIn,?_⟩) he hpl
 exact Zj6 M F hr hb hd hx I1 r q
end
def PK(X:Cx)(kws:List Keyword)(t:TA):Prop :=
 ∀ (pos:Pos) (pins:List (Addr×Obj)) (s:Shared) (σ:St) (H:Hp) (Q:List V→Hp→Prop),Inv X pins σ H s→t σ H Q→wpAny (model X.prog X.w) X.A (evalAll ((backToKw pos (keywordEach kws X.env)).map (·.2))) (AP X pins σ Q) X.xe s
section
variable {X:Cx} {CX:CXT} {k:Nat} {f C:Addr} {fd:FuncData} {ps ks:List Str} {sp:Sp} {E:XK} {x m:Str} {p pos apos kpos:Pos} {e o:Expr} {es:List Expr} {kws:List Keyword} {te ta:TE} {t tk:TA} {nm:Option Str}
structure KBinds (K:PySem.W.Frag) (fd:FuncData) (ps ks:List Str) (g:List Value→List Value→List Value) (gV:List V→List V→List V):Prop where
 to:∀ (s:Shared) (us ws:List Value),K.In s.heap→(g us ws).length=ps.length→BindsTo s fd ⟨us,ks.zip ws⟩ (ps.zip (g us ws))
 rel:∀ {vs:List V} {us:List Value} {zs:List V} {ws:List Value},ZB vs us→ZB zs ws→ZB (gV vs zs) (g us ws)
def tCallK(sp:Sp)(gV:List V→List V→List V)(E:XK)(t tk:TA):TE:=fun σ H Q=>t σ H fun vs H1=>tk σ H1 fun zs H2=>sp (gV vs zs) H2 Q E
variable {g:List Value→List Value→List Value} {gV:List V→List V→List V}
end
structure Zp (N P:List Str) (sc:Scope):Prop where
 kind:sc.kind=.function
 co:sc.isCoroutine=false
 gen:sc.isGenerator=false
 nd:N.Nodup
 pre:N.take P.length=P
 par:∀x∈P,sc.names.lookup x=some .local∨sc.names.lookup x=some .cell
 nofree:∀y∈sc.names,y.2≠.free
theorem Zfx{kindOf:Str→Option NameKind}{x:Str}:∀ {binds:List (Str×Value)} {m:Str→Option Value},(∀v,(x,v) ∉ binds)→bindL kindOf binds m x=m x
 | [],_,_=>rfl
 | (n,v)::r,m,h=>by
  unfold bindL
  rw[Zfx fun w hw=>h w (Qm _ hw)]
  split
  ·have:x≠n:=by rintro rfl;exact h v QW
   simp[this]
  ·rfl
theorem Zfy{kindOf:Str→Option NameKind}{x:Str}:∀ {binds:List (Str×Value)} {m:Str→Option Value},(∀v,(x,v) ∉ binds)→bindC kindOf binds m x=m x
 | [],_,_=>rfl
 | (n,v)::r,m,h=>by
  unfold bindC
  rw[Zfy fun w hw=>h w (Qm _ hw)]
  split
  ·rfl
  ·have:x≠n:=by rintro rfl;exact h v QW
   simp[this]
theorem ZfG{kindOf:Str→Option NameKind}{x:Str}{v:Value}:∀ {P:List Str} {vs:List Value} {i:Nat} {m:Str→Option Value},P.Nodup→P[i]? = some x→vs[i]? = some v→kindOf x=some .local →
  bindL kindOf (P.zip vs) m x=some v
 | [],_,_,_,_,h,_,_=>by simp at h
 | _::_,[],_,_,_,_,h,_=>by simp at h
 | p::P,w::vs,0,m,nd,h1,h2,hk=>by
  simp at h1 h2;subst h1;subst h2
  show bindL kindOf ((p,w)::P.zip vs) m p=_
  unfold bindL
  rw[Zfx fun v hv=>(QN.mp nd).1 (List.of_mem_zip hv).1,if_pos hk]
  simp
 | p::P,w::vs,i+1,m,nd,h1,h2,hk=>by
  show bindL kindOf ((p,w)::P.zip vs) m x=_
  unfold bindL
  exact ZfG (i:=i) (QN.mp nd).2 (by simpa using h1) (by simpa using h2) hk
theorem Zft{kindOf:Str→Option NameKind}{x:Str}{v:Value}:∀ {P:List Str} {vs:List Value} {i:Nat} {m:Str→Option Value},P.Nodup→P[i]? = some x→vs[i]? = some v→kindOf x≠some .local →
  bindC kindOf (P.zip vs) m x=some v
 | [],_,_,_,_,h,_,_=>by simp at h
 | _::_,[],_,_,_,_,h,_=>by simp at h
 | p::P,w::vs,0,m,nd,h1,h2,hk=>by
  simp at h1 h2;subst h1;subst h2
  show bindC kindOf ((p,w)::P.zip vs) m p=_
  unfold bindC
  rw[Zfy fun v hv=>(QN.mp nd).1 (List.of_mem_zip hv).1,if_neg hk]
  simp
 | p::P,w::vs,i+1,m,nd,h1,h2,hk=>by
  show bindC kindOf ((p,w)::P.zip vs) m x=_
  unfold bindC
  exact Zft (i:=i) (QN.mp nd).2 (by simpa using h1) (by simpa using h2) hk
def ZcL(N:List Str)(vs:List V):St:=vs.map some++List.replicate (N.length-vs.length) none
def Zgz(CX:CXT)(P:Program)(w:World)(K:PySem.W.Frag)(mg:Str→Option Value)(base:Heap)(N:List Str)(qual:Str)(scope:Scope)(f:Addr)(cd:Value)(A:Around)(outer:List Env)(s:Shared)(H:Hp)(E:XK):Cx where
 prog:=P
 w:=w
 K:=K
 mg:=mg
 base:=base
 A:=A.deeper (envOfC qual scope s.heap.objs.size f cd)
 N:=N
 s₀:=s
 H₀:=H
 env:=envOfC qual scope s.heap.objs.size f cd
 outer:=outer
 stack:=envOfC qual scope s.heap.objs.size f cd::outer
 ex:=[]
 calm:=true
 fn:=fun _=>true
 pn:=[]
 xe:=fun e s'=>wpAny (model P w) (A.deeper (envOfC qual scope s.heap.objs.size f cd)) (leaving (envOfC qual scope s.heap.objs.size f cd) e) (fun _ s''=>CX outer H s E e s'') (fun e' s''=>CX outer H s E e' s'') s'
theorem Zht{sc:Scope}{n:Nat}{x:Str}(h:sc.names.lookup x=some .cell):∃c,(cellsFrom n sc.names []).lookup x=some c:=by
 have q:=PySem.W.cellsFrom_some sc.names n [] (.inl h)
 exact Option.isSome_iff_exists.mp q
theorem Zjh{CX:CXT}{P:Program}{w:World}{K:PySem.W.Frag}{mg:Str→Option Value}{base:Heap}{N ps:List Str}{qual:Str}{scope:Scope}{f:Addr}{cd:Value}{A:Around}{outer:List Env}{s s1:Shared}{H:Hp}{E:XK}{us:List Value}{vs:List V}
  (S:Zp N ps scope) (hd:A.handled=none) (e0:ZhP P w K mg base A outer s H) (hl:vs.length=ps.length) (r:ZB vs us)
  (x:InCallC s s.heap.objs.size (bindL (envOfC qual scope s.heap.objs.size f cd).kindOf (ps.zip us) fun _=>none) (cellsFrom (s.heap.objs.size+1) scope.names []) (bindC (envOfC qual scope s.heap.objs.size f cd).kindOf (ps.zip us) fun _=>none) s1) :
  Inv (Zgz CX P w K mg base N qual scope f cd A outer s H E) [] (ZcL N vs) H s1:=by
 have hpl:ps.length≤N.length:=by have:=congrArg List.length S.pre;rw[Qw]at this;omega
 obtain⟨h1,tk,rfl,hk⟩:=x.done
 have noA:∀b:Addr,b ∉ (Zgz CX P w K mg base N qual scope f cd A outer s H E).ex:=fun b z=>absurd (show b∈([]:List Addr) from z) (by simp)
 refine⟨⟨e0.mod,S.kind,rfl,rfl,Qd _,fun y z c h1 h2=>?_,fun y hy=>?_,fun y c _ h=>?_,fun _=>hd,Around.frames_deeper e0.frames,.inr ⟨rfl,rfl⟩,fun b z=>absurd z (noA b),e0.bs,e0.bsz,fun b _ _=>noA b,fun b z=>absurd z (noA b),e0.funs,e0.frf⟩,
  rfl,e0.bare,Un.kept hk,⟨_,x.toInCall.ns,fun i y v h1 h2 h3=>?_⟩,fun y c h=>⟨_,x.cell y c h⟩,e0.hok.fresh (Qd _),fun y c h=>?_,fun p hp=>absurd (show p∈([]:List (Addr×Obj)) from hp) (by simp),e0.hok.kept hk,?_⟩
 ·exact name_of_addr x.apart (Q8 h1) (Q8 h2)
 ·have hy:scope.names.lookup y=some .cell∨scope.names.lookup y=some .free:=hy
  rcases hy with hy|hy
  ·exact Zht hy
  ·exact absurd rfl (S.nofree _ (Q8 hy))
 ·exact Nat.le_of_lt (x.above y c (Q8 h))
 ·have hi:i<vs.length:=by
   unfold ZcL at h2
   by_cases hi:i<vs.length
   ·exact hi
   ·rw[Q1 (by simpa using hi)]at h2
    rw[List.getElem?_replicate]at h2
    split at h2<;>cases h2
  have ha:vs[i]? = some v:=by
   unfold ZcL at h2
   rw[Q3 (by simpa using hi),Qs]at h2
   cases e:vs[i]? with
   | none=>rw[e]at h2;cases h2
   | some a=>rw[e]at h2;cases h2;rfl
  obtain⟨u,hu,rv⟩:=r.get ha
  have hp:ps[i]? = some y:=by
   rw[← S.pre,List.getElem?_take_of_lt (by omega)];exact h1
  have ndP:ps.Nodup:=by rw[← S.pre];exact S.nd.sublist (List.take_sublist _ _)
  refine⟨u,rv,?_⟩
  rcases S.par y (Qy hp) with k|k
  ·exact .inl ⟨k,ZfG ndP hp hu k⟩
  ·obtain⟨c,e⟩:=Zht (n:=s.heap.objs.size+1) k
   refine .inr ⟨.inl k,c,e,?_⟩
   have q:=x.cell y c e
   rw[Zft ndP hp hu (by show scope.names.lookup y≠_;rw[k];decide)]at q
   exact q
 ·exact e0.hok.fresh (Nat.le_of_lt (x.above y c (Q8 h)))
 ·unfold ZcL
  show _=N.length
  rw[Qp,Qa,Qag]
  omega
theorem ZoL{CX:CXT}{P:Program}{w:World}{K:PySem.W.Frag}{mg:Str→Option Value}{base:Heap}{k:Nat}{f:Addr}{name qual:Str}{params:Arguments}{body:List Stmt}{scope:Scope}{dV kV doc pm cdv ct oc:Value}{an od:Option Addr}
  {osl:Array (Option Value)} {N ps:List Str} {sp:Sp} (lk:K.lookup f=some ⟨oc,od,.func (PySem.W.fnOf name qual params body scope dV kV doc pm an cdv ct),osl⟩) (hcd:PySem.W.codeIn K cdv qual=true) (S:Zp N ps scope)
  (len:∀vs H Q E,sp vs H Q E→vs.length=ps.length)
  (hbody:∀ (A:Around) (outer:List Env) (s:Shared) (H:Hp) (vs:List V) (Q:VK) (E:XK),ZaI k (A.deeper (envOfC qual scope s.heap.objs.size f cdv))→sp vs H Q E →
   ∃t,PSs (Zgz CX P w K mg base N qual scope f cdv A outer s H E) body t∧t { nx:=fun _ H'=>Q .non H',rt:=Q } (ZcL N vs) H) :
  Zdf P w K mg base CX (k+1) f (PySem.W.fnOf name qual params body scope dV kV doc pm an cdv ct) ps sp:=by
 refine⟨len,fun A outer s H args us vs Q E hr e0 hb r hsp=>?_⟩
 have hl:=len _ _ _ _ hsp
 have KX:K.In s.heap:=e0.mod.kin.keeps fun b o e=>(e0.bs b o e).1
 have lim:s.heap.NoLimit:=e0.mod.nolimit.keeps fun b o e=>(e0.bs b o e).1
 have hkind:∀y∈ps.zip us,scope.names.lookup y.1=some .local∨(scope.names.lookup y.1=some .cell∧((cellsFrom (s.heap.objs.size+1) scope.names []).lookup y.1).isSome=true):=fun ⟨n,v⟩ hy=>by
  rcases S.par n (List.of_mem_zip hy).1 with q|q
  ·exact .inl q
  ·exact .inr ⟨q,PySem.W.cellsFrom_some _ _ _ (.inl q)⟩
 refine codeAny_call_function hr.depth (KX _ _ lk) rfl S.co S.gen rfl (PySem.W.codeRec_of KX hcd) (hb _ _ _ _ ?_)
 refine wpAny_newFunctionEnv_cells S.kind hkind fun env he s1 x=>?_
 subst he
 refine⟨lim.keeps x.toInCall.keep,codeAny_func ?_⟩
 obtain⟨t,ht,hq⟩:=hbody A outer s H vs Q E (hr.deeper _) hsp
 have I:Inv (Zgz CX P w K mg base N qual scope f cdv A outer s H E) [] (ZcL N vs) H s1:=Zjh S hr.hd e0 hl r x
 refine wpAny_mono (ht [] s1 (ZcL N vs) H _ I hq) (fun fl s' hs=>?_) fun e s' hs=>hs
 have fin:∀ {σ':St} {H':Hp} {v:V} {u:Value},Inv (Zgz CX P w K mg base N qual scope f cdv A outer s H E) [] σ' H' s'→ZA v u→Q v H'→CE outer P w H s Q u s' :=
  fun {σ' H' v u} J rv q=>⟨v,H',J.os,J.bare,J.base,J.hok,rv,q⟩
 cases fl with
 | ret u =>
  obtain⟨v,σ',H',J,rv,q⟩:=hs
  exact fin J rv q
 | next =>
  obtain⟨σ',H',J,q⟩:=hs
  exact fin (v:=V.non) (u:=Value.none) J rfl q
 | brk =>
  obtain⟨_,_,_,q⟩:=hs
  exact False.elim q
 | cont =>
  obtain⟨_,_,_,q⟩:=hs
  exact False.elim q
section
variable {X:Cx} {x:Str} {p pos:Pos} {e:Expr} {es:List Expr} {t:TA} {id T:String} {r:List V→Hp→VK→Prop}
def tCB(r:List V→Hp→VK→Prop)(t:TA):TE:=fun σ H Q=>t σ H fun vs H1=>r vs H1 Q
theorem Zo(hc:Zay X (.builtin id) r)(hg:Gl X x)(hm:X.mg x=none)(hv:bootBuiltins x=some (.builtin id))(ha:PA X (e::es) t)(hn:x ≠ "__name__":=by decide)(hdb:(x == ("__debug__" : Str))=false:=by decide)
  (he:starEach (e::es) X.env=(false,eval e X.env)::starEach es X.env:=by rfl) (hpl:(backTo pos (starEach es X.env)).any (·.1)=false:=by rfl):PE X (.Call (.Name x p) (e::es) [] pos) (tCB r t):=by
 intro pins s σ H Q I h
 refine wpAny_Call_Name_kw (Zdv I hg hm hv ?_ hn hdb)
 exact PyProof.Rows.callWith_builtin1 (thn (ha pos pins s σ H _ I h) fun us s1 ⟨vs,H1,I1,r1,q1⟩=>hc pins s1 σ H1 vs us Q I1 r1 q1) he hpl
theorem Zch(hc:Zay X (.type T) r)(hg:Gl X x)(hm:X.mg x=none)(hv:bootBuiltins x=some (.type T))(ha:PA X (e::es) t)(hn:x ≠ "__name__":=by decide)(hdb:(x == ("__debug__" : Str))=false:=by decide)
  (he:starEach (e::es) X.env=(false,eval e X.env)::starEach es X.env:=by rfl) (hpl:(backTo pos (starEach es X.env)).any (·.1)=false:=by rfl):PE X (.Call (.Name x p) (e::es) [] pos) (tCB r t):=by
 intro pins s σ H Q I h
 refine wpAny_Call_Name_kw (Zdv I hg hm hv ?_ hn hdb)
 exact QX (thn (ha pos pins s σ H _ I h) fun us s1 ⟨vs,H1,I1,r1,q1⟩=>hc pins s1 σ H1 vs us Q I1 r1 q1) he hpl
end
end L2
namespace HT
open PySem PyProof.Rows
def lexLt:List Int→List Int→Bool
 | [],[]=>false
 | [],_::_=>true
 | _::_,[]=>false
 | x::xs,y::ys=>if x=y then lexLt xs ys else decide (x<y)
theorem ZnJ(x y:Int)(xs ys:List Int):lexLt (x::xs) (y::ys)=if x=y then lexLt xs ys else decide (x<y):=rfl
theorem ZlE:lexLt [] []=false:=rfl
theorem ZkZ(y:Int)(ys:List Int):lexLt [] (y::ys)=true:=rfl
theorem ZlA(x:Int)(xs:List Int):lexLt (x::xs) []=false:=rfl
section
open PySem.SeqAt
open PySem.AutoSeq1 (wpAny_loadPart')
open PySem.MeetsSeq PySem.MeetsSeq2 PySem.MeetsSeq3
end
section
variable {prog:Program} {w:World} {A:Around} {E:Value→Shared→Prop} {s:Shared}
def sIx(n d:Nat):Option Int→Nat
 | none=>d
 | some v=>if v<0 then (v+(n:Int)).toNat else min v.toNat n
theorem ZoB(n d:Nat):sIx n d none=d:=rfl
theorem Zn7(n d:Nat)(hd:d≤n)(o:Option Int):sIx n d o≤n:=by
 cases o with
 | none=>exact hd
 | some v =>
  show (if v<0 then (v+(n:Int)).toNat else min v.toNat n)≤n
  by_cases hv:v<0
  ·rw[if_pos hv];omega
  ·rw[if_neg hv];exact Nat.min_le_right _ _
theorem ZiA(v:Int)(n d:Nat):(if v<0 then max (v+(n:Int)) 0 else min v (n:Int))=((sIx n d (some v):Nat):Int):=by
 show (if v<0 then max (v+(n:Int)) 0 else min v (n:Int))=(((if v<0 then (v+(n:Int)).toNat else min v.toNat n):Nat):Int)
 by_cases hv:v<0
 ·simp only[if_pos hv];omega
 ·simp only[if_neg hv];omega
theorem Zh5(lo hi:Option Int)(n:Nat):Builtin.Slice.sliceAdjust lo hi 1 (n:Int)=(((sIx n 0 lo:Nat):Int),((sIx n n hi:Nat):Int)):=by
 have h1:¬ ((1:Int)<0):=by omega
 unfold Builtin.Slice.sliceAdjust
 simp only[h1,if_false]
 refine Prod.ext ?_ ?_
 ·cases lo with
  | none=>rfl
  | some v=>exact ZiA v n 0
 ·cases hi with
  | none=>rfl
  | some v=>exact ZiA v n n
theorem ZhO(i j:Nat):Builtin.Slice.slicePlaces (i:Int) (j:Int) 1=j-i:=by
 unfold Builtin.Slice.slicePlaces
 have h1:(1:Int)>0:=by omega
 simp only[h1,if_true,Int.ediv_one]
 split<;>omega
theorem ZeR{v:Value}{o:Option Int}{Q:Option Int→Shared→Prop}(p:IsPart v o)(h:Q o s):wpAny (model prog w) A (Builtin.Slice.slicePartIndex v) Q E s:=by
 cases p with
 | none=>exact slicePart_none h
 | int i t=>exact slicePart_int h
theorem Zd7{sl:Addr}{vl vu:Value}{lo hi:Option Int}{n:Nat}{Q:Int×Int×Nat→Shared→Prop}(hs:s.heap.IsSliceOf sl vl vu .none)(pl:IsPart vl lo)(pu:IsPart vu hi)
  (h:Q (((sIx n 0 lo:Nat):Int),1,sIx n n hi-sIx n 0 lo) s):wpAny (model prog w) A (Builtin.Slice.sliceApplied (.ref sl) (pure (n:Int))) Q E s:=by
 obtain⟨os,hos,hcs,hds⟩:=id hs
 unfold Builtin.Slice.sliceApplied Builtin.Slice.sliceFields
 refine wpAny_bind (wpAny_bind (wpAny_field hos hds (x:=vl) rfl (wpAny_bind (wpAny_field hos hds (x:=vu) rfl (wpAny_bind (wpAny_field hos hds (x:=.none) rfl (wpAny_pure ?_)))))))
 refine wpAny_bind (slicePart_none ?_)
 show wpAny _ _ (if ((1:Int) == 0)=true then _ else _) _ _ s
 rw[if_neg (by decide)]
 refine wpAny_bind (ZeR pl (wpAny_bind (ZeR pu (wpAny_bind (wpAny_pure ?_)))))
 show wpAny _ _ (match Builtin.Slice.sliceAdjust lo hi 1 (n:Int) with|(lo,hi)=>pure (lo,(1:Int),Builtin.Slice.slicePlaces lo hi 1)) _ _ s
 rw[Zh5 lo hi n]
 show wpAny _ _ (pure (((sIx n 0 lo:Nat):Int),(1:Int),Builtin.Slice.slicePlaces ((sIx n 0 lo:Nat):Int) ((sIx n n hi:Nat):Int) 1)) _ _ s
 rw[ZhO]
 exact wpAny_pure h
theorem Zld(xs:Array Value)(i k:Nat):((List.range k).filterMap fun (m:Nat)=>xs[((i:Int)+(m:Int)*1).toNat]?).toArray=((xs.toList.drop i).take k).toArray:=by
 have e:(fun (m:Nat)=>xs[((i:Int)+(m:Int)*1).toNat]?)=fun m=>xs[i+m]?:=by
  funext m
  have:((i:Int)+(m:Int)*1).toNat=i+m:=by omega
  rw[this]
 rw[e]
 have:=pick_run xs i k
 rw[List.filterMap_map]at this
 have e2:((fun x=>xs[x]?) ∘ fun x=>i+x)=fun m=>xs[i+m]?:=rfl
 rw[e2]at this
 rw[this]
theorem getItem_tuple_cut{t sl:Addr}{items:Array Value}{vl vu:Value}{lo hi:Option Int}{Q:Value→Shared→Prop}(ht:IsTup s.heap t items)(hs:s.heap.IsSliceOf sl vl vu .none)(pl:IsPart vl lo)(pu:IsPart vu hi)
  (hw:¬ (sIx items.size 0 lo=0∧sIx items.size items.size hi=items.size))
  (h:Q (.ref s.heap.objs.size) { s with heap:=s.heap.push { cls:=.type "tuple",data:=.seq ((items.toList.drop (sIx items.size 0 lo)).take (sIx items.size items.size hi-sIx items.size 0 lo)).toArray } })
  (hsz:items.size≤sizeLine):wpAny (model prog w) A (getItem (.ref t) (.ref sl)) Q E s:=by
 have htake:sizeOk (.seq ((items.toList.drop (sIx items.size 0 lo)).take (sIx items.size items.size hi-sIx items.size 0 lo)).toArray):=by
  show ((items.toList.drop (sIx items.size 0 lo)).take (sIx items.size items.size hi-sIx items.size 0 lo)).toArray.size≤sizeLine
  rw[Qv,Qw,QL,Q9]
  omega
 have hj:sIx items.size items.size hi≤items.size:=Zn7 _ _ (Qd _) hi
 obtain⟨os,hos,hcs,hds⟩:=id hs
 have hTs:s.TypeIs (.ref sl) "slice":=⟨os,hos,hcs⟩
 unfold getItem
 try with_reducible refine wpAny_holding ?_
 first|refine wpAny_bind (wpAny_pure ?_)|skip
 refine wpAny_bind (wpAny_sequenceKey ht.typeIs (by decide) ?_)
 refine wpAny_bind (wpAny_callSpecial?_slot (name:=Str.ofString "__getitem__") ht.typeIs PyProof.Rows.slot_tuple_getitem
  (wpAny_call_entry PyProof.Rows.slot_tuple_getitem ht.typeIs entry_tuple_getitem ?_ (args_tuple_getitem _ _)))
 show wpAny _ _ (Builtin.Tuple.tupleItemsOf (.ref t) >>= _) _ _ s
 refine wpAny_bind (tupleItemsOf_ ht ?_)
 refine wpAny_bind (wpAny_typeOf hTs ?_)
 rw[if_pos (by decide)]
 refine wpAny_bind (Zd7 hs pl pu ?_)
 have hno:¬ ((((sIx items.size 0 lo:Nat):Int) == 0&&(1:Int) == 1&&(sIx items.size items.size hi-sIx items.size 0 lo) == items.size)=true):=by
  intro q
  rw[Q5,Q5]at q
  have q1:((sIx items.size 0 lo:Nat):Int)=0:=eq_of_beq q.1.1
  have q2:sIx items.size items.size hi-sIx items.size 0 lo=items.size:=eq_of_beq q.2
  exact hw ⟨by omega,by omega⟩
 show wpAny _ _ (if (((sIx items.size 0 lo:Nat):Int) == 0&&(1:Int) == 1&&(sIx items.size items.size hi-sIx items.size 0 lo) == items.size)=true then _ else _) _ _ s
 rw[if_neg hno,Zld]
 first
  | exact wpAny_bind (m:=Builtin.Tuple.tupleExact _) (wpAny_newObj_type (wpAny_pure ⟨_,rfl,wpAny_pure h⟩) htake)
  | exact wpAny_bind (m:=Builtin.Tuple.tupleExact _) (wpAny_newObj_type (wpAny_bind (wpAny_pure (wpAny_pure ⟨_,rfl,wpAny_pure h⟩))) htake)
  | exact wpAny_bind (wpAny_bind (m:=Builtin.Tuple.tupleExact _) (wpAny_newObj_type (wpAny_pure (wpAny_pure ⟨_,rfl,wpAny_pure h⟩)) htake))
  | exact wpAny_bind (wpAny_bind (m:=Builtin.Tuple.tupleExact _) (wpAny_newObj_type (wpAny_pure ⟨_,rfl,wpAny_pure h⟩) htake))
end
end HT
namespace L2
open PySem PySem.Spec PyProof.Rows
abbrev TO:=St→Hp→(Option Int→Hp→Prop)→Prop
def PO(X:Cx)(e:Option Expr)(t:TO):Prop :=
 ∀ (pins:List (Addr×Obj)) (s:Shared) (σ:St) (H:Hp) (Q:Option Int→Hp→Prop),Inv X pins σ H s→t σ H Q →
  wpAny (model X.prog X.w) X.A (evalPart e X.env) (fun u s'=>∃o H',Inv X pins σ H' s'∧IsPart u o∧Q o H') X.xe s
def Zmi:TO:=fun _ H Q=>Q none H
def ZoY(t:TE):TO:=fun σ H Q=>t σ H fun x H1=>∃i,x=.int i∧Q (some i) H1
theorem Zh7{ns:List Int}:∀ {us:List Value},ZB (ns.map V.int) us→IntsAre us ns:=by
 induction ns with
 | nil=>intro us r;rw[List.map_nil]at r;cases r;exact .nil
 | cons n ns ih =>
  intro us r
  rw[Qg]at r
  cases r with
  | cons r1 r2 =>
   obtain⟨t,e⟩:=r1
   subst e
   exact .cons n t (ih r2)
section
variable {X:Cx} {e:Expr} {te:TE} {lo hi:Option Expr} {tl th:TO} {pos p2:Pos}
theorem ZbS:PO X none Zmi:=by
 intro pins s σ H Q I h
 rw[evalPart_none]
 exact wpAny_pure ⟨none,H,I,.none,h⟩
theorem Zcm(h:PE X e te):PO X (some e) (ZoY te):=by
 intro pins s σ H Q I hw
 rw[evalPart_some]
 refine thn (h pins s σ H _ I hw) fun u s1 ⟨x,H1,I1,r1,q1⟩=>?_
 obtain⟨i,rfl,q⟩:=q1
 obtain⟨t,rfl⟩:=r1
 exact⟨some i,H1,I1,.int i t,q⟩
def SlR(X:Cx)(r:V→Option Int→Option Int→Hp→VK→Prop):Prop :=
 ∀ (pins:List (Addr×Obj)) (s:Shared) (σ:St) (H:Hp) (x:V) (v vl vu:Value) (lo hi:Option Int) (sl:Addr) (Q:VK),Inv X pins σ H s→ZA x v→s.heap.IsSliceOf sl vl vu .none→IsPart vl lo→IsPart vu hi→r x lo hi H Q →
  ∃T id,typeLookup (.type T) "__getitem__" = pure (some (.builtin id))∧s.TypeIs v T∧wpAny (model X.prog X.w) X.A (getItem v (.ref sl)) (EP X pins σ Q) X.xe s
def tSl(r:V→Option Int→Option Int→Hp→VK→Prop)(te:TE)(tl th:TO):TE:=fun σ H Q=>te σ H fun x H1=>tl σ H1 fun l H2=>th σ H2 fun u H3=>r x l u H3 Q
theorem Zcg{r:V→Option Int→Option Int→Hp→VK→Prop}(hr:SlR X r)(he:PE X e te)(hl:PO X lo tl)(hu:PO X hi th):PE X (.Subscript e (.Slice lo hi none p2) pos) (tSl r te tl th):=by
 intro pins s σ H Q I h
 refine Subscript_ (thn (he pins s σ H _ I h) fun v s1 ⟨x,H1,I1,r1,q1⟩=>?_)
 refine wpAny_Slice (thn (hl pins s1 σ H1 _ I1 q1) fun vl s2 ⟨l,H2,I2,pl,q2⟩=>thn (hu pins s2 σ H2 _ I2 q2) fun vu s3 ⟨u,H3,I3,pu,q3⟩=>?_)
 rw[evalPart_none]
 refine wpAny_pure ?_
 have I4:Inv X pins σ H3 { s3 with heap:=s3.heap.push { cls:=.type "slice",data:=.fields #[vl,vu,.none] } }:=I3.kept (t':=s3.toks) fun b ob q=>Qc _ q
 obtain⟨T,id,hT,ht,hg⟩:=hr pins { s3 with heap:=s3.heap.push { cls:=.type "slice",data:=.fields #[vl,vu,.none] } } σ H3 x v vl vu l u s3.heap.objs.size Q I4 r1 (Heap.IsSliceOf.new ..) pl pu q3
 show wpAny (model X.prog X.w) X.A (subscriptTail e (.Slice lo hi none p2) v (.ref s3.heap.objs.size)) (EP X pins σ Q) X.xe { s3 with heap:=s3.heap.push { cls:=.type "slice",data:=.fields #[vl,vu,.none] } }
 exact tail_any (ops:=[.ref s3.heap.objs.size,v]) ht hT hg (by with_unfolding_all rfl)
def ZcW(xs:List V)(lo hi:Option Int):List V:=(xs.drop (HT.sIx xs.length 0 lo)).take (HT.sIx xs.length xs.length hi-HT.sIx xs.length 0 lo)
theorem ZcC(xs:List V)(lo hi:Option Int):(ZcW xs lo hi).length≤xs.length:=by
 unfold ZcW
 rw[Qw,QL]
 omega
def Zom(K:PySem.W.Frag):V→Option Int→Option Int→Hp→VK→Prop:=fun x lo hi H Q=>∃a xs,x=.ref a∧SqT K H a xs ∧
 ¬ (HT.sIx xs.length 0 lo=0∧HT.sIx xs.length xs.length hi=xs.length)∧∀p,H p=none→Q (.ref p) (upd H p (.tup (ZcW xs lo hi)))
theorem Zny:SlR X (Zom X.K):=by
 intro pins s σ H x v vl vu lo hi sl Q I rx hs pl pu h
 obtain⟨a,xs,rfl,hx,hw,q⟩:=h
 cases rx
 obtain⟨its,r,ht,hz⟩:=I.tuple hx
 have hlen:its.toArray.size=xs.length:=by rw[Qv];exact r.length.symm
 refine⟨"tuple",_,PyProof.Rows.slot_tuple_getitem.lookup,ht.typeIs,?_⟩
 refine HT.getItem_tuple_cut ht hs pl pu (by rw[hlen];exact hw) ?_ (by rw[hlen];exact hz)
 rw[hlen]
 refine⟨.ref s.heap.objs.size,_,I.laid (t':=s.toks) (o:=.tup (ZcW xs lo hi)) (fun b ob q=>Qc _ q) (Qd _) ?_,rfl,q _ (I.hok.fresh (Qd _))⟩
 exact⟨QG (ZcC xs lo hi) hz,_,(r.drop (HT.sIx xs.length 0 lo)).take (HT.sIx xs.length xs.length hi-HT.sIx xs.length 0 lo),IsTup.new _ _⟩
def rLtT(K:PySem.W.Frag):R2:=fun x y H Q=>∃a b ns ms,x=.ref a∧y=.ref b∧SqT K H a (ns.map V.int)∧SqT K H b (ms.map V.int)∧Q (.bl (HT.lexLt ns ms)) H
def rCatT(K:PySem.W.Frag):R2:=fun x y H Q=>∃a b xs ys,x=.ref a∧y=.ref b∧SqT K H a xs∧SqT K H b ys∧xs≠[]∧xs.length+ys.length≤sizeLine ∧
 (ys=[]→Q (.ref a) H)∧(ys≠[]→∀p,H p=none→Q (.ref p) (upd H p (.tup (xs++ys))))
end
def ixN(n:Nat)(i:Int):Option Nat:=if 0≤i then (if i<n then some i.toNat else none) else if -(n:Int)≤i then some (i+n).toNat else none
def atI{α:Type}(xs:List α)(i:Int):Option α:=(ixN xs.length i).bind fun j=>xs[j]?
theorem ZiJ{n:Nat}{i:Int}{j:Nat}(h:ixN n i=some j):seqIndex? i n=some j∧j<n ∧ -(n:Int)≤i∧i<n:=by
 unfold ixN at h
 by_cases h0:0≤i
 ·rw[if_pos h0]at h
  by_cases h1:i<n
  ·rw[if_pos h1]at h
   have e:i.toNat=j:=Qh h
   exact⟨by rw[seqIndex_of h0 h1,e],by omega,by omega,h1⟩
  ·rw[if_neg h1]at h;cases h
 ·rw[if_neg h0]at h
  by_cases h1:-(n:Int)≤i
  ·rw[if_pos h1]at h
   have e:(i+n).toNat=j:=Qh h
   exact⟨by rw[seqIndex_neg (by omega) h1,e],by omega,h1,by omega⟩
  ·rw[if_neg h1]at h;cases h
theorem ZgC{α:Type}{xs:List α}{i:Int}{v:α}(h:atI xs i=some v):∃j,seqIndex? i xs.length=some j∧xs[j]? = some v∧j<xs.length ∧ -(xs.length:Int)≤i∧i<xs.length:=by
 unfold atI at h
 cases e:ixN xs.length i with
 | none=>rw[e]at h;cases h
 | some j =>
  rw[e]at h
  obtain⟨h1,h2,h3,h4⟩:=ZiJ e
  exact⟨j,h1,h,h2,h3,h4⟩
theorem Zaz{α:Type}{xs:List α}{j:Nat}{v:α}(h:xs[j]? = some v):atI xs (j:Int)=some v:=by
 have hj:j<xs.length:=(Qf.mp h).1
 have e:ixN xs.length (j:Int)=some j:=by
  unfold ixN
  rw[if_pos (by omega),if_pos (by omega)];simp
 unfold atI;rw[e];exact h
theorem ZlB{α:Type}(xs:List α)(v:α):atI (xs++[v]) (-1)=some v:=by
 have hl:(xs++[v]).length=xs.length+1:=by simp
 have e:ixN (xs++[v]).length (-1)=some xs.length:=by
  unfold ixN
  rw[hl,if_neg (by decide),if_pos (by omega)]
  congr 1
  omega
 unfold atI
 rw[e]
 show (xs++[v])[xs.length]? = some v
 simp
def ZlF(b:Expr):Prop:=∀o i,subscripted b false o i=operate [o,i] (getItem o i)
def IxR(X:Cx)(r:R2):Prop :=
 ∀ (value slice:Expr) (pins:List (Addr×Obj)) (s:Shared) (σ:St) (H:Hp) (x y:V) (v u:Value) (Q:VK),Inv X pins σ H s→ZA x v→ZA y u→r x y H Q →
  subscripted slice false v u=operate [v,u] (getItem v u)→wpAny (model X.prog X.w) X.A (subscriptTail value slice v u) (EP X pins σ Q) X.xe s
def MtR(X:Cx)(id:String)(r:V→List V→Hp→VK→Prop):Prop :=
 ∀ (pins:List (Addr×Obj)) (s:Shared) (σ:St) (H:Hp) (x:V) (xs:List V) (v:Value) (us:List Value) (Q:VK),Inv X pins σ H s→ZA x v→ZB xs us→r x xs H Q →
  wpAny (model X.prog X.w) X.A (call (.builtin id) (v::us)) (EP X pins σ Q) X.xe s
section
variable {X:Cx} {a b:Expr} {ta tb:TE} {pos:Pos}
theorem ZN{r:R2}(hr:IxR X r)(ha:PE X a ta)(hb:PE X b tb)(hs:ZlF b):PE X (.Subscript a b pos) (tOp r ta tb):=by
 intro pins s σ H Q I h
 exact Subscript_ (Zn0 ha hb I h fun v u s2 x y H2 I2 rx ry q=>hr a b pins s2 σ H2 x y v u Q I2 rx ry q (hs _ _))
def Zn3(K:PySem.W.Frag):R2:=fun x y H Q=>∃p xs i v,x=.ref p∧y=.int i∧SqL K H p xs∧atI xs i=some v∧Q v H
def ZnO(K:PySem.W.Frag):R2:=fun x y H Q=>∃p xs i v,x=.ref p∧y=.int i∧SqT K H p xs∧atI xs i=some v∧Q v H
def Zoh:R2:=fun x y H Q=>∃z i c,x=.str z∧y=.int i∧z.length≤sizeLine∧atI z.cps.toList i=some c∧Q (.str ⟨#[c]⟩) H
theorem ZmJ:IxR X (Zn3 X.K):=by
 intro value slice pins s σ H x y v u Q I rx ry h hs
 obtain⟨p,xs,i,z,rfl,rfl,hq,he,q⟩:=h
 cases rx
 obtain⟨t,rfl⟩:=ry
 obtain⟨its,r,pl,hz⟩:=I.list hq
 obtain⟨j,h1,h2,h3,h4,h5⟩:=ZgC he
 obtain⟨w,ew,rw'⟩:=r.get h2
 have hl:=r.length
 have hn:=Zd2
 have fin:EP X pins σ Q w s:=⟨z,H,I,rw',q⟩
 by_cases h0:0≤i
 ·have hj:i.toNat=j:=by
   rw[seqIndex_of h0 h5]at h1
   exact Qh h1
  exact item_listR pl.isList h0 (by omega) (by rw[hj];simpa using ew) fin hs
 ·have hj:(i+(its.toArray.size:Int)).toNat=j:=by
   rw[seqIndex_neg (by omega) h4]at h1
   rw[Qv,← hl]
   exact Qh h1
  exact subscriptTail_builtinR (x:=w) pl.isList.typeIs slot_list_getitem.lookup
   (wpAny_getItem_list_neg (Q:=fun r s'=>r=w∧EP X pins σ Q r s') pl.isList (by omega) (by rw[Qv]<;>omega) (by omega) (by rw[hj];simpa using ew) ⟨rfl,fin⟩) hs
theorem Znb:IxR X (ZnO X.K):=by
 intro value slice pins s σ H x y v u Q I rx ry h hs
 obtain⟨p,xs,i,z,rfl,rfl,hq,he,q⟩:=h
 cases rx
 obtain⟨t,rfl⟩:=ry
 obtain⟨its,r,pl,hz⟩:=I.tuple hq
 obtain⟨j,h1,h2,h3,h4,h5⟩:=ZgC he
 obtain⟨w,ew,rw'⟩:=r.get h2
 have hl:=r.length
 have hn:=Zd2
 have fin:EP X pins σ Q w s:=⟨z,H,I,rw',q⟩
 exact subscriptTail_builtinR (x:=w) pl.typeIs slot_tuple_getitem.lookup
  (getItem_tuple (j:=j) (Q:=fun r s'=>r=w∧EP X pins σ Q r s') pl (by omega) (by omega) (by rw[Qv,← hl];exact h1) (by simpa using ew) ⟨rfl,fin⟩) hs
theorem Ze8:IxR X Zoh:=by
 intro value slice pins s σ H x y v u Q I rx ry h hs
 obtain⟨z,i,c,rfl,rfl,hz,he,q⟩:=h
 obtain⟨t,rfl⟩:=rx
 obtain⟨t',rfl⟩:=ry
 obtain⟨j,h1,h2,h3,h4,h5⟩:=ZgC he
 have hl:z.cps.toList.length=z.length:=by simp[Str.length]
 rw[hl]at h1 h4 h5
 have hn:=Zd2
 exact tail_any (typeIs_str s z t) slot_str_getitem.lookup (getItem_str (c:=c) (by
  have e1:decide (i < -(2 ^ 63:Int))=false:=decide_eq_false (by omega)
  have e2:decide (i≥2 ^ 63)=false:=decide_eq_false (by omega)
  rw[e1,e2,Bool.or_false]) (by rw[h1];simpa using h2) ⟨.str ⟨#[c]⟩,H,I.tok _,⟨_,rfl⟩,q⟩) hs
def rIx(K:PySem.W.Frag):R2:=fun x y H Q=>Zn3 K x y H Q∨ZnO K x y H Q∨Zoh x y H Q
theorem Zie(its:List Value)(n j:Nat)(u:Value):Obj.mapSeq (·.setIfInBounds j u) { cls:=.type "list",data:=.seq its.toArray n }={ cls:=.type "list",data:=.seq (its.set j u).toArray n }:=by
 simp[Obj.mapSeq]
theorem Inv.lst{pins:List (Addr×Obj)}{σ:St}{H:Hp}{s:Shared}{p:Addr}{xs:List V}(I:Inv X pins σ H s)(h:H p=some (.lst xs)) :
  ∃ (its:List Value) (n:Nat),ZB xs its∧s.heap.get? p=some { cls:=.type "list",data:=.seq its.toArray n }∧xs.length≤sizeLine:=by
 obtain⟨z,its,n,r,e⟩:=I.hok p _ h
 exact⟨its,n,r,e,z⟩
theorem Inv.lstUpd{pins:List (Addr×Obj)}{σ:St}{H:Hp}{s:Shared}{p:Addr}{xs ys:List V}{its its':List Value}{n n':Nat}{f:Obj→Obj}(I:Inv X pins σ H s)(h:H p=some (.lst xs))
  (ho:s.heap.get? p=some { cls:=.type "list",data:=.seq its.toArray n }) (hf:f { cls:=.type "list",data:=.seq its.toArray n }={ cls:=.type "list",data:=.seq its'.toArray n' }) (r:ZB ys its') (hz:ys.length≤sizeLine) (t:Nat) :
  Inv X pins σ (upd H p (.lst ys)) { s with heap:=s.heap.update p f,toks:=t }:=by
 have e:(s.heap.update p f).get? p=some { cls:=.type "list",data:=.seq its'.toArray n' }:=by
  rw[Heap.get?_update_self f ho (by rw[hf]<;>rfl),hf]
 refine I.write (x:=p) (e:=p) (by rw[h];trivial) (.inl rfl) (fun b u hb q=>(Heap.get?_update_other _ _ (Ne.symm hb)).trans q) ⟨_,e⟩ ?_
 exact⟨hz,its',n',r,e⟩
def Zo4:V→V→V→Hp→(Hp→Prop)→Prop:=fun o i v H Q=>∃p xs k j,o=.ref p∧i=.int k∧H p=some (.lst xs)∧ixN xs.length k=some j∧Q (upd H p (.lst (xs.set j v)))
theorem ZgP:Znh X Zo4:=by
 intro pins s σ H o i v ov iv u Q I ro ri rv h
 obtain⟨p,xs,k,j,rfl,rfl,hp,hj,q⟩:=h
 cases ro
 obtain⟨t,rfl⟩:=ri
 obtain⟨its,n,r,ho,hz⟩:=I.lst hp
 obtain⟨h1,h2,h3,h4⟩:=ZiJ hj
 have hl:=r.length
 have hn:=Zd2
 have I':Inv X pins σ (upd H p (.lst (xs.set j v))) { s with heap:=s.heap.update p (Obj.mapSeq (·.setIfInBounds j u)) } :=
  I.lstUpd hp ho (Zie its n j u) (r.set rv j) (by rw[List.length_set];exact hz) s.toks
 by_cases h0:0≤k
 ·have hk:k.toNat=j:=by
   rw[seqIndex_of h0 h4]at h1
   exact Qh h1
  exact PySem.W.ki_setAt ho h0 (by omega) (by rw[Qv,← hl];exact h4) (by rw[hk];exact⟨_,I',q⟩)
 ·have hk:(k+(its.toArray.size:Int)).toNat=j:=by
   rw[seqIndex_neg (by omega) h3]at h1
   rw[Qv,← hl]
   exact Qh h1
  exact PySem.W.ki_setBack ho (by omega) (by rw[Qv,← hl];exact h3) (by omega) (by rw[hk];exact⟨_,I',q⟩)
theorem Zgh(lo hi:Option Int)(n:Nat):(sliceBounds lo hi none n).1=((HT.sIx n 0 lo:Nat):Int)∧(sliceBounds lo hi none n).2.1=((HT.sIx n n hi:Nat):Int)∧(sliceBounds lo hi none n).2.2=1:=by
 refine⟨?_,?_,rfl⟩
 ·cases lo with
  | none=>simp[sliceBounds,HT.sIx]
  | some i =>
   simp only[sliceBounds,HT.sIx,Option.getD_none,show (1:Int)>0 by decide,if_true]
   by_cases h:i<0
   ·simp only[h,if_true]<;>omega
   ·simp only[h,if_false]<;>omega
 ·cases hi with
  | none=>simp[sliceBounds,HT.sIx]
  | some i =>
   simp only[sliceBounds,HT.sIx,Option.getD_none,show (1:Int)>0 by decide,if_true]
   by_cases h:i<0
   ·simp only[h,if_true]<;>omega
   ·simp only[h,if_false]<;>omega
theorem Zfs(its:List Value)(lo hi:Option Int):slicePick its.toArray lo hi none=((its.drop (HT.sIx its.length 0 lo)).take (HT.sIx its.length its.length hi-HT.sIx its.length 0 lo)).toArray:=by
 obtain⟨h1,h2,h3⟩:=Zgh lo hi its.toArray.size
 unfold slicePick
 rw[h1,h2,h3]
 simp only[sliceRange_one,pick_run,List.size_toArray]<;>rfl
def ZoO(K:PySem.W.Frag):V→Option Int→Option Int→Hp→VK→Prop:=fun x lo hi H Q=>∃a xs,x=.ref a∧SqL K H a xs∧∀p,H p=none→Q (.ref p) (upd H p (.lst (ZcW xs lo hi)))
theorem ZmC:SlR X (ZoO X.K):=by
 intro pins s σ H x v vl vu lo hi sl Q I rx hs pl pu h
 obtain⟨a,xs,rfl,hx,q⟩:=h
 cases rx
 obtain⟨its,r,ht,hz⟩:=I.list hx
 have hlen:=r.length
 refine⟨"list",_,slot_list_getitem.lookup,ht.isList.typeIs,?_⟩
 refine wpAny_getItem_list_slice ht.isList hs pl pu .none (by simp) ?_ (by rw[Qv]<;>omega)
 rw[Zfs,← hlen]
 refine⟨.ref s.heap.objs.size,_,I.laid (t':=s.toks) (o:=.lst (ZcW xs lo hi)) (fun b ob q=>Qc _ q) (Qd _) ?_,rfl,q _ (I.hok.fresh (Qd _))⟩
 exact⟨QG (ZcC xs lo hi) hz,_,0,(r.drop (HT.sIx xs.length 0 lo)).take (HT.sIx xs.length xs.length hi-HT.sIx xs.length 0 lo),Qn _ rfl⟩
def ZdK:V→Bool
 | .non=>true
 | .bl _=>true
 | .int _=>true
 | .str _=>true
 | _=>false
def eqV:V→V→Bool
 | .non,.non=>true
 | .bl a,.bl b=>a == b
 | .bl a,.int b=>(if a then 1 else 0) == b
 | .int a,.bl b=>a == (if b then 1 else 0)
 | .int a,.int b=>a == b
 | .str a,.str b=>a == b
 | _,_=>false
theorem ZnH{A:Around}{s:Shared}{y x:V}{u v:Value}(ry:ZA y u)(rx:ZA x v)(fy:ZdK y=true)(fx:ZdK x=true):SeqAt.EqAt A s u v (eqV y x):=by
 cases y with
 | non =>
  cases ry
  cases x with
  | non=>cases rx;exact SeqAt.EqAt.same _
  | bl b=>cases rx;exact SeqAt.EqAt.none_bool b
  | int b=>obtain⟨t,rfl⟩:=rx;exact SeqAt.EqAt.none_int b t
  | str b=>obtain⟨t,rfl⟩:=rx;exact SeqAt.EqAt.none_str b t
  | _=>exact absurd (show false=true from fx) Qi
 | bl a =>
  cases ry
  cases x with
  | non=>cases rx;exact SeqAt.EqAt.bool_none a
  | bl b=>cases rx;exact SeqAt.EqAt.bool_bool a b
  | int b=>obtain⟨t,rfl⟩:=rx;exact SeqAt.EqAt.bool_int a b t
  | str b=>obtain⟨t,rfl⟩:=rx;exact SeqAt.EqAt.bool_str a b t
  | _=>exact absurd (show false=true from fx) Qi
 | int a =>
  obtain⟨t',rfl⟩:=ry
  cases x with
  | non=>cases rx;exact SeqAt.EqAt.int_none a t'
  | bl b=>cases rx;exact SeqAt.EqAt.int_bool a t' b
  | int b=>obtain⟨t,rfl⟩:=rx;exact SeqAt.EqAt.int_int a t' b t
  | str b=>obtain⟨t,rfl⟩:=rx;exact SeqAt.EqAt.int_str a t' b t
  | _=>exact absurd (show false=true from fx) Qi
 | str a =>
  obtain⟨t',rfl⟩:=ry
  cases x with
  | non=>cases rx;exact SeqAt.EqAt.str_none a t'
  | bl b=>cases rx;exact SeqAt.EqAt.str_bool a t' b
  | int b=>obtain⟨t,rfl⟩:=rx;exact SeqAt.EqAt.str_int a t' b t
  | str b=>obtain⟨t,rfl⟩:=rx;exact SeqAt.EqAt.str_str a t' b t
  | _=>exact absurd (show false=true from fx) Qi
 | _=>exact absurd (show false=true from fy) Qi
def eqU(x:V)(u:Value):Bool:=match u with
 | .none=>eqV .non x
 | .bool b=>eqV (.bl b) x
 | .int i _=>eqV (.int i) x
 | .str z _=>eqV (.str z) x
 | _=>false
theorem Zkz{x y:V}{u:Value}(r:ZA y u)(f:ZdK y=true):eqU x u=eqV y x:=by
 cases y with
 | non=>cases r;rfl
 | bl b=>cases r;rfl
 | int i=>obtain⟨t,rfl⟩:=r;rfl
 | str z=>obtain⟨t,rfl⟩:=r;rfl
 | _=>exact absurd (show false=true from f) Qi
theorem Zf6{x:V}:∀ {xs:List V} {us:List Value},ZB xs us→xs.all ZdK=true→us.any (eqU x)=xs.any fun y=>eqV y x
 | _,_,.nil,_=>rfl
 | y::xs,u::us,.cons r t,f=>by
  rw[List.all_cons,Q5]at f
  rw[Qap,Qap,Zkz r f.1,Zf6 t f.2]
theorem ZeJ{A:Around}{s:Shared}{x:V}{v:Value}(rx:ZA x v)(fx:ZdK x=true):∀ {xs:List V} {us:List Value},ZB xs us→xs.all ZdK=true→∀u∈us,SeqAt.EqAt A s u v (eqU x u)
 | _,_,.nil,_=>fun u hu=>by cases hu
 | y::xs,u::us,.cons r t,f=>fun u' hu=>by
  rw[List.all_cons,Q5]at f
  rcases QA.mp hu with rfl|hu
  ·rw[Zkz r f.1];exact ZnH r rx f.1 fx
  ·exact ZeJ rx fx t f.2 u' hu
def inV(x:V)(xs:List V):Bool:=xs.any fun y=>eqV y x
def rIn(K:PySem.W.Frag)(neg:Bool):R2:=fun x y H Q=>∃p xs,y=.ref p∧(SqL K H p xs∨SqT K H p xs)∧ZdK x=true∧xs.all ZdK=true∧Q (.bl (if neg then !inV x xs else inV x xs)) H
theorem Zj1:OpR X (compareOp .In) (rIn X.K false):=by
 intro pins s σ H x y v u Q I rx ry h
 obtain⟨p,xs,rfl,hq,fx,fs,q⟩:=h
 cases ry
 rcases hq with hq|hq
 ·obtain⟨its,r,pl,hz⟩:=I.list hq
  refine SeqAt.in_listAt (eqU x) pl.isList (fun w hw=>ZeJ rx fx r fs w (by simpa using hw)) ⟨.bl _,H,I,rfl,?_⟩
  rw[show its.toArray.any (eqU x)=its.any (eqU x) by simp,Zf6 r fs]
  exact q
 ·obtain⟨its,r,pl,hz⟩:=I.tuple hq
  refine SeqAt.in_tupleAt (eqU x) pl (fun w hw=>ZeJ rx fx r fs w (by simpa using hw)) ⟨.bl _,H,I,rfl,?_⟩
  rw[show its.toArray.any (eqU x)=its.any (eqU x) by simp,Zf6 r fs]
  exact q
theorem Zf7:Zay X (.builtin "len") (fun xs H Q=>∃p ys,xs=[.ref p]∧(SqL X.K H p ys∨SqT X.K H p ys)∧Q (.int ys.length) H):=by
 intro pins s σ H xs us Q I r h
 obtain⟨p,ys,rfl,hq,q⟩:=h
 obtain⟨u,rfl,rx⟩:=Zct r
 cases rx
 have hn:=Zd2
 rcases hq with hq|hq
 ·obtain⟨its,r',pl,hz⟩:=I.list hq
  have hlen:=r'.length
  exact Calls.call_len_list pl.isList (by simp only[List.size_toArray]<;>omega) ⟨.int ys.length,H,I.tok _,⟨s.toks+1,by rw[Qv,hlen]⟩,q⟩
 ·obtain⟨its,r',pl,hz⟩:=I.tuple hq
  have hlen:=r'.length
  exact len_tuple pl (by simp only[List.size_toArray]<;>omega) ⟨.int ys.length,H,I.tok _,⟨s.toks+1,by rw[Qv,hlen]⟩,q⟩
theorem ZaO:Zay X (.builtin "len") (fun xs H Q=>∃z,xs=[.str z]∧z.length≤sizeLine∧Q (.int z.length) H):=by
 intro pins s σ H xs us Q I r h
 obtain⟨z,rfl,hz,q⟩:=h
 obtain⟨u,rfl,t,rfl⟩:=Zct r
 have hn:=Zd2
 exact len_str (by omega) ⟨.int z.length,H,I.tok _,⟨_,rfl⟩,q⟩
theorem Zgq:Zay X (.type "list") (fun xs H Q=>∃p ys,xs=[.ref p]∧(SqL X.K H p ys∨SqT X.K H p ys)∧∀l,H l=none→Q (.ref l) (upd H l (.lst ys))):=by
 intro pins s σ H xs us Q I r h
 obtain⟨p,ys,rfl,hq,q⟩:=h
 obtain⟨u,rfl,rx⟩:=Zct r
 cases rx
 have fin:∀ (its:List Value),ZB ys its→ys.length≤sizeLine→∀ (h':Heap) (c':Nat),(∀b o',s.heap.get? b=some o'→h'.get? b=some o') →
   h'.get? s.heap.objs.size=some { cls:=.type "list",dict:=none,data:=.seq its.toArray c',slots:=#[] }→EP X pins σ Q (.ref s.heap.objs.size) { s with heap:=h' }:=fun its r' hz h' c' kp e =>
  ⟨.ref s.heap.objs.size,_,I.laid (t':=s.toks) kp (Qd _) (show Z1 X.prog X.w _ h' _ (.lst ys) from⟨hz,its,c',r',e⟩),rfl,q _ (I.hok.fresh (Qd _))⟩
 rcases hq with hq|hq
 ·obtain⟨its,r',pl,hz⟩:=I.list hq
  have hlen:=r'.length
  obtain⟨o,ho,hc,n,hd⟩:=pl.isList
  exact call_list_seq p (.inl rfl) ho hc hd (fun h' c' kp e=>fin its r' hz h' c' kp e) (by simp only[List.size_toArray]<;>omega)
 ·obtain⟨its,r',pl,hz⟩:=I.tuple hq
  have hlen:=r'.length
  obtain⟨o,ho,hc,n,hd⟩:=pl
  exact call_list_seq p (.inr rfl) ho hc hd (fun h' c' kp e=>fin its r' hz h' c' kp e) (by simp only[List.size_toArray]<;>omega)
def tyV(K:PySem.W.Frag)(T:String)(x:V)(H:Hp):Prop:=match x with
 | .str _=>T = "str"
 | .int _=>T = "int"
 | .ref p=>(T = "list"∧∃xs,SqL K H p xs)∨(T = "tuple"∧∃o,K.lookup p=some o∧o.cls=.type "tuple"∧o.dict=none) ∨
   (T = "dict"∧((∃kvs,H p=some (.dK kvs))∨∃kvs,H p=some (.dT kvs)))∨(T = "set"∧∃S n,H p=some (.set S n))
 | _=>False
theorem Zla{pins:List (Addr×Obj)}{σ:St}{H:Hp}{s:Shared}{T:String}{x:V}{v:Value}(I:Inv X pins σ H s)(r:ZA x v)(ty:tyV X.K T x H) :
  s.TypeIs v T∧∀a,v=.ref a→∃ob,s.heap.get? a=some ob∧ob.dict=none:=by
 cases x with
 | str z =>
  obtain⟨t,rfl⟩:=r
  cases (show T = "str" from ty)
  exact⟨typeIs_str s z t,fun _ e=>nomatch e⟩
 | int i =>
  obtain⟨t,rfl⟩:=r
  cases (show T = "int" from ty)
  exact⟨typeIs_int s i t,fun _ e=>nomatch e⟩
 | ref p =>
  cases r
  rcases ty with⟨rfl,xs,hq⟩|⟨rfl,o,hk,hc,hd⟩|⟨rfl,hk⟩|⟨rfl,S,n,hk⟩
  ·obtain⟨its,_,pl,_⟩:=I.list hq
   refine⟨pl.isList.typeIs,fun a e=>?_⟩
   cases e
   obtain⟨o,n,e,c,hd,_⟩:=pl
   exact⟨o,e,hd⟩
  ·refine⟨⟨o,I.kIn p o hk,hc⟩,fun a e=>?_⟩
   cases e
   exact⟨o,I.kIn _ o hk,hd⟩
  ·have z:∃o,s.heap.get? p=some o∧o.ExactDict:=by
    rcases hk with⟨kvs,hk⟩|⟨kvs,hk⟩
    ·obtain⟨_,_,_,_,o,_,_,e,ex,_⟩:=I.hok p _ hk
     exact⟨o,e,ex⟩
    ·obtain⟨_,_,_,_,o,_,_,e,ex,_⟩:=I.hok p _ hk
     exact⟨o,e,ex⟩
   obtain⟨o,e,ex⟩:=z
   refine⟨⟨o,e,ex.1⟩,fun a e2=>?_⟩
   cases e2
   exact⟨o,e,ex.2.1⟩
  ·obtain⟨o,_,_,_,e,ex,_⟩:=I.hok p _ hk
   refine⟨⟨o,e,ex.1⟩,fun a e2=>?_⟩
   cases e2
   exact⟨o,e,ex.2.1⟩
 | _=>exact False.elim ty
def Zpn(K:PySem.W.Frag)(T:String)(r:V→List V→Hp→VK→Prop)(to:TE):TE:=fun σ H Q=>to σ H fun x H1=>tyV K T x H1∧r x [] H1 Q
def tBM(K:PySem.W.Frag)(T:String)(r:V→List V→Hp→VK→Prop)(to:TE)(t:TA):TE:=fun σ H Q=>to σ H fun x H1=>tyV K T x H1∧t σ H1 fun xs H2=>r x xs H2 Q
variable {o e:Expr} {es:List Expr} {to:TE} {t:TA} {name:Str} {apos cpos:Pos} {T id:String} {r:V→List V→Hp→VK→Prop}
theorem ZnZ(pa:PlainAttrs T)(slot:Slot T name id)(hty:typeOf (.builtin id)=pure (.type "method_descriptor"))(hm:MtR X id r)(ho:PE X o to)
  (hbase:attributeBase o name X.env (eval o X.env)=eval o X.env:=by rfl) (hline:(apos.endLine == cpos.line)=true:=by rfl):PE X (.Call (.Attribute o name apos) [] [] cpos) (Zpn X.K T r to):=by
 intro pins s σ H Q I h
 refine wpAny_Call_method0_late hbase hline (thn (ho pins s σ H _ I h) fun v s1 ⟨x,H1,I1,r1,ty,q1⟩=>?_)
 obtain⟨h1,h2⟩:=Zla I1 r1 ty
 exact⟨T,id,pa,slot,hty,h1,h2,Calls.callWith_builtin rfl (PySem.evalArgs_none (hm pins s1 σ H1 x [] v [] Q I1 r1 .nil q1))⟩
theorem Zdm(pa:PlainAttrs T)(slot:Slot T name id)(hty:typeOf (.builtin id)=pure (.type "method_descriptor"))(hm:MtR X id r)(ho:PE X o to)(ha:PA X (e::es) t)
  (hbase:attributeBase o name X.env (eval o X.env)=eval o X.env:=by rfl)
  (hfew:((backTo cpos (starEach (e::es) X.env)).all (fun x=>!x.1)&&(backToKw cpos (keywordEach [] X.env)).all (fun x=>x.1.isSome)
   && decide ((e::es).length+([]:List Keyword).length+(if ([]:List Keyword).isEmpty then 0 else 1)<30))=true:=by rfl)
  (hline:(apos.endLine == cpos.line)=true:=by rfl) (hs:starEach (e::es) X.env=(false,eval e X.env)::starEach es X.env:=by rfl) (hplain:(backTo cpos (starEach es X.env)).any (·.1)=false:=by rfl) :
  PE X (.Call (.Attribute o name apos) (e::es) [] cpos) (tBM X.K T r to t):=by
 intro pins s σ H Q I h
 refine wpAny_Call_method_late hbase hfew hline rfl (thn (ho pins s σ H _ I h) fun v s1 ⟨x,H1,I1,r1,ty,q1⟩=>?_)
 obtain⟨h1,h2⟩:=Zla I1 r1 ty
 refine⟨T,id,pa,slot,hty,h1,h2,?_⟩
 have hA:=ha cpos pins s1 σ H1 _ I1 q1
 rw[hs]at hA ⊢
 refine Calls.callWith_builtin (by show (false||(backTo cpos (starEach es X.env)).any (·.1))=false;rw[hplain]<;>rfl) (Calls.evalArgs_plain ?_)
 exact thn hA fun us s2 ⟨vs,H2,I2,r2,q2⟩=>hm pins s2 σ H2 x vs v us Q I2 r1 r2 q2
end
def MtM(X:Cx)(id:String)(r:V→List V→Hp→VK→Prop):Prop :=
 ∀ (pins:List (Addr×Obj)) (s:Shared) (σ:St) (H:Hp) (x:V) (xs:List V) (v:Value) (us:List Value) (Q:VK),Inv X pins σ H s→ZA x v→ZB xs us→r x xs H Q →
  wpAny (model X.prog X.w) X.A (call (.builtin id) (v::us)) (EP X pins σ Q) X.xe s
theorem ZB.one:∀ {x:V} {us:List Value},ZB [x] us→∃u,us=[u]∧ZA x u
 | _,_,.cons r .nil=>⟨_,rfl,r⟩
theorem ZB.two:∀ {x y:V} {us:List Value},ZB [x,y] us→∃u v,us=[u,v]∧ZA x u∧ZA y v
 | _,_,_,.cons r (.cons q .nil)=>⟨_,_,rfl,r,q⟩
theorem ZB.zero:∀ {us:List Value},ZB [] us→us=[]
 | _,.nil=>rfl
theorem ZB.reverse{xs:List V}{us:List Value}(h:ZB xs us):ZB xs.reverse us.reverse:=by
 induction h with
 | nil=>exact .nil
 | cons r t ih=>rw[Qai,Qai];exact ZB.append ih (.cons r .nil)
section
variable {X:Cx} {pins:List (Addr×Obj)} {σ:St} {H:Hp} {s:Shared} {l b:Addr} {xs ys zs:List V}
theorem Inv.lset{its its':List Value}{n:Nat}{f:Array Value→Array Value}{t':Nat}(I:Inv X pins σ H s)(hH:H l=some (.lst xs))
  (e:s.heap.get? l=some { cls:=.type "list",data:=.seq its.toArray n }) (hf:f its.toArray=its'.toArray) (hv:ZB ys its') (hz:ys.length≤sizeLine) :
  Inv X pins σ (upd H l (.lst ys)) { s with heap:=s.heap.update l (Obj.mapSeq f),toks:=t' }:=by
 have q:=PySem.IsL.update e f
 rw[hf]at q
 refine I.write (x:=l) (e:=l) (by rw[hH];exact trivial) (.inl rfl) (fun b' u hb hu=>(Heap.get?_update_other s.heap (Obj.mapSeq f) (Ne.symm hb)).trans hu) ⟨_,q⟩ ?_
 exact⟨hz,its',_,hv,q⟩
theorem Inv.lnew{its:List Value}{t':Nat}(I:Inv X pins σ H s)(hv:ZB ys its)(hz:ys.length≤sizeLine) :
  Inv X pins σ (upd H s.heap.objs.size (.lst ys)) { s with heap:=s.heap.push { cls:=.type "list",data:=.seq its.toArray },toks:=t' } :=
 I.laid (fun _ _ q=>Qc _ q) (Qd _) ⟨hz,its,0,hv,Qn _ rfl⟩
theorem Inv.fresh(I:Inv X pins σ H s):H s.heap.objs.size=none:=I.hok.fresh (Qd _)
theorem Inv.lstM(I:Inv X pins σ H s)(hH:H l=some (.lst xs)):xs.length≤sizeLine∧∃ (its:List Value) (n:Nat),ZB xs its∧xs.length=its.length∧s.heap.get? l=some { cls:=.type "list",data:=.seq its.toArray n }:=by
 obtain⟨z,its,n,r,e⟩:=I.hok l _ hH
 exact⟨z,its,n,r,r.length,e⟩
theorem Zlb{n:Nat}(h:n≤sizeLine):Builtin.List.listTooLong n=false:=by
 unfold Builtin.List.listTooLong
 exact decide_eq_false (by omega)
end
section
variable {X:Cx}
def ZlS:V→List V→Hp→VK→Prop:=fun x vs H Q=>∃l xs y,x=.ref l∧vs=[y]∧H l=some (.lst xs)∧xs.length<sizeLine∧Q .non (upd H l (.lst (xs++[y])))
theorem ZaZ:MtM X "list.append" ZlS:=by
 intro pins s σ H x vs v us Q I rx rv h
 obtain⟨l,xs,y,rfl,rfl,hH,hz,q⟩:=h
 cases rx
 obtain⟨u,rfl,ru⟩:=rv.one
 obtain⟨z,its,n,r,hl,e⟩:=I.lstM hH
 refine call_meets F.slot_list_append ⟨_,e,rfl⟩ F.entry_list_append (F.args_list_append_2 _ _) (PySem.list_append l its.toArray n u (by rw[Qv];omega)) ⟨e,?_⟩
 refine⟨.non,_,I.lset (its':=its++[u]) hH e (by simp) (r.append (.cons ru .nil)) ?_,rfl,q⟩
 rw[Qp,Qz]
 omega
def ZmA:V→List V→Hp→VK→Prop:=fun x vs H Q=>∃l b xs zs,x=.ref l∧vs=[.ref b]∧H l=some (.lst xs)∧H b=some (.lst zs)∧xs.length+zs.length≤sizeLine∧Q .non (upd H l (.lst (xs++zs)))
theorem ZfK:MtM X "list.extend" ZmA:=by
 intro pins s σ H x vs v us Q I rx rv h
 obtain⟨l,b,xs,zs,rfl,rfl,hH,hB,hz,q⟩:=h
 cases rx
 obtain⟨u,rfl,ru⟩:=rv.one
 cases ru
 obtain⟨z,its,n,r,hl,e⟩:=I.lstM hH
 obtain⟨z2,its2,n2,r2,hl2,e2⟩:=I.lstM hB
 have hsz:its.toArray.size+its2.toArray.size≤sizeLine:=by rw[Qv,Qv];omega
 have hlong:¬ (!its.toArray.isEmpty&&Builtin.List.listTooLong (its.toArray.size+its2.toArray.size))=true:=by
  rw[Zlb hsz,Bool.and_false]
  exact Qi
 refine call_meets F.slot_list_extend ⟨_,e,rfl⟩ F.entry_list_extend (F.args_list_extend_2 _ _)
  (AutoSeq1.list_extend_list_list_0 l its.toArray n b its2.toArray n2 hlong (by rw[Qv];omega) (by omega)) ⟨e,e2,?_⟩
 refine⟨.non,_,I.lset (its':=its++its2) hH e (by simp) (r.append r2) ?_,rfl,q⟩
 rw[Qp]
 omega
def rPop:V→List V→Hp→VK→Prop:=fun x vs H Q=>∃l xs y,x=.ref l∧vs=[]∧H l=some (.lst xs)∧xs[xs.length-1]? = some y∧Q y (upd H l (.lst xs.dropLast))
def rPopAt:V→List V→Hp→VK→Prop:=fun x vs H Q=>∃l xs i k y,x=.ref l∧vs=[.int i]∧H l=some (.lst xs) ∧ -(2 ^ 63)≤i∧i<2 ^ 63∧seqIndex? i xs.length=some k∧xs[k]? = some y∧Q y (upd H l (.lst (xs.eraseIdx k)))
def Zkh:V→List V→Hp→VK→Prop:=fun x vs H Q=>∃l xs,x=.ref l∧vs=[]∧H l=some (.lst xs)∧Q .non (upd H l (.lst xs.reverse))
theorem ZhG:MtM X "list.reverse" Zkh:=by
 intro pins s σ H x vs v us Q I rx rv h
 obtain⟨l,xs,rfl,rfl,hH,q⟩:=h
 cases rx
 have hus:=rv.zero
 subst hus
 obtain⟨z,its,n,r,hl,e⟩:=I.lstM hH
 refine call_meets F.slot_list_reverse ⟨_,e,rfl⟩ F.entry_list_reverse (F.args_list_reverse_1 _) (AutoSeq1.list_reverse_list_0 l its.toArray n (by rw[Qv];omega)) ⟨e,?_⟩
 refine⟨.non,_,I.lset (its':=its.reverse) hH e (by simp) r.reverse ?_,rfl,q⟩
 rw[List.length_reverse]
 omega
def rClear:V→List V→Hp→VK→Prop:=fun x vs H Q=>∃l xs,x=.ref l∧vs=[]∧H l=some (.lst xs)∧Q .non (upd H l (.lst []))
def rCat:R2:=fun x y H Q=>∃l b xs zs,x=.ref l∧y=.ref b∧H l=some (.lst xs)∧H b=some (.lst zs)∧xs.length+zs.length≤sizeLine∧∀p,H p=none→Q (.ref p) (upd H p (.lst (xs++zs)))
def rRep:R2:=fun x y H Q=>∃l k xs,x=.ref l∧y=.int k∧H l=some (.lst xs) ∧ -(2 ^ 63)≤k∧k<2 ^ 63∧xs.length*k.toNat≤sizeLine ∧
 ∀p,H p=none→Q (.ref p) (upd H p (.lst (List.replicate k.toNat xs).flatten))
end
section
variable {prog:Program} {w:World} {A:Around} {E:Value→Shared→Prop} {s:Shared}
end
section
variable {X:Cx}
end
end L2
namespace Att
open PySem PySem.W PySem.Calls PyProof.Rows
theorem Zer{P:Params}{h:Heap}:∀ (ns:List Int) (vs:List Value),WellAll P h vs (ns.map WData.int)→IntsAre vs ns:=by
 intro ns
 induction ns with
 | nil =>
  intro vs w
  rw[List.map_nil]at w
  cases w
  exact .nil
 | cons n ns ih =>
  intro vs w
  rw[Qg]at w
  cases w with
  | cons a b =>
   cases a
   exact .cons _ _ (ih _ b)
theorem ZjW{l:OpenLaw}{n:Nat}(hn:l.most=some n){P:Params}{h:Heap}{args:List WData}{vals:List Value}
  (hpre:l.row.toRowW.claim.pre args=true) (hwl:WellAll P h vals args) :
  ∃a vs ns,vals=[Value.ref a]∧args=[WData.list (ns.map WData.int)]∧h.get? a=some { cls:=.type "list",data:=.seq vs.toArray }∧IntsAre vs ns∧ns.length≤n:=by
 have hsh:WShape.hasAll [] args [.list .int]=true:=(pre_splitW hpre).1
 have hc:l.pre.holds [] { args:=args }=true:=(pre_splitW hpre).2
 obtain⟨d,r,rfl,h1,h2⟩:=hasAllW_cons hsh
 obtain rfl:=hasAllW_nil h2
 obtain⟨xs,rfl,h3⟩:=hasW_list h1
 obtain⟨ns,rfl⟩:=items_int h3
 have hlen:ns.length≤n:=by
  unfold OpenLaw.pre at hc
  have h4:(WTm.not (.lt (.lit (.int (n:Int))) (.len (.arg 0)))).holds [] { args:=[.list (ns.map .int)] }=true:=by
   have h4:=(holds_andW hc).1
   rw[hn]at h4
   exact h4
  have h5:=condW_of h4 (w_not (w_lt w_lit (w_len_list (w_arg rfl))))
  rw[Qa]at h5
  refine Nat.le_of_not_lt fun q=>?_
  have q':(n:Int)<((ns.length:Nat):Int):=by omega
  first
   | (rw[decide_eq_true q']at h5;exact absurd h5 (by decide))
   | (simp at h5;omega)
 cases hwl with
 | cons w1 w2 =>
  cases w2
  cases w1 with
  | list ho hall=>exact⟨_,_,ns,rfl,rfl,ho,Zer ns _ hall,hlen⟩
theorem Zi6(l:OpenLaw)(args:List WData):l.row.toRowW.claim.post args (.bool true) args=true :=
 postW_of (r:=l.row.toRowW) (X:=(true == true))
  (show WShape.has [] (.bool true) .bool=true by first|rfl|decide|simp[WShape.has,WShape.arms,WShape.armsAll])
  (show (WTm.eq .res (.lit (.bool true))).value [] { args:=args,res:=some (.bool true),after:=args }=some (.bool (true == true)) from w_eq_bool (w_res rfl) w_lit) rfl
theorem attach_call{l:OpenLaw}{n:Nat}{q:Program}{loose:List Str}{XP:(Str→Option Value)→Heap→Prop}{YP:World→Heap→Prop}{d:DefRec}
  (hn:l.most=some n) (hdf:d.params.defaults=[])
  (call:∀ (w:World) (s₀ s₁:Shared) (mg mb:Str→Option Value) (fa:Addr) (o:Obj) (pm cd doc:Value) (a:Addr) (vs:List Value) (ns:List Int),
   Ground q loose [] XP w s₀ mg mb s₁.heap→YP w s₁.heap →
   s₁.heap.get? fa=some o→o.data=.func (docDef d.name d.params d.body d.scope pm cd doc)→s₁.heap.CodeRec cd d.name→mg d.name=some (.ref fa) →
   s₁.heap.get? a=some { cls:=.type "list",data:=.seq vs.toArray }→IntsAre vs ns→ns.length≤n→s₁.gens = #[] →
   codeAny (model l.prog w) callerA (.call (.ref fa) ⟨[.ref a],[]⟩) (fun r s'=>r=.ok (.ret (.bool true))∧OldK s₁.heap s'.heap∧s'.os=s₁.os∧AllBare s'.gens) s₁) :
  WalkO q loose XP YP l.row.toRowW d [] (fun f vs=>PySem.call f vs):=by
 intro w s₀ s₁ mg mb G Y fa o pm cd doc dV kV ho hd hcd hD hmg hg args vals as hpre hlay hrd hwl hlo
 obtain rfl:dV=.none:=Dflts.none hD hdf
 obtain rfl:kV=.none:=Dflts.noKw hD
 obtain⟨a,vs,ns,rfl,rfl,hobj,hints,hlen⟩:=ZjW hn hpre hwl
 refine enter_call (codeAny_mono (call w s₀ s₁ mg mb fa o pm cd doc a vs ns G Y ho (fd_plain hd) hcd hmg hobj hints hlen hg) fun r s' hq=>?_)
 obtain⟨rfl,h2,h3,h4⟩:=hq
 exact⟨.inl ⟨.bool true,.bool true,[],rfl,fun _=>rfl,.bool true,Zi6 l _,fun _=>⟨List.Pairwise.nil,fun _ hm=>(nomatch hm)⟩⟩,h2,h3,h4⟩
section
variable {prog:Program} {w:World} {A:Around} {E:Value→Shared→Prop} {s:Shared} {K:Frag}
def noObjs(h:Heap):Heap:={ h with objs:=#[] }
def ledger(h:Heap)(L d:Addr):List (Addr×Obj):=(List.range h.objs.size).filterMap fun a=>if a=L∨a=d then none else (h.get? a).map fun o=>(a,o)
end
end Att
namespace L2
open PySem PySem.Spec PyProof.Rows
theorem ZfQ:∀ {vs:List Value} {ns:List Int},IntsAre vs ns→ZB (ns.map V.int) vs
 | _,_,.nil=>.nil
 | _,_,.cons n t h=>.cons ⟨t,rfl⟩ (ZfQ h)
def Znx(H:Hp):Prop:=∀b,H b=none∨∃o xs,H b=some (.frz o (.lst xs))
theorem Zk8{P:Program}{w:World}{K:PySem.W.Frag}{mg mb:Str→Option Value}{CX:CXT}{k:Nat}{fa a:Addr}{fd:FuncData}{x:Str}{sp:Sp}{s₁:Shared}{vs:List Value}{ns:List Int}
  (KX:K.In s₁.heap) (hns:s₁.heap.Ns mainGlobals mg) (hb:s₁.heap.Ns builtinsNs mb) (hbb:∀x:Str,x ≠ "__name__"→mb x=bootBuiltins x) (hlim:s₁.heap.NoLimit) (hg:s₁.gens = #[])
  (ha:s₁.heap.get? a=some { cls:=.type "list",data:=.seq vs.toArray }) (hi:IntsAre vs ns) (hl:ns.length≤sizeLine) (hr:ZaI k callerA)
  (F:∀base:Heap,K.In base→base.Ns mainGlobals mg→Zdf P w K mg base CX k fa fd [x] sp) (hbind:∀ (s:Shared) (u:Value),BindsTo s fd ⟨[u],[]⟩ [(x,u)])
  (hsp:∀H:Hp,Znx H→SqL K H a (ns.map V.int)→sp [.ref a] H (fun v _=>v=.bl true) fun _ _ _=>False)
  (hCX:∀H e s',CX [] H s₁ (fun _ _ _=>False) e s'→False) :
  codeAny (model P w) callerA (.call (.ref fa) ⟨[.ref a],[]⟩) (fun r s'=>r=.ok (.ret (.bool true))∧OldK s₁.heap s'.heap∧s'.os=s₁.os∧AllBare s'.gens) s₁:=by
 have rv:=ZfQ hi
 have lenV:=hi.length
 have core:∀H:Hp,Znx H→SqL K H a (ns.map V.int)→HOk P w H s₁.heap→(∀b,H b≠none→b=a)→(H a≠none→K.lookup a=none) →
   codeAny (model P w) callerA (.call (.ref fa) ⟨[.ref a],[]⟩) (fun r s'=>r=.ok (.ret (.bool true))∧OldK s₁.heap s'.heap∧s'.os=s₁.os∧AllBare s'.gens) s₁:=by
  intro H hO hS hok hA hK
  have base_of:∀ {b:Addr} {o:Obj},s₁.heap.get? b=some o→H b=none→(Zgt s₁.heap H).get? b=some o:=fun e n=>Zlo e n
  have noA:∀ {b:Addr} {o:Obj} {es:Array DictEntry} {ep:Nat},s₁.heap.get? b=some o→o.data=.dict es ep→H b=none:=fun {b o es ep} e d=>by
   cases q:H b with
   | none=>rfl
   | some u =>
    have e':b=a:=hA b (by rw[q];simp)
    subst e'
    rw[ha]at e;cases e
    have d':Data.seq vs.toArray _=Data.dict es ep:=d
    cases d'
  have nsK:∀ {b:Addr} {m:Str→Option Value},s₁.heap.Ns b m→(Zgt s₁.heap H).Ns b m:=fun {b m} ⟨o,es,ep,e,d,r⟩=>⟨o,es,ep,base_of e (noA e d),d,r⟩
  have hKb:K.In (Zgt s₁.heap H):=fun b o e=>base_of (KX b o e) (by
   cases q:H b with
   | none=>rfl
   | some u =>
    have e':b=a:=hA b (by rw[q];simp)
    subst e'
    rw[hK (by rw[q];simp)]at e;cases e)
  have hM:Mod K mg (Zgt s₁.heap H):=⟨hKb,nsK hns,⟨mb,nsK hb,hbb⟩,let ⟨mc,h1,h2⟩:=hlim;⟨mc,nsK h1,h2⟩⟩
  have e0:ZhP P w K mg (Zgt s₁.heap H) callerA [] s₁ H:=⟨rfl,hM,fun b o e=>Zl3 e,Nat.le_of_eq (Zjb _ _),trivial,fun b hb=>absurd (show b∈([]:List Addr) from hb) (by simp),hok,.of_eq hg⟩
  refine codeAny_mono ((F _ hKb (nsK hns)).run callerA [] s₁ H ⟨[.ref a],[]⟩ [.ref a] [.ref a] _ _ hr e0 (hbind s₁ (.ref a)) (.cons rfl .nil) (hsp H hO hS)) fun r s' h=>?_
  cases r with
  | error e=>exact(hCX H e s' h).elim
  | ok fl =>
   cases fl with
   | next=>exact False.elim h
   | brk=>exact False.elim h
   | cont=>exact False.elim h
   | ret u =>
    obtain⟨v,H',os,bare,un,hok',r',q⟩:=h
    have q':v=.bl true:=q
    subst q'
    obtain rfl:u=Value.bool true:=r'
    refine⟨rfl,OldK.of_keep fun b o e=>?_,os,bare⟩
    cases q:H b with
    | none=>exact un.keep b o e q (by intro z;exact absurd (show b∈([]:List Addr) from z) (by simp)) (by simp)
    | some u =>
     rcases hO b with z|⟨ob,xs,z⟩
     ·rw[q]at z;cases z
     ·have z2:=un.frzs b ob _ z
      obtain⟨e1,_⟩:=hok b _ z
      obtain⟨e2,_⟩:=hok' b _ z2
      rw[e]at e1;cases e1
      exact e2
 cases hk:K.lookup a with
 | some o =>
  have e:=KX a o hk
  rw[ha]at e
  cases e
  refine core (fun _=>none) (fun _=>.inl rfl) (.inr ⟨_,vs.toArray,_,hk,rfl,rfl,rfl,by rw[Qv,lenV];exact hl,by simpa using rv⟩) (fun b u z=>by have z':(none:Option HO)=some u:=z;cases z') (fun b z=>absurd rfl z) fun z=>absurd rfl z
 | none =>
  refine core (fun b=>if b=a then some (.frz { cls:=.type "list",data:=.seq vs.toArray } (.lst (ns.map V.int))) else none) (fun b=>?_) (.inl (.inr ⟨{ cls:=.type "list",data:=.seq vs.toArray },if_pos rfl⟩)) (fun b u z=>?_) (fun b z=>?_) fun _=>hk
  ·by_cases hb:b=a
   ·exact .inr ⟨_,_,if_pos hb⟩
   ·exact .inl (if_neg hb)
  ·by_cases hb:b=a
   ·have z':=(if_pos hb).symm.trans z
    cases z'
    subst hb
    exact⟨ha,by rw[Qa];exact hl,vs,_,rv,ha⟩
   ·have z':=(if_neg hb).symm.trans z
    cases z'
  ·by_cases hb:b=a
   ·exact hb
   ·exact absurd (if_neg hb) z
abbrev KOf{K:PySem.W.Frag}{h:Heap}(_:K.In h):PySem.W.Frag:=K
theorem walk_of{l:PySem.W.OpenLaw}{n k:Nat}{q:Program}{loose:List Str}{XP:(Str→Option Value)→Heap→Prop}{YP:World→Heap→Prop}{d:DefRec}{K:Params→PySem.W.Frag}{CX:World→CXT}{sp:World→Sp}{x:Str}
  (hn:l.most=some n) (hn2:n≤sizeLine) (hdf:d.params.defaults=[]) (hr:ZaI k callerA)
  (hY:∀ (w:World) (h:Heap),YP w h→(K w.params).In h)
  (F:∀ (w:World) (mg:Str→Option Value) (fa:Addr) (h:Heap),(K w.params).In h→h.Ns mainGlobals mg→mg d.name=some (.ref fa) →
   ∃fd:FuncData,(∀ (s:Shared) (u:Value),BindsTo s fd ⟨[u],[]⟩ [(x,u)]) ∧
    ∀base:Heap,(K w.params).In base→base.Ns mainGlobals mg→Zdf l.prog w (K w.params) mg base (CX w) k fa fd [x] (sp w))
  (hsp:∀ (w:World) (H:Hp) (a:Addr) (ns:List Int),ns.length≤n→Znx H→SqL (K w.params) H a (ns.map V.int)→sp w [.ref a] H (fun v _=>v=.bl true) fun _ _ _=>False)
  (hCX:∀ (w:World) (H:Hp) (s:Shared) (e:Value) (s':Shared),CX w [] H s (fun _ _ _=>False) e s'→False) :
  PySem.W.WalkO q loose XP YP l.row.toRowW d [] (fun f vs=>PySem.call f vs):=by
 refine Att.attach_call hn hdf fun w s₀ s₁ mg mb fa o pm cd doc a vs ns G Y ho hd hcd hmg hobj hints hlen hg=>?_
 have KX:=hY w _ Y
 obtain⟨fd,hb,hF⟩:=F w mg fa _ KX G.T.g hmg
 exact Zk8 KX G.T.g G.T.b G.T.builtins G.T.nolimit hg hobj hints (QG hlen hn2) hr hF hb (fun H hO hS=>hsp w H a ns hlen hO hS) fun H e s'=>hCX w H s₁ e s'
def ZR(s:Stmt)(j:Nat):Stmt:=match s with
 | .ClassDef _ _ _ body _ _ _ _ _ _ _=>body.getD j (.Pass ⟨0,0,0,0⟩)
 | _=>.Pass ⟨0,0,0,0⟩
def Zn(s:Stmt):Arguments:=match s with
 | .FunctionDef _ a _ _ _ _ _ _ _ _=>a
 | _=>{ posonlyargs:=[],args:=[],vararg:=none,kwonlyargs:=[],kw_defaults:=[],kwarg:=none,defaults:=[] }
def Zl(s:Stmt):List Stmt:=match s with
 | .FunctionDef _ _ b _ _ _ _ _ _ _=>b
 | _=>[]
def Ze(s:Stmt):Scope:=match s with
 | .FunctionDef _ _ _ _ _ _ sc _ _ _=>sc
 | _=>{ kind:=.function,names:=[],isGenerator:=false,isCoroutine:=false }
abbrev CX0:CXT:=fun _ _ _ _ _ _=>False
abbrev E0:XK:=fun _ _ _=>False
theorem Zi0{X:Cx}:ZdF CX0 X E0:=fun _ _ _ _ _ _ _ h=>h.elim
structure Fun (K:PySem.W.Frag) (x qual:Str) (st:Stmt) (f:Addr) (fd:FuncData):Prop where
 ex:∃ (oc:Value) (od:Option Addr) (kV doc pm:Value) (an:Option Addr) (cdv ct:Value) (osl:Array (Option Value)),
  fd=PySem.W.fnOf x qual (Zn st) (Zl st) (Ze st) .none kV doc pm an cdv ct∧K.lookup f=some ⟨oc,od,.func fd,osl⟩∧PySem.W.codeIn K cdv qual=true
 kp:PySem.W.keepIn K (.ref f)=true
section
variable {P:Program} {w:World} {K:PySem.W.Frag} {mg:Str→Option Value} {base:Heap}
theorem Fun.ok{x qual:Str}{st:Stmt}{f:Addr}{fd:FuncData}{N ps:List Str}{k:Nat}{sp:Sp}(F:Fun K x qual st f fd)(S:Zp N ps (Ze st))(len:∀vs H Q E,sp vs H Q E→vs.length=ps.length)
  (hbody:∀ (cdv:Value) (A:Around) (outer:List Env) (s:Shared) (H:Hp) (vs:List V) (Q:VK) (E:XK),ZaI k (A.deeper (envOfC qual (Ze st) s.heap.objs.size f cdv))→sp vs H Q E →
   ∃t,PSs (Zgz CX0 P w K mg base N qual (Ze st) f cdv A outer s H E).nox (Zl st) t∧t { nx:=fun _ H'=>Q .non H',rt:=Q } (ZcL N vs) H):Zdf P w K mg base CX0 (k+1) f fd ps sp:=by
 obtain⟨oc,od,kV,doc,pm,an,cdv,ct,osl,rfl,lk,hcd⟩:=F.ex
 refine ZoL lk hcd S len fun A outer s H vs Q E hr hsp=>?_
 obtain⟨t,h,q⟩:=hbody cdv A outer s H vs Q E hr hsp
 exact⟨t,h.nox,q⟩
theorem Fun.binds{x qual:Str}{st:Stmt}{f:Addr}{fd:FuncData}{ps:List Str}(F:Fun K x qual st f fd)
  (h:∀ (kV doc pm:Value) (an:Option Addr) (cdv ct:Value) (us:List Value),us.length=ps.length→bindArgs (PySem.W.fnOf x qual (Zn st) (Zl st) (Ze st) .none kV doc pm an cdv ct) ⟨us,[]⟩=pure (ps.zip us)):ZbH K fd ps []:=by
 obtain⟨oc,od,kV,doc,pm,an,cdv,ct,osl,rfl,lk,hcd⟩:=F.ex
 exact .all (h kV doc pm an cdv ct)
theorem ZG{x qual:Str}{st:Stmt}{f:Addr}{oc:Value}{od an:Option Addr}{osl:Array (Option Value)}{kV doc pm cdv ct:Value}(l:K.lookup f=some ⟨oc,od,.func (PySem.W.fnOf x qual (Zn st) (Zl st) (Ze st) .none kV doc pm an cdv ct),osl⟩)
  (c:PySem.W.codeIn K cdv qual=true) (k:PySem.W.keepIn K (.ref f)=true):Fun K x qual st f (PySem.W.fnOf x qual (Zn st) (Zl st) (Ze st) .none kV doc pm an cdv ct):=⟨⟨oc,od,kV,doc,pm,an,cdv,ct,osl,rfl,l,c⟩,k⟩
end
theorem ZkU{A:Around}{k:Nat}(hr:ZaI k A):A.units+1<cLine:=Nat.lt_of_le_of_lt (Nat.add_le_add_left (by decide:1≤64) _) hr.units
theorem ZY{n:Nat}(h:n≤1000):n<sizeLine:=Nat.lt_of_le_of_lt h (by decide)
section
variable {X:Cx}
theorem pv(i:Nat){x:Str}{pos:Pos}(hN:X.N[i]? = some x:=by rfl)(hv:Vis X.env.scope x:=by first|exact Or.inl rfl|exact Or.inr (Or.inl rfl)|exact Or.inr (Or.inr rfl))(hd:(x == ("__debug__" : Str))=false:=by decide)
  (hcd:(x == ("__classdict__" : Str))=false:=by decide):PE X (.Name x pos) (ZmH i):=Zil hN hv hd hcd
end
theorem Zb5{A B:Prop}(h:B):if false=true then A else B:=by
 rw[if_neg Qi]
 exact h
theorem Zfj{A B:Prop}(h:A):if true=true then A else B:=by
 rw[if_pos rfl]
 exact h
theorem Zbt{c A B:Prop}[Decidable c](h1:c→A)(h2:¬ c→B):if c then A else B:=by
 by_cases h:c
 ·rw[if_pos h]
  exact h1 h
 ·rw[if_neg h]
  exact h2 h
theorem ZfR{c A B:Prop}[Decidable c](hc:c)(h:B):if (!decide c)=true then A else B:=by
 rw[decide_eq_true hc]
 exact Zb5 h
def Zu(H H':Hp):Prop:=∀b o,H b=some o→H' b=some o
theorem Zu.refl(H:Hp):Zu H H:=fun _ _ h=>h
theorem Zu.trans{H H1 H2:Hp}(a:Zu H H1)(b:Zu H1 H2):Zu H H2:=fun c o h=>b c o (a c o h)
theorem Zu.free{H H':Hp}(e:Zu H H'){l:Addr}(h:H' l=Option.none):H l=Option.none:=by
 cases q:H l with
 | none=>rfl
 | some o =>
  rw[e l o q]at h
  cases h
theorem Zu.seq{K:PySem.W.Frag}{H H':Hp}{a:Addr}{xs:List V}(e:Zu H H')(h:SqL K H a xs):SqL K H' a xs:=by
 rcases h with(h|⟨o,h⟩)|h
 ·exact .inl (.inl (e _ _ h))
 ·exact .inl (.inr ⟨o,e _ _ h⟩)
 ·exact .inr h
def Zal(cells:List (Str×Addr)):List (Str×NameKind)→List (Str×Addr)→List (Str×Addr)
 | [],acc=>acc
 | (n,k)::r,acc=>if k == .free then Zal cells r ((n,(cells.lookup n).getD 0)::acc) else Zal cells r acc
theorem Zdk{sc:Scope}{env:Env}(h:∀y∈sc.names,y.2=.free→∃c,env.cells.lookup y.1=some c) :
  closureFor sc env=pure (Zal env.cells sc.names []):=by
 have go:∀ (names:List (Str×NameKind)) (acc:List (Str×Addr)),(∀y∈names,y.2=.free→∃c,env.cells.lookup y.1=some c) →
   (forIn names acc fun (x:Str×NameKind) (r:List (Str×Addr))=>if (x.2 == NameKind.free)=true then (do let c ← cellOf env x.1;pure (ForInStep.yield ((x.1,c)::r))) else pure (ForInStep.yield r):Sem (List (Str×Addr)))=pure (Zal env.cells names acc):=by
  intro names
  induction names with
  | nil=>intro acc _;rfl
  | cons y r ih =>
   intro acc hy
   obtain⟨n,k⟩:=y
   rw[List.forIn_cons]
   cases hk:(k == NameKind.free) with
   | false =>
    have e1:Zal env.cells ((n,k)::r) acc=Zal env.cells r acc:=by
     show (if (k == NameKind.free)=true then _ else _)=_
     rw[hk];rfl
    rw[e1,← ih acc fun z hz=>hy z (Qm _ hz)]
    simp only[hk,Bool.false_eq_true,if_false,pure_bind]
   | true =>
    have hk':k=.free:=by simpa using hk
    obtain⟨c,hc⟩:=hy (n,k) QW hk'
    have e1:Zal env.cells ((n,k)::r) acc=Zal env.cells r ((n,c)::acc):=by
     show (if (k == NameKind.free)=true then _ else _)=_
     rw[hk,hc];rfl
    have e2:cellOf env n=pure c:=by
     unfold cellOf
     rw[hc]
    rw[e1,← ih ((n,c)::acc) fun z hz=>hy z (Qm _ hz)]
    simp only[hk,if_true,e2,pure_bind]
 have q:=go sc.names [] h
 unfold closureFor
 first
  | (rw[show (forIn sc.names ([]:List (Str×Addr)) _:Sem (List (Str×Addr)))=pure (Zal env.cells sc.names []) from q];rfl)
  | (simp only[bind_pure];exact q)
  | exact q
theorem ZcD(cells:List (Str×Addr)):∀ (names:List (Str×NameKind)) (acc:List (Str×Addr)) (x:Str) (c:Addr),(Zal cells names acc).lookup x=some c →
  (∃y∈names,y.1=x∧y.2=.free∧c=(cells.lookup x).getD 0)∨acc.lookup x=some c
 | [],acc,x,c,h=>.inr h
 | (n,k)::r,acc,x,c,h=>by
  by_cases hk:(k == NameKind.free)=true
  ·have e:Zal cells ((n,k)::r) acc=Zal cells r ((n,(cells.lookup n).getD 0)::acc):=by
    show (if (k == NameKind.free)=true then _ else _)=_
    rw[if_pos hk]
   rw[e]at h
   rcases ZcD cells r _ x c h with⟨y,hy,q⟩|q
   ·exact .inl ⟨y,Qm _ hy,q⟩
   ·rw[Qal]at q
    by_cases hx:(x == n)=true
    ·rw[hx]at q
     have hx':x=n:=by simpa using hx
     subst hx'
     exact .inl ⟨(x,k),QW,rfl,by simpa using hk,(Qh q).symm⟩
    ·have hx':(x == n)=false:=by simpa using hx
     rw[hx']at q
     exact .inr q
  ·have e:Zal cells ((n,k)::r) acc=Zal cells r acc:=by
    show (if (k == NameKind.free)=true then _ else _)=_
    rw[if_neg hk]
   rw[e]at h
   rcases ZcD cells r _ x c h with⟨y,hy,q⟩|q
   ·exact .inl ⟨y,Qm _ hy,q⟩
   ·exact .inr q
theorem Ze9(cells:List (Str×Addr)):∀ (names:List (Str×NameKind)) (acc:List (Str×Addr)) (x:Str),((∃y∈names,y.1=x∧y.2=.free)∨∃c,acc.lookup x=some c) →
  ∃c,(Zal cells names acc).lookup x=some c
 | [],acc,x,h=>by
  rcases h with⟨y,hy,_⟩|h
  ·cases hy
  ·exact h
 | (n,k)::r,acc,x,h=>by
  by_cases hk:(k == NameKind.free)=true
  ·have e:Zal cells ((n,k)::r) acc=Zal cells r ((n,(cells.lookup n).getD 0)::acc):=by
    show (if (k == NameKind.free)=true then _ else _)=_
    rw[if_pos hk]
   rw[e]
   refine Ze9 cells r _ x ?_
   by_cases hx:(x == n)=true
   ·exact .inr ⟨_,by rw[Qal,hx]⟩
   ·have hx':(x == n)=false:=by simpa using hx
    rcases h with⟨y,hy,q⟩|⟨c,q⟩
    ·rcases QA.mp hy with rfl|hy
     ·exact absurd (by simpa using q.1.symm) hx
     ·exact .inl ⟨y,hy,q⟩
    ·exact .inr ⟨c,by rw[Qal,hx'];exact q⟩
  ·have e:Zal cells ((n,k)::r) acc=Zal cells r acc:=by
    show (if (k == NameKind.free)=true then _ else _)=_
    rw[if_neg hk]
   rw[e]
   refine Ze9 cells r _ x ?_
   rcases h with⟨y,hy,q⟩|h
   ·rcases QA.mp hy with rfl|hy
    ·exact absurd (by simpa using q.2) hk
    ·exact .inl ⟨y,hy,q⟩
   ·exact .inr h
structure Z7 (N N':List Str) (o c:Scope):Prop where
 kind:c.kind=.function
 okind:o.kind=.function
 nocell:∀y∈c.names,y.2≠.cell
 loc:∀y∈c.names,y.2=.local→c.names.lookup y.1=some .local
 free:∀y∈c.names,y.2=.free→c.names.lookup y.1=some .free∧(o.names.lookup y.1=some .cell∨o.names.lookup y.1=some .free)
 len:N.length≤N'.length
 same:∀i∈List.range N.length,∀x∈N'[i]?,c.names.lookup x=some .local∨c.names.lookup x=some .free→c.names.lookup x=some .free∧N[i]? = some x
 nd:N'.Nodup
def Z9(X:Cx)(c:Scope)(N':List Str)(C:Addr)(s:Shared)(H:Hp)(fp:List Addr):Cx :=
 { X with N:=N',s₀:=s,H₀:=H,env:=compEnvC c (Zal X.env.cells c.names []) C X.env,outer:=X.stack,stack:=X.stack,ex:=fp,fn:=fun _=>false,pn:=[],xe:=fun _ _=>False }
theorem ZcV{env:Env}(hf:env.scope.kind=.function):∀ (names:List (Str×NameKind)) (x:Str),
  (names.map fun (p:Str×NameKind)=>if (p.2 == NameKind.free&&env.scope.kind == .function&&env.kindOf p.1 == some .cell)=true then (p.1,NameKind.cell) else (p.1,p.2)).lookup x =
   match names.lookup x with
   | some .free=>if env.kindOf x=some .cell then some .cell else some .free
   | k=>k
 | [],x=>rfl
 | (n,k)::r,x=>by
  have ih:=ZcV hf r x
  rw[Qg]
  by_cases hx:(x == n)=true
  ·have hx':x=n:=by simpa using hx
   subst hx'
   have e2:List.lookup x ((x,k)::r)=some k:=by rw[Qal];simp
   rw[e2]
   by_cases hk:k=.free
   ·subst hk
    by_cases hc:env.kindOf x=some .cell
    ·simp[List.lookup_cons,hf,hc]
    ·simp[List.lookup_cons,hf,hc]
   ·have hk':(k == NameKind.free)=false:=by simpa using hk
    rw[hk']
    simp only[Bool.false_and,Bool.false_eq_true,if_false,List.lookup_cons,beq_self_eq_true]
    all_goals (cases k<;>first|rfl|exact absurd rfl hk)
  ·have hx':(x == n)=false:=by simpa using hx
   have e2:List.lookup x ((n,k)::r)=List.lookup x r:=by rw[Qal,hx']
   rw[e2,← ih]
   by_cases hc:(k == NameKind.free&&env.scope.kind == .function&&env.kindOf n == some .cell)=true
   ·simp only[hc,if_true,List.lookup_cons,hx']
   ·simp only[hc,if_false,List.lookup_cons,hx',Bool.false_eq_true]
section
variable {X:Cx} {N N':List Str} {o c:Scope}
theorem Zcf(S:Z7 N N' o c)(ho:X.env.scope=o)(cl:List (Str×Addr))(C:Addr)(x:Str):(compEnvC c cl C X.env).kindOf x =
  match c.names.lookup x with
  | some .free=>if X.env.kindOf x=some .cell then some .cell else some .free
  | k=>k:=ZcV (env:=X.env) (by rw[ho];exact S.okind) c.names x
theorem Zcr{names:List (Str×NameKind)}{x:Str}{k:NameKind}(h:names.lookup x=some k):(x,k)∈names:=Q8 h
theorem Zbu(S:Z7 N N' o c)(ho:X.env.scope=o)(ok:X.Ok){x:Str}{a:Addr}(h:(Zal X.env.cells c.names []).lookup x=some a) :
  X.env.cells.lookup x=some a∧c.names.lookup x=some .free:=by
 rcases ZcD _ _ _ _ _ h with⟨y,hy,rfl,hf,e⟩|q
 ·have hk:=S.free y hy hf
  have hv:X.env.kindOf y.1=some .cell∨X.env.kindOf y.1=some .free:=by
   show X.env.scope.names.lookup y.1=_∨X.env.scope.names.lookup y.1=_
   rw[ho];exact hk.2
  obtain⟨b,hb⟩:=ok.has y.1 hv
  rw[hb]at e
  exact⟨by rw[hb,e];rfl,hk.1⟩
 ·cases q
theorem Zhe(S:Z7 N N' o c)(ho:X.env.scope=o)(ok:X.Ok){x:Str}(h:c.names.lookup x=some .free):∃a,(Zal X.env.cells c.names []).lookup x=some a∧X.env.cells.lookup x=some a:=by
 obtain⟨a,ha⟩:=Ze9 X.env.cells c.names [] x (.inl ⟨(x,.free),Zcr h,rfl,rfl⟩)
 exact⟨a,ha,(Zbu S ho ok ha).1⟩
theorem ZmE(S:Z7 N N' o c)(ho:X.env.scope=o){pins:List (Addr×Obj)}{σ:St}{H:Hp}{s:Shared}{fp:List Addr}(I:Inv X pins σ H s)
  (hf:∀b∈fp,ZdN X pins H b) (ht:∀b∈fp,b<s.heap.objs.size):(Z9 X c N' s.heap.objs.size s H fp).Ok where
 mod:=I.ok.mod
 kind:=S.kind
 glob:=I.ok.glob
 blt:=I.ok.blt
 above:=Qd _
 inj:=fun x y a h1 h2=>I.ok.inj x y a (Zbu S ho I.ok h1).1 (Zbu S ho I.ok h2).1
 has:=fun x hx=>by
  have e:=Zcf (X:=X) S ho (Zal X.env.cells c.names []) s.heap.objs.size x
  have hx':(compEnvC c (Zal X.env.cells c.names []) s.heap.objs.size X.env).kindOf x=some .cell∨(compEnvC c (Zal X.env.cells c.names []) s.heap.objs.size X.env).kindOf x=some .free:=hx
  rw[e]at hx'
  cases q:c.names.lookup x with
  | none=>rw[q]at hx';rcases hx' with z|z<;>cases z
  | some k =>
   by_cases hk:k=.free
   ·subst hk
    obtain⟨a,ha,_⟩:=Zhe S ho I.ok q
    exact⟨a,ha⟩
   ·rw[q]at hx'
    have hc:k=.cell:=by
     cases k<;>first|rfl|exact absurd rfl hk|(rcases hx' with z|z<;>cases z)
    subst hc
    exact absurd rfl (S.nocell _ (Zcr q))
 cab:=fun x a h=>by cases (show false=true from h)
 hd:=I.ok.hd
 frames:=I.ok.frames
 stk:=.inl rfl
 exf:=fun b hb=>⟨Qu (ht b hb),fun x a h=>(hf b hb).2.2.2.2.1 x a (Zbu S ho I.ok h).1⟩
 bs:=fun b ob e=>I.bs b ob e
 bsz:=QG I.ok.bsz I.sz
 noex:=fun b ob e hb=>by
  rcases(hf b hb).2.2.2.1 with z|z
  ·exact I.ok.noex b ob e z
  ·exact absurd (Qt (Qk e) (QG I.ok.bsz z)) (QY _)
 exfs:=fun b hb hb'=>by
  rcases QA.mp (I.stkSub b hb') with z|z
  ·exact(hf b hb).2.1 z
  ·exact(hf b hb).2.2.1 z
 funs:=I.stack
 frf:=I.stkFree
theorem ZgW(S:Z7 N N' o c)(hN:X.N=N)(ho:X.env.scope=o){pins:List (Addr×Obj)}{σ:St}{H:Hp}{s:Shared}{fp:List Addr}{h₁:Heap}{tk:Nat}{m₀:Str→Option Value}(I:Inv X pins σ H s)
  (hf:∀b∈fp,ZdN X pins H b) (ht:∀b∈fp,b<s.heap.objs.size) (hns:h₁.Ns s.heap.objs.size m₀) (hk:∀b ob,s.heap.get? b=some ob→h₁.get? b=some ob) :
  Inv (Z9 X c N' s.heap.objs.size s H fp) [] (σ++List.replicate (N'.length-N.length) none) H { s with heap:=h₁,toks:=tk } where
 ok:=ZmE S ho I hf ht
 os:=rfl
 bare:=I.bare
 base:=Un.kept hk
 loc:=by
  refine⟨m₀,hns,fun i x v e1 e2 e3=>?_⟩
  obtain⟨m,hn,hl⟩:=I.loc
  have hlen:σ.length=N.length:=by rw[I.len,hN]
  have hi:i<σ.length:=by
   by_cases hi:i<σ.length
   ·exact hi
   ·rw[Q1 (by omega),List.getElem?_replicate]at e2
    split at e2<;>cases e2
  have e2':σ[i]? = some (some v):=by rw[Q3 hi]at e2;exact e2
  have kd:=Zcf (X:=X) S ho (Zal X.env.cells c.names []) s.heap.objs.size x
  have vis:c.names.lookup x=some .local∨c.names.lookup x=some .free:=by
   have e3':(compEnvC c (Zal X.env.cells c.names []) s.heap.objs.size X.env).kindOf x=some .local∨(compEnvC c (Zal X.env.cells c.names []) s.heap.objs.size X.env).kindOf x=some .cell∨(compEnvC c (Zal X.env.cells c.names []) s.heap.objs.size X.env).kindOf x=some .free:=e3
   rw[kd]at e3'
   cases q:c.names.lookup x with
   | none=>rw[q]at e3';rcases e3' with z|z|z<;>cases z
   | some k =>
    cases k with
    | «local»=>exact .inl rfl
    | free=>exact .inr rfl
    | cell=>exact absurd rfl (S.nocell _ (Zcr q))
    | _=>rw[q]at e3';rcases e3' with z|z|z<;>cases z
  obtain⟨hfr,hNi⟩:=S.same i (Q7.mpr (by omega)) x (by rw[show N'[i]? = some x from e1];rfl) vis
  have hok:X.env.kindOf x=some .cell∨X.env.kindOf x=some .free:=by
   show X.env.scope.names.lookup x=_∨X.env.scope.names.lookup x=_
   rw[ho];exact(S.free _ (Zcr hfr) rfl).2
  obtain⟨u,r,l⟩:=hl i x v (by rw[hN];exact hNi) e2' (.inr hok)
  refine⟨u,r,.inr ⟨?_,?_⟩⟩
  ·show (compEnvC c (Zal X.env.cells c.names []) s.heap.objs.size X.env).kindOf x=some .cell∨(compEnvC c (Zal X.env.cells c.names []) s.heap.objs.size X.env).kindOf x=some .free
   rw[kd,hfr]
   show (if X.env.kindOf x=some .cell then some NameKind.cell else some NameKind.free)=some .cell∨(if X.env.kindOf x=some .cell then some NameKind.cell else some NameKind.free)=some .free
   by_cases q:X.env.kindOf x=some .cell
   ·rw[if_pos q];exact .inl rfl
   ·rw[if_neg q];exact .inr rfl
  ·obtain⟨a,ha,ha'⟩:=Zhe S ho I.ok hfr
   refine⟨a,ha,?_⟩
   rcases l with⟨z,_⟩|⟨_,a',e,ob,hob,hd⟩
   ·rcases hok with q|q<;>rw[q]at z<;>cases z
   ·rw[ha']at e;cases e
    exact⟨ob,hk _ _ hob,hd⟩
 cell:=fun x a h=>by
  obtain⟨v,ob,e,d⟩:=I.cell x a (Zbu S ho I.ok h).1
  exact⟨v,ob,hk _ _ e,d⟩
 free:=I.hok.fresh (Qd _)
 freeC:=fun x a h=>I.freeC x a (Zbu S ho I.ok h).1
 pin:=fun p hp=>absurd (show p∈([]:List (Addr×Obj)) from hp) (by simp)
 hok:=I.hok.kept hk
 len:=by
  have hlen:σ.length=N.length:=by rw[I.len,hN]
  have:=S.len
  show (σ++List.replicate (N'.length-N.length) none).length=N'.length
  rw[Qp,Qag]
  omega
end
abbrev Zgl(ifs:List Expr)(env:Env):Sem Bool :=
 forIn ifs true fun k r=>if r=true then do let ok ← isTrue k env (eval k env);pure (ForInStep.yield ok) else pure (ForInStep.yield r)
def PTs(X:Cx)(ifs:List Expr)(t:TT):Prop :=
 ∀ (pins:List (Addr×Obj)) (s:Shared) (σ:St) (H:Hp) (Q:Bool→Hp→Prop),Inv X pins σ H s→t σ H Q→wpAny (model X.prog X.w) X.A (Zgl ifs X.env) (TP X pins σ Q) X.xe s
def Zij:TT:=fun _ H Q=>Q true H
theorem Za5{X:Cx}:PTs X [] Zij:=fun _ _ _ H _ I h=>wpAny_tests_nil ⟨H,I,h⟩
section
variable {prog:Program} {w:World} {A:Around} {R:Result→Shared→Prop} {s:Shared}
theorem Zf8{elt target iter:Expr}{ifs:List Expr}{scope:Scope}{pos:Pos}{it acc:Value}{env:Env}{E:Value→Shared→Prop}(I:Nat→Shared→Prop)
  (hE:∀e s',E e s'→False)
  (turn:∀n s,I n s→wpAny (model prog w) A (pyNext it) (fun r s₁=>match r with
   | none=>R (.ok .next) s₁
   | some v=>wpAny (model prog w) A (letOwnedTupleGo target it v) (fun _ s₀=>wpAny (model prog w) A (assign target env v) (fun _ s₂ =>
     wpAny (model prog w) A (Zgl ifs env) (fun ok s₃ =>
      if ok=true then wpAny (model prog w) A (eval elt env) (fun x s₄ =>
       wpAny (model prog w) A (call (.builtin "list.append") [acc,x]) (fun _ s₅=>∃m,m<n∧I m s₅) E s₄) E s₃
      else ∃m,m<n∧I m s₃) E s₂) E s₀) E s₁) E s)
  (n:Nat) (h:I n s):codeAny (model prog w) A (.compLoop (.ListComp elt [⟨target,iter,ifs,0⟩] scope pos) 0 it acc env) R s:=by
 have go:∀ {α:Type} {t:Sem α} {Q:α→Shared→Prop} {s:Shared},wpAny (model prog w) A t Q E s→wpAny (model prog w) A t Q (notedBy (model prog w) A env fun e s'=>R (.error e) s') s :=
  fun {α t Q s} q=>wpAny_mono q (fun _ _ z=>z) fun e s' z=>(hE e s' z).elim
 refine codeAny_loop rfl I (fun n s hI=>?_) n h
 show wpAny _ A ((compTurn (.ListComp elt [⟨target,iter,ifs,0⟩] scope pos) 0 it acc env).onRaise (fun x=>do noteFrame x env;theTreesLotGoes x)) _ _ s
 refine wpAny_noted ?_
 rw[compTurn_list]
 refine wpAny_bind (wpAny_standAt (wpAny_bind (thn (go (turn n s hI)) fun r s₁ h₁=>?_)))
 cases r with
 | none=>exact wpAny_pure h₁
 | some v =>
  refine wpAny_bind (thn (go h₁) fun _ s₀ h₀=>wpAny_bind (thn (go h₀) fun _ s₂ h₂=>wpAny_bind (thn (go h₂) fun ok s₃ h₃=>?_)))
  cases ok with
  | false=>exact wpAny_pure ⟨rfl,h₃⟩
  | true =>
   exact wpAny_bind (wpAny_bind (thn (go h₃) fun x s₄ h₄=>wpAny_bind (thn (go h₄) fun _ s₅ h₅=>wpAny_pure (wpAny_pure ⟨rfl,h₅⟩))))
end
def ZeL(J:It)(D:Addr)(k:Nat)(σ:St)(H1:Hp)(g:TG)(tc:TT)(te:TE)(Q:VK):Prop :=
 ∃W:Nat→Nat→List V→St→Hp→Prop,(∃m,W 0 m [] (σ++List.replicate k none) (upd H1 D (.lst []))) ∧
  ∀i m ys σ2 H2,W i m ys σ2 H2→(J.stop i H2∧Q (.ref D) H2) ∨
   (J.go i H2∧∃N:List V→St→Hp→Prop,(∀ys' σ' H',N ys' σ' H'→∃m',m'<m∧W (i+1) m' ys' σ' H')∧∀x H3,J.yld i H2 x H3→g x σ2 H3 fun σ4 H4=>tc σ4 H4 fun b H5 =>
    if b=true then te σ4 H5 fun y H6=>H6 D=some (.lst ys)∧ys.length<sizeLine∧N (ys++[y]) σ4 (upd H6 D (.lst (ys++[y]))) else N ys σ4 H5)
def ZmL(n:Nat)(wi:TI)(g:TG)(tc:TT)(te:TE):TE:=fun σ H Q=>wi σ H fun J H1=>∀D,H1 D=none→ZeL J D n σ H1 g tc te Q
section
variable {X:Cx} {N N':List Str} {o c:Scope}
theorem ZkK{elt tg iter:Expr}{ifs:List Expr}{pos pos':Pos}{wi:TI}{g:TG}{tc:TT}{te:TE}{use:Option (Value→Sem Unit)}{QQ:Value→Shared→Prop}(S:Z7 N N' o c)(hN:X.N=N)(ho:X.env.scope=o)(hc:X.calm=true)
  (hi:PI X tg iter wi) (hg:∀C s H fp,PG (Z9 X c N' C s H fp) tg g) (ht:∀C s H fp,PTs (Z9 X c N' C s H fp) ifs tc) (he:∀C s H fp,PE (Z9 X c N' C s H fp) elt te)
  (hs:∀x,foldedSetIterable iter X.env x=pure x) {pins:List (Addr×Obj)} {s:Shared} {σ:St} {H:Hp} {Q:VK} (I:Inv X pins σ H s) (h:ZmL (N'.length-N.length) wi g tc te σ H Q)
  (post:∀ (D C:Addr) (s5:Shared) (H5:Hp) (m:Str→Option Value),Inv X pins σ H5 s5→H5 C=none→s5.heap.Ns C m→C≠X.env.locals→X.s₀.heap.objs.size≤C→(∀x a,X.env.cells.lookup x=some a→a≠C)→(∀p∈X.pn++pins,p.1≠C) →
   Q (.ref D) H5→compPost (model X.prog X.w) X.A X.xe use QQ (.ref D) C (.ok .next) s5) :
  wpAny (model X.prog X.w) X.A (comprehension (.ListComp elt [⟨tg,iter,ifs,0⟩] c pos) c X.env pos' (newList []) false (eval iter X.env) use) QQ X.xe s:=by
 have hclos:closureFor c X.env=pure (Zal X.env.cells c.names []):=Zdk fun y hy hf=>by
  refine I.ok.has y.1 ?_
  show X.env.scope.names.lookup y.1=_∨X.env.scope.names.lookup y.1=_
  rw[ho];exact(S.free y hy hf).2
 refine wpAny_comprehension_free (use:=use) rfl hs hclos S.kind S.loc (thn (hi pins s σ H _ I h) fun v s1 h1=>thn h1 fun itv s2 h2=>?_)
 obtain⟨it,fp,tn,J,H2,e,I2,T,st2,f2,hR⟩:=h2
 subst e
 have hD:H2 s2.heap.objs.size=none:=I2.fresh
 have I3:Inv X pins σ (upd H2 s2.heap.objs.size (.lst [])) { s2 with heap:=s2.heap.push { cls:=.type "list",data:=.seq ([]:List Value).toArray } } :=
  I2.lnew (ys:=[]) (its:=[]) (t':=s2.toks) .nil (Qr _)
 have fpl:∀b∈fp,b<s2.heap.objs.size:=fun b hb=>by
  obtain⟨ob,e,_⟩:=T.obj 0 _ st2 b hb
  exact Qk e
 refine wpAny_newObj_type (wpAny_newFunctionEnv S.nocell (by intro y hy;simp at hy) (fun h₁ hns₁ hsb₁=>?_) S.kind)
 have e3:∃s3:Shared,s3={ s2 with heap:=s2.heap.push { cls:=.type "list",data:=.seq ([]:List Value).toArray } }:=⟨_,rfl⟩
 obtain⟨s3,hs3⟩:=e3
 have e3:s3.heap=s2.heap.push { cls:=.type "list",data:=.seq ([]:List Value).toArray }:=by rw[hs3]
 have sz3:s3.heap.objs.size=s2.heap.objs.size+1:=by rw[e3,Q0]
 have fpl3:∀b∈fp,b<s3.heap.objs.size:=fun b hb=>Qt (fpl b hb) (by rw[sz3];exact QaF _)
 have f3:∀b∈fp,ZdN X pins (upd H2 s2.heap.objs.size (.lst [])) b:=fun b hb=>⟨by rw[Zc (Qu (fpl b hb))];exact(f2 b hb).1,(f2 b hb).2⟩
 have st3:tn 0 s3.heap:=T.keep 0 _ _ st2 fun b _ ob e=>by rw[e3];exact Qc _ e
 rw[← hs3]at I3
 show codeAny (model X.prog X.w) X.A (.compStart _ 0 (.ref it) (.ref s2.heap.objs.size) (compEnvC c (Zal X.env.cells c.names []) (s2.heap.push { cls:=.type "list",data:=.seq ([]:List Value).toArray }).objs.size X.env))
  (compPost (model X.prog X.w) X.A X.xe use QQ (.ref s2.heap.objs.size) (s2.heap.push { cls:=.type "list",data:=.seq ([]:List Value).toArray }).objs.size)
  { s2 with heap:=h₁,toks:=s2.toks+([]:List (Str×Value)).length }
 have hns:h₁.Ns s3.heap.objs.size (fun x=>([]:List (Str×Value)).reverse.lookup x):=by rw[e3];exact hns₁
 have hk1:∀b ob,s3.heap.get? b=some ob→h₁.get? b=some ob:=fun b ob e=>by
  rw[e3]at e
  exact hsb₁.extBut b ob (Qu (Qk e)) (Qc _ e)
 rw[← e3]
 have es4:({ s2 with heap:=h₁,toks:=s2.toks+([]:List (Str×Value)).length }:Shared)={ s3 with heap:=h₁,toks:=s2.toks }:=by rw[hs3];rfl
 rw[es4]
 obtain⟨W,⟨m0,w0⟩,turn⟩:=hR s2.heap.objs.size hD
 have I4:=ZgW (tk:=s2.toks) S hN ho I3 f3 fpl3 hns hk1
 have st4:tn 0 h₁:=T.keep 0 _ _ st3 fun b _ ob e=>hk1 b ob e
 generalize hX:Z9 X c N' s3.heap.objs.size s3 (upd H2 s2.heap.objs.size (.lst [])) fp=Y at I4
 have Yp:Y.prog=X.prog:=by rw[← hX];rfl
 have Yw:Y.w=X.w:=by rw[← hX];rfl
 have YK:Y.K=X.K:=by rw[← hX];rfl
 have Yc:Y.calm=true:=by rw[← hX];exact hc
 have YA:Y.A=X.A:=by rw[← hX];rfl
 have Yenv:Y.env=compEnvC c (Zal X.env.cells c.names []) s3.heap.objs.size X.env:=by rw[← hX];rfl
 have Yl:Y.env.locals=s3.heap.objs.size:=by rw[Yenv];rfl
 have Yxe:Y.xe=fun _ _=>False:=by rw[← hX];rfl
 have hg':=hg s3.heap.objs.size s3 (upd H2 s2.heap.objs.size (.lst [])) fp
 have ht':=ht s3.heap.objs.size s3 (upd H2 s2.heap.objs.size (.lst [])) fp
 have he':=he s3.heap.objs.size s3 (upd H2 s2.heap.objs.size (.lst [])) fp
 rw[hX]at hg' ht' he'
 have stat:∀ {H':Hp},(∀b∈fp,H' b=none)→∀b∈fp,ZdN Y [] H' b:=fun {H'} hn b hb=>by
  obtain⟨_,q1,q2,q3,q4,_⟩:=f3 b hb
  have z1:=I4.ok.exf b (by rw[← hX];exact hb)
  refine⟨hn b hb,z1.1,I4.ok.exfs b (by rw[← hX];exact hb),.inl (by rw[← hX];exact hb),z1.2,fun p hp=>?_⟩
  have hp':p∈([]:List (Addr×Obj)):=by
   have:Y.pn=[]:=by rw[← hX];rfl
   rw[this]at hp;exact hp
  cases hp'
 have fin:∀ (s5:Shared) (σ5:St) (H5:Hp),Inv Y [] σ5 H5 s5→Q (.ref s2.heap.objs.size) H5→compPost (model X.prog X.w) X.A X.xe use QQ (.ref s2.heap.objs.size) s3.heap.objs.size (.ok .next) s5:=fun s5 σ5 H5 I5 q=>by
  obtain⟨m,hn,_⟩:=id I5.loc
  rw[Yl]at hn
  have hCn:H5 s3.heap.objs.size=none:=by have:=I5.free;rw[Yl]at this;exact this
  have un:Un (frs X.stack) fp (upd H2 s2.heap.objs.size (.lst [])) H5 s3.heap s5.heap:=by
   have:=I5.base
   rw[← hX]at this
   exact this
  have os5:s5.os=s3.os:=by have:=I5.os;rw[← hX]at this;exact this
  have hok5:HOk X.prog X.w H5 s5.heap:=by
   have:=I5.hok
   rw[Yp,Yw]at this
   exact this
  refine post _ _ s5 H5 m (I3.call' (s':=s5) (ch:=fp) os5 un hok5 I5.bare fun b hb=>?_) hCn hn (QU I3.lt) I3.sz (fun x a e=>?_) (fun p hp=>?_) q
  ·obtain⟨_,q1,_,q3,q4,q5⟩:=f3 b hb
   exact⟨q3,q1,q4,q5⟩
  ·obtain⟨v,ob,e',_⟩:=I3.cell x a e
   exact Qu (Qk e')
  ·exact Qu (Qk (I3.pin p hp).1)
 have loop:codeAny (model X.prog X.w) X.A (.compLoop (.ListComp elt [⟨tg,iter,ifs,0⟩] c pos) 0 (.ref it) (.ref s2.heap.objs.size) (compEnvC c (Zal X.env.cells c.names []) s3.heap.objs.size X.env))
   (compPost (model X.prog X.w) X.A X.xe use QQ (.ref s2.heap.objs.size) s3.heap.objs.size) { s3 with heap:=h₁,toks:=s2.toks }:=by
  rw[← Yenv,← YA]
  refine Zf8 (E:=fun _ _=>False) (fun n s'=>∃i ys σ' H',Inv Y [] σ' H' s'∧tn i s'.heap∧(∀b∈fp,H' b=none)∧W i n ys σ' H') (fun _ _ z=>z) ?_ m0
   ⟨0,[],_,_,I4,st4,fun b hb=>(f3 b hb).1,?_⟩
  ·rintro n s5 ⟨i,ys,σ5,H5,I5,st5,fr5,w5⟩
   rcases turn i n ys σ5 H5 w5 with⟨stop,qn⟩|⟨go,Nn,hNn,step⟩
   ·refine thn (T.done Y Yp Yw YK Yc i [] s5 σ5 H5 _ I5 (stat fr5) st5 stop) fun r s6 ⟨hr,I6⟩=>?_
    subst hr
    have fq:=fin s6 σ5 H5 I6 qn
    rw[← YA]at fq
    exact fq
   ·refine thn (T.item Y Yp Yw YK Yc i [] s5 σ5 H5 _ I5 (stat fr5) st5 go) fun r s6 ⟨u,hr,h6⟩=>?_
    subst hr
    refine thn h6 fun _ s7 ⟨x,H7,I7,r7,y7,st7,fr7⟩=>?_
    have I7':=I7.pinned (stat fr7) (T.obj _ _ st7)
    have back:∀ {σ9:St} {H9:Hp} {s9:Shared},Inv Y ([]++Zej fp s7.heap) σ9 H9 s9→Inv Y [] σ9 H9 s9∧tn (i+1) s9.heap∧∀b∈fp,H9 b=none:=fun {σ9 H9 s9} I9=>by
     refine⟨I9.unpinned,T.keep _ _ _ st7 fun b hb ob e=>(I9.pin (b,ob) (Qo _ (Qo _ (Zbc hb e)))).1,fun b hb=>?_⟩
     obtain⟨ob,e,d⟩:=T.obj _ _ st7 b hb
     exact(I9.pin (b,ob) (Qo _ (Qo _ (Zbc hb e)))).2.1
    have P1:=hg' _ s7 σ5 H7 x u _ I7' r7 (step x H7 y7)
    rw[Yp,Yw,Yxe]at P1
    refine thn P1 fun _ s8 ⟨σ8,H8,I8,q8⟩=>?_
    have P2:=ht' _ s8 σ8 H8 _ I8 q8
    rw[Yp,Yw,Yxe]at P2
    refine thn P2 fun ok s9 ⟨H9,I9,q9⟩=>?_
    cases ok with
    | false =>
     rw[if_neg Qi]at q9
     rw[if_neg Qi]
     obtain⟨b1,b2,b3⟩:=back I9
     obtain⟨m',hm',w9⟩:=hNn _ _ _ q9
     exact⟨m',hm',i+1,ys,σ8,H9,b1,b2,b3,w9⟩
    | true =>
     rw[if_pos rfl]at q9
     rw[if_pos rfl]
     have P3:=he' _ s9 σ8 H9 _ I9 q9
     rw[Yp,Yw,Yxe]at P3
     refine thn P3 fun y s10 ⟨vy,H10,I10,r10,hDl,hsz,q10⟩=>?_
     have P4:=ZaZ (X:=Y) _ s10 σ8 H10 (.ref s2.heap.objs.size) [vy] (.ref s2.heap.objs.size) [y] (fun _ H'=>Nn (ys++[vy]) σ8 H') I10 rfl (.cons r10 .nil) ⟨_,ys,vy,rfl,rfl,hDl,hsz,q10⟩
     rw[Yp,Yw,Yxe]at P4
     refine thn P4 fun _ s11 ⟨_,H11,I11,_,q11⟩=>?_
     obtain⟨b1,b2,b3⟩:=back I11
     obtain⟨m',hm',w11⟩:=hNn _ _ _ q11
     exact⟨m',hm',i+1,ys++[vy],σ8,H11,b1,b2,b3,w11⟩
  ·exact w0
 have lp:=T.self X.A 0 { s3 with heap:=h₁,toks:=s2.toks } (fun it' s'=>codeAny (model X.prog X.w) X.A (.compLoop (.ListComp elt [⟨tg,iter,ifs,0⟩] c pos) 0 it' (.ref s2.heap.objs.size) (compEnvC c (Zal X.env.cells c.names []) s3.heap.objs.size X.env))
   (compPost (model X.prog X.w) X.A X.xe use QQ (.ref s2.heap.objs.size) s3.heap.objs.size) s') (fun _ _=>False) st4 loop
 exact codeAny_compStart_list loop (wpAny_mono lp (fun _ _ z=>z) fun _ _ z=>z.elim)
theorem Inv.let{pins:List (Addr×Obj)}{σ:St}{H:Hp}{s:Shared}{C:Addr}{h':Heap}(I:Inv X pins σ H s)(hn:H C=none)(hL:C≠X.env.locals)(h1:X.s₀.heap.objs.size≤C)
  (h2:∀x a,X.env.cells.lookup x=some a→a≠C) (h3:∀p∈X.pn++pins,p.1≠C) (hs:Heap.SameBut C s.heap h'):Inv X pins σ H { s with heap:=h' } :=
 I.turned (t':=s.toks) (fun b ob hb e=>hs.extBut b ob hb e) hn hL (.inr h1) h2 h3
theorem Zbe{elt tg iter:Expr}{ifs:List Expr}{pos:Pos}{wi:TI}{g:TG}{tc:TT}{te:TE}(S:Z7 N N' o c)(hN:X.N=N)(ho:X.env.scope=o)(hc:X.calm=true)
  (hi:PI X tg iter wi) (hg:∀C s H fp,PG (Z9 X c N' C s H fp) tg g) (ht:∀C s H fp,PTs (Z9 X c N' C s H fp) ifs tc) (he:∀C s H fp,PE (Z9 X c N' C s H fp) elt te)
  (hs:∀x,foldedSetIterable iter X.env x=pure x:=by intro _;rfl) :
  PE X (.ListComp elt [⟨tg,iter,ifs,0⟩] c pos) (ZmL (N'.length-N.length) wi g tc te):=by
 intro pins s σ H Q I h
 rw[eval_ListComp]
 refine ZkK (use:=none) S hN ho hc hi hg ht he hs I h fun D C s5 H5 m I5 hCn hn n1 n2 n3 n4 q=>⟨m,hn,fun h' hsb=>?_⟩
 exact⟨.ref D,H5,I5.let hCn n1 n2 n3 n4 hsb,rfl,q⟩
end
theorem Ze3{ys:List Str}:∀ {us:List Value},ZB (ys.map V.str) us→StrsAre us ys:=by
 induction ys with
 | nil=>intro us r;rw[List.map_nil]at r;cases r;exact .nil
 | cons y ys ih =>
  intro us r
  rw[Qg]at r
  cases r with
  | cons r1 r2 =>
   obtain⟨t,e⟩:=r1
   subst e
   exact .cons _ _ (ih r2)
theorem ZfH:∀ {vs:List Value} {ys:List Str},StrsAre vs ys→ZB (ys.map V.str) vs
 | _,_,.nil=>.nil
 | _,_,.cons _ t h=>.cons ⟨t,rfl⟩ (ZfH h)
section
variable {X:Cx}
def Zon(K:PySem.W.Frag):List V→Hp→VK→Prop:=fun xs H Q=>∃x c t b,xs=[x,.ty c]∧ZdO K H x t∧PySem.W.kitOne K t (.type c)=some b∧Q (.bl b) H
theorem Zll:Zay X (.builtin "isinstance") (Zon X.K):=by
 intro pins s σ H xs us Q I r h
 obtain⟨x,c,t,b,rfl,ty,e,q⟩:=h
 obtain⟨u,w',rfl,rx,rc⟩:=Zit r
 cases rc
 exact ZjX I rx ty e fun tk=>⟨.bl b,H,I.tok _,rfl,q⟩
def ZmS(K:PySem.W.Frag):List V→Hp→VK→Prop:=fun xs H Q=>∃ (x:V) (tp:Addr) (cs:List String) (t:Value) (b:Bool),xs=[x,.ref tp]∧H tp=some (.tup (cs.map V.ty))∧ZdO K H x t∧PySem.W.kitAny K t (cs.map Value.type)=some b∧Q (.bl b) H
theorem ZlY{cs:List String}:∀ {us:List Value},ZB (cs.map V.ty) us→us=cs.map Value.type:=by
 induction cs with
 | nil=>intro us r;rw[List.map_nil]at r;cases r;rfl
 | cons y ys ih =>
  intro us r
  rw[Qg]at r
  cases r with
  | cons r1 r2=>rw[show _=Value.type y from r1,ih r2];rfl
theorem Zjs:Zay X (.builtin "isinstance") (ZmS X.K):=by
 intro pins s σ H xs us Q I r h
 obtain⟨x,tp,cs,t,b,rfl,ht,ty,e,q⟩:=h
 obtain⟨u,w',rfl,rx,rc⟩:=Zit r
 cases rc
 obtain⟨_,its,rv,⟨ot,e1,e2,n,e3⟩⟩:=I.hok tp _ ht
 have ei:=ZlY rv
 subst ei
 obtain⟨oc,od,dt,sl⟩:=ot
 have e2':oc=Value.type "tuple":=e2
 have e3':dt=Data.seq (cs.map Value.type).toArray n:=e3
 subst e2';subst e3'
 have fin:∀tk,EP X pins σ Q (.bool b) { s with toks:=tk }:=fun tk=>⟨.bl b,H,I.tok _,rfl,q⟩
 cases ty with
 | non=>cases (show u=Value.none from rx);exact QT PySem.W.kitx_none I.kIn True.intro e1 e (fun z=>nomatch z) fin
 | bl y=>cases (show u=Value.bool y from rx);exact QT PySem.W.kitx_bool I.kIn True.intro e1 e (fun z=>nomatch z) fin
 | int i=>obtain⟨t,q⟩:=(show ∃t,u=Value.int i t from rx);cases q;exact QT PySem.W.kitx_int I.kIn True.intro e1 e (fun z=>nomatch z) fin
 | str y=>obtain⟨t,q⟩:=(show ∃t,u=Value.str y t from rx);cases q;exact QT PySem.W.kitx_str I.kIn True.intro e1 e (fun z=>nomatch z) fin
 | flt y=>obtain⟨t,q⟩:=(show ∃t,u=Value.float y t from rx);cases q;exact QT PySem.W.kitx_float I.kIn True.intro e1 e (fun z=>nomatch z) fin
 | @lst a xs ea =>
  cases (show u=Value.ref a from rx)
  obtain⟨_,_,n,_,h1⟩:=(show Z1 X.prog X.w H s.heap a (.lst xs) from I.hok a _ ea)
  exact QT Qav I.kIn ⟨_,h1,rfl⟩ e1 e (fun z=>nomatch z) fin
 | @frz a ob xs ea =>
  cases (show u=Value.ref a from rx)
  obtain⟨_,_,_,n,_,h1⟩:=(show Z1 X.prog X.w H s.heap a (.frz ob (.lst xs)) from I.hok a _ ea)
  exact QT Qav I.kIn ⟨_,h1,rfl⟩ e1 e (fun z=>nomatch z) fin
 | @tup a xs ea =>
  cases (show u=Value.ref a from rx)
  obtain⟨_,_,_,p⟩:=(show Z1 X.prog X.w H s.heap a (.tup xs) from I.hok a _ ea)
  obtain⟨o,h1,h2,_⟩:=p
  exact QT PySem.W.kitx_tuple I.kIn ⟨o,h1,h2⟩ e1 e (fun z=>nomatch z) fin
 | @dK a kvs ea =>
  cases (show u=Value.ref a from rx)
  obtain⟨_,_,vs,_,p⟩:=(show Z1 X.prog X.w H s.heap a (.dK kvs) from I.hok a _ ea)
  obtain⟨o,es,ep,h1,h2,_⟩:=p
  exact QT Qaw I.kIn ⟨o,h1,h2.1⟩ e1 e (fun z=>nomatch z) fin
 | @dT a kvs ea =>
  cases (show u=Value.ref a from rx)
  obtain⟨_,_,xs,_,o,es,ep,h1,h2,_⟩:=(show Z1 X.prog X.w H s.heap a (.dT kvs) from I.hok a _ ea)
  exact QT Qaw I.kIn ⟨o,h1,h2.1⟩ e1 e (fun z=>nomatch z) fin
 | @ins a C dx fs ea cl ha hn htk hm =>
  cases (show u=Value.ref a from rx)
  obtain⟨mA,O,_⟩:=ZdV I.hok ea
  obtain⟨od,J,_⟩:=O.look
  exact QT (PySem.W.kitx_own (cl.get _) cl.hd ha hn htk hm) I.kIn J e1 e (fun z=>nomatch z) fin
theorem Zk7(hc:X.calm=true):Zay X (.builtin "all") (fun xs H Q=>∃ (p:Addr) (bs:List Bool),xs=[.ref p]∧SqL X.K H p (bs.map V.bl)∧Q (.bl (bs.all id)) H):=by
 intro pins s σ H xs us Q I r h
 obtain⟨p,bs,rfl,hq,q⟩:=h
 obtain⟨u,rfl,rx⟩:=Zct r
 cases rx
 obtain⟨its,rv,pl,hz⟩:=I.list hq
 have hl:=pl.isList
 have hlt:p<s.heap.objs.size:=by obtain⟨_,e,_⟩:=hl;exact Qk e
 refine call_all_walk (wpAny_pyIter_list hl ?_)
 refine⟨s.heap.objs.size,[s.heap.objs.size,p],[s.heap.objs.size],its.toArray.size,_,_,fun i=>(bs[i]?).getD true,rfl,Walks.list (A:=X.A.in1) (I.ok.hd hc) _ p (Qu hlt) its.toArray,
  ⟨⟨_,Qn _ rfl,rfl,rfl⟩,hl.push _⟩,fun i v s' Q' E' hP hQ=>?_,fun h' tk hk=>?_⟩
 ·have hP':its[i]? = some v:=by simpa using hP
  have hi:i<its.length:=(Qf.mp hP').1
  have hlen:=rv.length
  have hb:(bs.map V.bl)[i]? = some (V.bl (bs[i]'(by rw[Qa]at hlen;omega))):=by
   rw[Qs,Qb (by rw[Qa]at hlen;omega)];rfl
  obtain⟨u',hu',ru'⟩:=rv.get hb
  rw[hP']at hu';cases hu'
  obtain rfl:v=Value.bool _:=ru'
  have hQ2:Q' ((bs[i]?).getD true) s':=hQ
  rw[Qb (by rw[Qa]at hlen;omega)]at hQ2
  exact wpAny_truthy_bool hQ2
 ·have e:((List.range its.toArray.size).all fun i=>(bs[i]?).getD true)=bs.all id:=by
   have hlen:=rv.length
   rw[Qa]at hlen
   rw[Qv,← hlen,Qaq,Qam,Qam]
   constructor
   ·intro z b hb
    obtain⟨i,hi,rfl⟩:=List.mem_iff_getElem.mp hb
    have:=z i (Q7.mpr hi)
    rw[Qb hi]at this
    exact this
   ·intro z i hi
    have hi':=Q7.mp hi
    rw[Qb hi']
    exact z _ (Q6 hi')
  refine⟨.bl (bs.all id),H,I.kept fun b ob e'=>hk b ob (fun hm=>?_) (Qc _ e'),by rw[e];rfl,q⟩
  rw[Ql.mp hm]at e'
  exact QY _ (Qk e')
theorem Zgk:Zay X (.builtin "sorted") (fun xs H Q=>∃ (p:Addr) (ss:List Str),xs=[.ref p]∧SqL X.K H p (ss.map V.str)∧ss.length<64 ∧
  ∀ (l:Addr) (ss':List Str),H l=none→ss'.Perm ss→sortedS ss'=true→Q (.ref l) (upd H l (.lst (ss'.map V.str)))):=by
 intro pins s σ H xs us Q I r h
 obtain⟨p,ss,rfl,hq,h64,q⟩:=h
 obtain⟨u,rfl,rx⟩:=Zct r
 cases rx
 obtain⟨its,rv,pl,hz⟩:=I.list hq
 have hlen:=rv.length
 rw[Qa]at hlen hz
 refine sorted_strs pl.isList (Ze3 rv) (by omega) fun out ss' a1 a2 a3=>?_
 obtain⟨e,he⟩:=sortedAll_at s.heap its out
 have hp:=a2.length_eq
 refine⟨.ref (s.heap.objs.size+1),_,I.laid (t':=s.toks) (o:=.lst (ss'.map V.str)) (fun _ _=>sortedAll_old) (QaF _) ⟨by rw[Qa];omega,out.toList,e,ZfH a1,by simpa using he⟩,rfl,q _ ss' (I.hok.fresh (QaF _)) a2 a3⟩
theorem Zms:MtR X "str.join" (fun x vs H Q=>∃ (sep:Str) (p:Addr) (ys:List Str),x=.str sep∧vs=[.ref p]∧SqL X.K H p (ys.map V.str)∧(ys.map (·.length)).sum+ys.length*sep.length≤16777216∧Q (.str (Txt.join sep ys)) H):=by
 intro pins s σ H x vs v us Q I rx rv h
 obtain⟨sep,p,ys,rfl,rfl,hq,hz,q⟩:=h
 obtain⟨t,rfl⟩:=rx
 obtain⟨u,rfl,ru⟩:=rv.one
 cases ru
 obtain⟨its,r',pl,_⟩:=I.list hq
 exact join_list pl.isList (Ze3 r') hz fun t' k=>⟨.str _,H,I.tok _,⟨_,rfl⟩,q⟩
theorem Zl4:OpR X (binaryOp .Mult) (fun x y H Q=>∃a n,x=.str a∧y=.int n∧0≤n∧n≤1000000∧(a.length:Int)*n≤1000000∧Q (.str (Txt.mul a n)) H):=by
 intro pins s σ H x y v u Q I rx ry h
 obtain⟨a,n,rfl,rfl,h0,h1,h2,q⟩:=h
 obtain⟨t,rfl⟩:=rx
 obtain⟨t',rfl⟩:=ry
 have h2':a.length*n.toNat≤1000000:=by
  have e:((a.length*n.toNat:Nat):Int)=(a.length:Int)*n:=by rw[Int.natCast_mul,Int.toNat_of_nonneg h0]
  omega
 refine PySem.P.mul_str ?_ (fun c1 c2=>?_) (fun c1 c2=>?_) ?_
 ·have e1:decide (n < -(2 ^ 63:Int))=false:=decide_eq_false (by omega)
  have e2:decide (n≥2 ^ 63)=false:=decide_eq_false (by omega)
  rw[e1,e2];rfl
 ·have hn:(1:Int)≤n:=by omega
  have q1:(a.length:Int)*1≤(a.length:Int)*n:=Int.mul_le_mul_of_nonneg_left hn (Int.natCast_nonneg _)
  have q2:(1000000:Int)≤(2 ^ 63-1) / n:=by
   rw[Int.le_ediv_iff_mul_le (by omega)]
   have:(1000000:Int)*n≤1000000*1000000:=Int.mul_le_mul_of_nonneg_left h1 (by decide)
   omega
  omega
 ·unfold Builtin.Str.tooLong
  have hl:sizeLine=16777216:=sizeLine_eq
  exact decide_eq_false (by omega)
 ·have e:Txt.mul a n=if n<1 then Str.empty else if (n == 1||a.length == 0)=true then a else ⟨(List.replicate n.toNat a.cps).foldl (·++·) #[]⟩:=rfl
  rw[e]at q
  by_cases c1:n<1
  ·rw[if_pos c1]at q ⊢
   exact⟨by decide,.str _,H,I.tok _,⟨_,rfl⟩,q⟩
  ·rw[if_neg c1]at q ⊢
   by_cases c2:(n == 1||a.length == 0)=true
   ·rw[if_pos c2]at q ⊢
    exact⟨.str _,H,I,⟨_,rfl⟩,q⟩
   ·rw[if_neg c2]at q ⊢
    refine⟨?_,.str _,H,I.tok _,⟨_,rfl⟩,q⟩
    have hfold:∀ (k:Nat) (acc:Array Nat),((List.replicate k a.cps).foldl (·++·) acc).size=acc.size+k*a.cps.size:=by
     intro k
     induction k with
     | zero=>intro acc;simp
     | succ k ih=>intro acc;rw[List.replicate_succ,List.foldl_cons,ih,Array.size_append,Nat.succ_mul];omega
    show ((List.replicate n.toNat a.cps).foldl (·++·) #[]).size≤sizeLine
    rw[hfold]
    have e2:a.cps.size=a.length:=rfl
    have:n.toNat*a.cps.size≤1000000:=by rw[e2,Nat.mul_comm];exact h2'
    have hl:sizeLine=16777216:=sizeLine_eq
    simp only[List.size_toArray,List.length_nil]
    omega
def rSlS:V→Option Int→Option Int→Hp→VK→Prop:=fun x lo hi H Q=>∃z,x=.str z∧z.length≤sizeLine∧Q (.str (Txt.slice z lo hi)) H
end
inductive Src where
 | l (a:Addr)|t (a:Addr)|s (z:Str)
def Src.val:Src→V
 | .l a=>.ref a
 | .t a=>.ref a
 | .s z=>.str z
def ZlQ(c:Nat):V:=.str ⟨#[c]⟩
def Src.its(K:PySem.W.Frag)(H:Hp):Src→List V→Prop
 | .l a,xs=>SqL K H a xs
 | .t a,xs=>SqT K H a xs
 | .s z,xs=>xs=z.cps.toList.map ZlQ
def Src.at(h:Heap)(i:Addr):Src→Nat→Prop
 | .l a,k=>h.IsListIter i a k
 | .t a,k=>h.IsTupleIter i a k
 | .s z,k=>∃tk,h.IsStrIter i (strIterType z) z tk k
def Src.raw(h:Heap):Src→List Value→Prop
 | .l a,us=>h.IsList a us.toArray
 | .t a,us=>h.IsTuple a us.toArray
 | .s _,_=>True
def Src.fit:Src→List Value→Nat→Value→Prop
 | .l _,us,k,u=>us[k]? = some u
 | .t _,us,k,u=>us[k]? = some u
 | .s z,_,k,u=>∃c tk,z.cps[k]? = some c∧u=.str ⟨#[c]⟩ tk
def Src.many:Src→List Value→Nat
 | .l _,us=>us.length
 | .t _,us=>us.length
 | .s z,_=>z.cps.size
def Src.off:Src→Addr→Prop
 | .l a,b=>a≠b
 | .t a,b=>a≠b
 | .s _,_=>True
theorem Src.at_obj{h:Heap}{i:Addr}:∀ {S:Src} {k:Nat},S.at h i k→∃o vs,h.get? i=some o∧o.data=.fields vs
 | .l _,_,⟨o,e,_,d⟩=>⟨o,_,e,d⟩
 | .t _,_,⟨o,e,_,d⟩=>⟨o,_,e,d⟩
 | .s _,_,⟨_,o,e,_,d⟩=>⟨o,_,e,d⟩
theorem Src.at_keep{h h':Heap}{i:Addr}(k':∀o,h.get? i=some o→h'.get? i=some o):∀ {S:Src} {k:Nat},S.at h i k→S.at h' i k
 | .l _,_,⟨o,e,d⟩=>⟨o,k' o e,d⟩
 | .t _,_,⟨o,e,d⟩=>⟨o,k' o e,d⟩
 | .s _,_,⟨tk,o,e,d⟩=>⟨tk,o,k' o e,d⟩
theorem Src.raw_keep{h h':Heap}{b:Addr}(k':∀c o,c≠b→h.get? c=some o→h'.get? c=some o):∀ {S:Src} {us:List Value},S.off b→S.raw h us→S.raw h' us
 | .l _,_,f,⟨o,e,d⟩=>⟨o,k' _ o f e,d⟩
 | .t _,_,f,⟨o,e,d⟩=>⟨o,k' _ o f e,d⟩
 | .s _,_,_,_=>trivial
section
variable {prog:Program} {w:World} {A:Around} {E:Value→Shared→Prop} {s:Shared}
theorem Zgj{it t:Addr}{i:Nat}{items:Array Value}{x:Value}{Q:Value→Shared→Prop}(hit:s.heap.IsTupleIter it t i)(ht:s.heap.IsTuple t items)(hx:items[i]? = some x)
  (hQ:∀h',h'.IsTupleIter it t (i+1)→Heap.SameBut it s.heap h'→Q x { s with heap:=h' }):wpAny (model prog w) A (Builtin.SmallTypes.nextOf (.ref it)) Q E s:=by
 obtain⟨o,ho,hc,hd⟩:=id hit
 obtain⟨ol,hol,_,nl,hdl⟩:=ht
 unfold Builtin.SmallTypes.nextOf
 refine wpAny_bind (wpAny_callSpecial?_slot (name:=Str.ofString "__next__") hit.typeIs F.slot_tuple_iterator_next
  (wpAny_call_entry F.slot_tuple_iterator_next hit.typeIs F.entry_tuple_iterator_next ?_ (F.args_tuple_iterator_next_1 _)))
 show wpAny _ _ (field (.ref it) 0 >>= _) _ _ s
 refine wpAny_bind (wpAny_field ho hd (x:=.ref t) rfl ?_)
 show wpAny _ _ (if (Value.ref t == Value.none)=true then _ else _) _ _ s
 rw[if_neg (show ¬ ((Value.ref t == Value.none)=true) from Qi)]
 show wpAny _ _ (field (.ref it) 1 >>= _) _ _ s
 refine wpAny_bind (wpAny_field ho hd (x:=.int i 0) rfl ?_)
 show wpAny _ _ (seqItems? (.ref t) >>= _) _ _ s
 refine wpAny_bind (wpAny_seqItems hol hdl ?_)
 simp only[Int.toNat_natCast,hx]
 refine wpAny_bind (wpAny_setField ho hd (by simp) (wpAny_pure ⟨x,rfl,wpAny_pure (hQ _ ?_ (Heap.SameBut.update ..))⟩))
 exact⟨_,Heap.get?_update_self _ ho (Obj.isFreed_of_fields (Obj.data_mapFields hd _)),(Obj.cls_mapFields ..).trans hc,by
  rw[Obj.data_mapFields hd];simp[rawInt]⟩
theorem ZcN{i:Addr}{k:Nat}{us:List Value}{Q:Value→Shared→Prop}:∀ {S:Src},S.at s.heap i k→S.raw s.heap us→k<S.many us →
  (∀h' tk u,S.fit us k u→S.at h' i (k+1)→Heap.SameBut i s.heap h'→Q u { s with heap:=h',toks:=tk })→wpAny (model prog w) A (Builtin.SmallTypes.nextOf (.ref i)) Q E s
 | .l a,h1,h2,h3,hQ=>wpAny_nextOf_list_item h1 h2 (x:=us[k]'h3) (by rw[Qab];exact Qb h3) fun h' q1 q2=>hQ h' s.toks _ (Qb h3) q1 q2
 | .t a,h1,h2,h3,hQ=>Zgj h1 h2 (x:=us[k]'h3) (by rw[Qab];exact Qb h3) fun h' q1 q2=>hQ h' s.toks _ (Qb h3) q1 q2
 | .s z,⟨tk,h1⟩,h2,h3,hQ=>by
  have hx:z.cps[k]? = some z.cps[k]:=Array.getElem?_eq_getElem h3
  by_cases ha:z.cps.all (·<128)=true
  ·have e:strIterType z = "str_ascii_iterator":=by unfold strIterType;rw[if_pos ha]
   rw[e]at h1
   exact wpAny_nextOf_ascii_item h1 hx fun h' q1 q2=>hQ h' _ _ ⟨_,_,hx,rfl⟩ ⟨tk,by rw[e];exact q1⟩ q2
  ·have e:strIterType z = "str_iterator":=by unfold strIterType;rw[if_neg ha]
   rw[e]at h1
   exact wpAny_nextOf_wide_item h1 hx fun h' q1 q2=>hQ h' _ _ ⟨_,_,hx,rfl⟩ ⟨tk,by rw[e];exact q1⟩ q2
theorem Zee{it t:Addr}{i:Nat}{items:Array Value}{Q:Value→Shared→Prop}(hh:A.handled=none)(hit:s.heap.IsTupleIter it t i)(ht:s.heap.IsTuple t items)(hx:items[i]? = none)
  (hE:∀h' e,Heap.ExtBut it s.heap h'→(∃o,h'.get? e=some o∧o.cls=.type "StopIteration")→E (.ref e) { s with heap:=h' }):wpAny (model prog w) A (Builtin.SmallTypes.nextOf (.ref it)) Q E s:=by
 obtain⟨o,ho,hc,hd⟩:=id hit
 obtain⟨ol,hol,_,nl,hdl⟩:=ht
 unfold Builtin.SmallTypes.nextOf
 refine wpAny_bind (wpAny_callSpecial?_slot (name:=Str.ofString "__next__") hit.typeIs F.slot_tuple_iterator_next
  (wpAny_call_entry F.slot_tuple_iterator_next hit.typeIs F.entry_tuple_iterator_next ?_ (F.args_tuple_iterator_next_1 _)))
 show wpAny _ _ (field (.ref it) 0 >>= _) _ _ s
 refine wpAny_bind (wpAny_field ho hd (x:=.ref t) rfl ?_)
 show wpAny _ _ (if (Value.ref t == Value.none)=true then _ else _) _ _ s
 rw[if_neg (show ¬ ((Value.ref t == Value.none)=true) from Qi)]
 show wpAny _ _ (field (.ref it) 1 >>= _) _ _ s
 refine wpAny_bind (wpAny_field ho hd (x:=.int i 0) rfl ?_)
 show wpAny _ _ (seqItems? (.ref t) >>= _) _ _ s
 refine wpAny_bind (wpAny_seqItems hol hdl ?_)
 simp only[Int.toNat_natCast,hx]
 refine wpAny_bind (wpAny_rule (wpAny_bind (wpAny_setField ho hd (by simp) ?_)))
 show wpAny _ _ (newExc (.type "StopIteration") [] >>= _) _ _ _
 refine wpAny_bind ?_
 simp only[newExc,newTuple]
 refine wpAny_bind (wpAny_newObj_type ?_ (by size_fits))
 refine wpAny_bind (m:=firstArgMember _ _) (wpAny_of_eq (a:=Value.none) (by first|rfl|(simp only[firstArgMember];rfl)) ?_)
 refine wpAny_newObj_type ?_ (by size_fits)
 simp only[raiseNew]
 refine wpAny_bind (wpAny_handled ?_)
 first|rw[show A.in1.handled=none from hh]|rw[hh]
 refine wpAny_bind (wpAny_pure (wpAny_throw ?_))
 exact hE _ _ (((Heap.SameBut.update ..).extBut.push _).push _) ⟨_,Qn _ rfl,rfl⟩
theorem ZeF{i:Addr}{k:Nat}{us:List Value}{Q:Value→Shared→Prop}(hh:A.handled=none):∀ {S:Src},S.at s.heap i k→S.raw s.heap us→S.many us≤k →
  (∀h' e,Heap.ExtBut i s.heap h'→(∃o,h'.get? e=some o∧o.cls=.type "StopIteration")→E (.ref e) { s with heap:=h' })→wpAny (model prog w) A (Builtin.SmallTypes.nextOf (.ref i)) Q E s
 | .l a,h1,h2,h3,hE=>wpAny_nextOf_list_end hh h1 h2 (by rw[Qab];exact QJ h3) hE
 | .t a,h1,h2,h3,hE=>Zee hh h1 h2 (by rw[Qab];exact QJ h3) hE
 | .s z,⟨tk,h1⟩,h2,h3,hE=>by
  have hx:z.cps[k]? = none:=Array.getElem?_eq_none h3
  by_cases ha:z.cps.all (·<128)=true
  ·have e:strIterType z = "str_ascii_iterator":=by unfold strIterType;rw[if_pos ha]
   rw[e]at h1
   exact wpAny_nextOf_ascii_end hh h1 hx hE
  ·have e:strIterType z = "str_iterator":=by unfold strIterType;rw[if_neg ha]
   rw[e]at h1
   exact wpAny_nextOf_wide_end hh h1 hx hE
structure Zgf (z TI TO i1 i2:Addr) (S1 S2:Src):Prop where
 TIz:TI≠z
 TOz:TO≠z
 i1z:i1≠z
 i2z:i2≠z
 TITO:TI≠TO
 TIi1:TI≠i1
 TIi2:TI≠i2
 TOi1:TO≠i1
 TOi2:TO≠i2
 i12:i1≠i2
 s1z:S1.off z
 s1TO:S1.off TO
 s1i1:S1.off i1
 s1i2:S1.off i2
 s2z:S2.off z
 s2TO:S2.off TO
 s2i1:S2.off i1
 s2i2:S2.off i2
theorem Zkr{z TI TO i1 i2:Addr}{S1 S2:Src}{k:Nat}{us1 us2:List Value}{a b:Value}{Q:Option Value→Shared→Prop}(D:Zgf z TI TO i1 i2 S1 S2)
  (hz:IsZip s.heap z TI TO .none) (hTI:IsPair s.heap TI (.ref i1) (.ref i2)) (hTO:IsPair s.heap TO a b)
  (h1:S1.at s.heap i1 k) (h2:S2.at s.heap i2 k) (r1:S1.raw s.heap us1) (r2:S2.raw s.heap us2) (m1:k<S1.many us1) (m2:k<S2.many us2)
  (hQ:∀h' tk x y,S1.fit us1 k x→S2.fit us2 k y→IsZip h' z TI TO (rawInt s.heap.objs.size)→IsPair h' TO x y→S1.at h' i1 (k+1)→S2.at h' i2 (k+1)→IsPair h' s.heap.objs.size x y→h'.objs.size=s.heap.objs.size+1 →
   (∀c o,c≠z→c≠TO→c≠i1→c≠i2→s.heap.get? c=some o→h'.get? c=some o)→Q (some (.ref s.heap.objs.size)) { s with heap:=h',toks:=tk }) :
  wpAny (model prog w) A (pyNext (.ref z)) Q E s:=by
 have hT:s.TypeIs (.ref z) "zip":=⟨_,hz,rfl⟩
 unfold pyNext
 refine wpAny_bind (wpAny_attempt (wpAny_callSpecial?_slot (name:=Str.ofString "__next__") hT F.slot_zip_next (wpAny_call_entry F.slot_zip_next hT F.entry_zip_next ?_ (F.args_zip_next_1 _))))
 show wpAny _ _ (field (.ref z) 2 >>= _) _ _ _
 refine wpAny_bind (wpAny_field hz rfl (x:=.bool false) rfl ?_)
 show wpAny _ _ (field (.ref z) 3 >>= _) _ _ _
 refine wpAny_bind (wpAny_field hz rfl (x:=.ref TI) rfl (wpAny_bind (wpAny_seqItems hTI rfl ?_)))
 show wpAny _ _ (Builtin.SmallTypes.ownedTupleIsFree (.ref z) >>= _) _ _ _
 unfold Builtin.SmallTypes.ownedTupleIsFree
 refine wpAny_bind (wpAny_bind (wpAny_field hz rfl (x:=.none) rfl (wpAny_pure ?_)))
 simp only[if_true]
 refine wpAny_bind (wpAny_rule (wpAny_bind (wpAny_field hz rfl (x:=.ref TO) rfl (wpAny_bind (wpAny_setField_rec hz (by simp) fun h₁ hz₁ hs₁=>?_)))))
 replace hz₁:IsZip h₁ z TI TO .ellipsis:=hz₁
 refine wpAny_bind ?_
 simp only[List.zipIdx_cons,List.zipIdx_nil,List.forIn_cons,List.forIn_nil]
 refine wpAny_bind (wpAny_bind (wpAny_onRaise ?_))
 show wpAny _ _ (Builtin.SmallTypes.nextOf (.ref i1) >>= _) _ _ _
 refine wpAny_bind (ZcN (S:=S1) (us:=us1) (k:=k) (S1.at_keep (fun o e=>hs₁.extBut _ o D.i1z e) h1) (S1.raw_keep (fun c o n e=>hs₁.extBut c o n e) D.s1z r1) m1 fun h₂ tk₂ x fx h1₂ hs₂=>wpAny_pure ?_)
 have hs₂':Heap.SameBut i1 h₁ h₂:=hs₂
 have hTO₂:IsPair h₂ TO a b:=hs₂'.extBut _ _ D.TOi1 (hs₁.extBut _ _ D.TOz hTO)
 refine wpAny_bind (wpAny_seqItems hTO₂ rfl (wpAny_bind (wpAny_updateSeq_pair hTO₂ fun h₃ hTO₃ hs₃=>wpAny_bind (wpAny_letGo (wpAny_pure ?_)))))
 replace hTO₃:IsPair h₃ TO x b:=hTO₃
 have hs₃':Heap.SameBut TO h₂ h₃:=hs₃
 refine wpAny_bind (wpAny_bind (wpAny_onRaise ?_))
 show wpAny _ _ (Builtin.SmallTypes.nextOf (.ref i2) >>= _) _ _ _
 refine wpAny_bind (ZcN (S:=S2) (us:=us2) (k:=k)
  (S2.at_keep (fun o e=>hs₃'.extBut _ o D.TOi2.symm (hs₂'.extBut _ o D.i12.symm (hs₁.extBut _ o D.i2z e))) h2)
  (S2.raw_keep (fun c o n e=>hs₃'.extBut c o n e) D.s2TO (S2.raw_keep (fun c o n e=>hs₂'.extBut c o n e) D.s2i1 (S2.raw_keep (fun c o n e=>hs₁.extBut c o n e) D.s2z r2))) m2 fun h₄ tk₄ y fy h2₄ hs₄=>wpAny_pure ?_)
 have hs₄':Heap.SameBut i2 h₃ h₄:=hs₄
 have hTO₄:IsPair h₄ TO x b:=hs₄'.extBut _ _ D.TOi2 hTO₃
 refine wpAny_bind (wpAny_seqItems hTO₄ rfl (wpAny_bind (wpAny_updateSeq_pair hTO₄ fun h₅ hTO₅ hs₅=>wpAny_bind (wpAny_letGo (wpAny_pure (wpAny_pure ?_))))))
 replace hTO₅:IsPair h₅ TO x y:=hTO₅
 have hs₅':Heap.SameBut TO h₄ h₅:=hs₅
 refine wpAny_bind (wpAny_seqItems hTO₅ rfl (wpAny_bind (wpAny_newTuple ?_)))
 have hsz:h₅.objs.size=s.heap.objs.size:=by rw[hs₅'.1,hs₄'.1,hs₃'.1,hs₂'.1,hs₁.1]
 have hz₅:IsZip h₅ z TI TO .ellipsis:=hs₅'.extBut _ _ D.TOz.symm (hs₄'.extBut _ _ D.i2z.symm (hs₃'.extBut _ _ D.TOz.symm (hs₂'.extBut _ _ D.i1z.symm hz₁)))
 have hk₅:∀c o,c≠z→c≠TO→c≠i1→c≠i2→s.heap.get? c=some o→h₅.get? c=some o:=fun c o c1 c2 c3 c4 e =>
  hs₅'.extBut _ _ c2 (hs₄'.extBut _ _ c4 (hs₃'.extBut _ _ c2 (hs₂'.extBut _ _ c3 (hs₁.extBut _ _ c1 e))))
 have h1₅:S1.at h₅ i1 (k+1):=S1.at_keep (fun o e=>hs₅'.extBut _ o D.TOi1.symm (hs₄'.extBut _ o D.i12 (hs₃'.extBut _ o D.TOi1.symm e))) h1₂
 have h2₅:S2.at h₅ i2 (k+1):=S2.at_keep (fun o e=>hs₅'.extBut _ o D.TOi2.symm e) h2₄
 have hzlt:z<h₅.objs.size:=Qk hz₅
 show wpAny _ _ (Builtin.SmallTypes.ownedTupleHandOut (.ref z) (.ref h₅.objs.size) >>= _) _ _ _
 refine wpAny_bind ?_
 unfold Builtin.SmallTypes.ownedTupleHandOut
 have hz₆:IsZip (h₅.push { cls:=.type "tuple",data:=.seq #[x,y] }) z TI TO .ellipsis:=Qc _ hz₅
 refine wpAny_bind (wpAny_setField_rec hz₆ (by simp) fun h₇ hz₇ hs₇=>?_)
 replace hz₇:IsZip h₇ z TI TO (rawInt h₅.objs.size):=hz₇
 refine wpAny_setField_rec hz₇ (by simp) fun h₈ hz₈ hs₈=>?_
 replace hz₈:IsZip h₈ z TI TO (rawInt h₅.objs.size):=hz₈
 have up:∀c o,c≠z→h₅.get? c=some o→h₈.get? c=some o:=fun c o c1 e=>hs₈.extBut _ _ c1 (hs₇.extBut _ _ c1 (Qc _ e))
 have hT₈:IsPair h₈ h₅.objs.size x y:=hs₈.extBut _ _ (QU hzlt) (hs₇.extBut _ _ (QU hzlt) (Qn _ rfl))
 have hz8:h₈.objs.size=h₅.objs.size+1:=by rw[hs₈.1,hs₇.1,Q0]
 rw[hsz]at hz₈ hT₈ hz8
 refine wpAny_pure ⟨_,rfl,wpAny_pure ?_⟩
 show Q (some (.ref h₅.objs.size)) _
 rw[hsz]
 exact hQ h₈ tk₄ x y fx fy hz₈ (up _ _ D.TOz hTO₅) (S1.at_keep (fun o e=>up _ o D.i1z e) h1₅) (S2.at_keep (fun o e=>up _ o D.i2z e) h2₅) hT₈ hz8 fun c o c1 c2 c3 c4 e=>up c o c1 (hk₅ c o c1 c2 c3 c4 e)
theorem ZkF{z TI TO i1 i2:Addr}{S1 S2:Src}{k:Nat}{us1 us2:List Value}{a b:Value}{Q:Option Value→Shared→Prop}(hh:A.handled=none)(D:Zgf z TI TO i1 i2 S1 S2)
  (hz:IsZip s.heap z TI TO .none) (hTI:IsPair s.heap TI (.ref i1) (.ref i2)) (hTO:IsPair s.heap TO a b)
  (h1:S1.at s.heap i1 k) (h2:S2.at s.heap i2 k) (r1:S1.raw s.heap us1) (r2:S2.raw s.heap us2) (hend:S1.many us1≤k∨S2.many us2≤k)
  (hQ:∀h' tk,(∀c o,c≠z→c≠TO→c≠i1→c≠i2→s.heap.get? c=some o→h'.get? c=some o)→Q none { s with heap:=h',toks:=tk }) :
  wpAny (model prog w) A (pyNext (.ref z)) Q E s:=by
 have hT:s.TypeIs (.ref z) "zip":=⟨_,hz,rfl⟩
 unfold pyNext
 have done:∀ (h':Heap) (tk:Nat) (e:Addr),(∀c o,c≠z→c≠TO→c≠i1→c≠i2→s.heap.get? c=some o→h'.get? c=some o)→(∃o,h'.get? e=some o∧o.cls=.type "StopIteration") →
   wpAny (model prog w) A (do if (← isInstance (.ref e) (.type "StopIteration")) then pure none else throw (.ref e):Sem (Option Value)) Q E { s with heap:=h',toks:=tk }:=fun h' tk e hk ⟨o,ho,hc⟩=>
  wpAny_bind (wpAny_isInstance (T := "StopIteration") (b:=true) ⟨o,ho,hc⟩ isSubtype_stop (wpAny_pure (hQ h' tk hk)))
 refine wpAny_bind (wpAny_attempt (wpAny_callSpecial?_slot (name:=Str.ofString "__next__") hT F.slot_zip_next (wpAny_call_entry F.slot_zip_next hT F.entry_zip_next ?_ (F.args_zip_next_1 _))))
 show wpAny _ _ (field (.ref z) 2 >>= _) _ _ _
 refine wpAny_bind (wpAny_field hz rfl (x:=.bool false) rfl ?_)
 show wpAny _ _ (field (.ref z) 3 >>= _) _ _ _
 refine wpAny_bind (wpAny_field hz rfl (x:=.ref TI) rfl (wpAny_bind (wpAny_seqItems hTI rfl ?_)))
 show wpAny _ _ (Builtin.SmallTypes.ownedTupleIsFree (.ref z) >>= _) _ _ _
 unfold Builtin.SmallTypes.ownedTupleIsFree
 refine wpAny_bind (wpAny_bind (wpAny_field hz rfl (x:=.none) rfl (wpAny_pure ?_)))
 simp only[if_true]
 refine wpAny_bind (wpAny_rule (wpAny_bind (wpAny_field hz rfl (x:=.ref TO) rfl (wpAny_bind (wpAny_setField_rec hz (by simp) fun h₁ hz₁ hs₁=>?_)))))
 replace hz₁:IsZip h₁ z TI TO .ellipsis:=hz₁
 refine wpAny_bind ?_
 simp only[List.zipIdx_cons,List.zipIdx_nil,List.forIn_cons,List.forIn_nil]
 refine wpAny_bind (wpAny_bind (wpAny_onRaise ?_))
 show wpAny _ _ (Builtin.SmallTypes.nextOf (.ref i1) >>= _) _ _ _
 by_cases m1:k<S1.many us1
 ·have m2:S2.many us2≤k:=by rcases hend with z'|z';omega;exact z'
  refine wpAny_bind (ZcN (S:=S1) (us:=us1) (k:=k) (S1.at_keep (fun o e=>hs₁.extBut _ o D.i1z e) h1) (S1.raw_keep (fun c o n e=>hs₁.extBut c o n e) D.s1z r1) m1 fun h₂ tk₂ x fx h1₂ hs₂=>wpAny_pure ?_)
  have hs₂':Heap.SameBut i1 h₁ h₂:=hs₂
  have hTO₂:IsPair h₂ TO a b:=hs₂'.extBut _ _ D.TOi1 (hs₁.extBut _ _ D.TOz hTO)
  refine wpAny_bind (wpAny_seqItems hTO₂ rfl (wpAny_bind (wpAny_updateSeq_pair hTO₂ fun h₃ hTO₃ hs₃=>wpAny_bind (wpAny_letGo (wpAny_pure ?_)))))
  have hs₃':Heap.SameBut TO h₂ h₃:=hs₃
  refine wpAny_bind (wpAny_bind (wpAny_onRaise ?_))
  show wpAny _ _ (Builtin.SmallTypes.nextOf (.ref i2) >>= _) _ _ _
  refine wpAny_bind (ZeF (S:=S2) (us:=us2) (k:=k) hh
   (S2.at_keep (fun o e=>hs₃'.extBut _ o D.TOi2.symm (hs₂'.extBut _ o D.i12.symm (hs₁.extBut _ o D.i2z e))) h2)
   (S2.raw_keep (fun c o n e=>hs₃'.extBut c o n e) D.s2TO (S2.raw_keep (fun c o n e=>hs₂'.extBut c o n e) D.s2i1 (S2.raw_keep (fun c o n e=>hs₁.extBut c o n e) D.s2z r2))) m2 fun h₄ e hs₄ he=>?_)
  obtain⟨oe,hoe,hce⟩:=he
  have hz₄:IsZip h₄ z TI TO .ellipsis:=hs₄ _ _ D.i2z.symm (hs₃'.extBut _ _ D.TOz.symm (hs₂'.extBut _ _ D.i1z.symm hz₁))
  have hez:e≠z:=fun x=>by subst x;rw[hz₄]at hoe;cases hoe;simp at hce
  exact wpAny_setField_rec hz₄ (by simp) fun h₅ _ hs₅=>done h₅ _ e (fun c o c1 c2 c3 c4 x=>hs₅.extBut _ _ c1 (hs₄ _ _ c4 (hs₃'.extBut _ _ c2 (hs₂'.extBut _ _ c3 (hs₁.extBut _ _ c1 x))))) ⟨oe,hs₅.extBut _ _ hez hoe,hce⟩
 ·refine wpAny_bind (ZeF (S:=S1) (us:=us1) (k:=k) hh (S1.at_keep (fun o e=>hs₁.extBut _ o D.i1z e) h1) (S1.raw_keep (fun c o n e=>hs₁.extBut c o n e) D.s1z r1) (by omega) fun h₂ e hs₂ he=>?_)
  obtain⟨oe,hoe,hce⟩:=he
  have hz₂:IsZip h₂ z TI TO .ellipsis:=hs₂ _ _ D.i1z.symm hz₁
  have hez:e≠z:=fun x=>by subst x;rw[hz₂]at hoe;cases hoe;simp at hce
  exact wpAny_setField_rec hz₂ (by simp) fun h₃ _ hs₃=>done h₃ _ e (fun c o c1 _ c3 _ x=>hs₃.extBut _ _ c1 (hs₂ _ _ c3 (hs₁.extBut _ _ c1 x))) ⟨oe,hs₃.extBut _ _ hez hoe,hce⟩
end
def Src.iter(tk:Tok):Src→Obj
 | .l a=>{ cls:=.type "list_iterator",data:=.fields #[.ref a,.int 0 0] }
 | .t a=>{ cls:=.type "tuple_iterator",data:=.fields #[.ref a,.int 0 0] }
 | .s z=>{ cls:=.type (strIterType z),data:=.fields #[.str z tk,.int 0 0] }
def Src.value(tk:Tok):Src→Value
 | .l a=>.ref a
 | .t a=>.ref a
 | .s z=>.str z tk
theorem Src.iter_at{h:Heap}{i:Addr}{tk:Tok}:∀ {S:Src},h.get? i=some (S.iter tk)→S.at h i 0
 | .l _,e=>⟨_,e,rfl,rfl⟩
 | .t _,e=>⟨_,e,rfl,rfl⟩
 | .s _,e=>⟨tk,_,e,rfl,rfl⟩
theorem Src.pyIter{prog:Program}{w:World}{A:Around}{E:Value→Shared→Prop}{s:Shared}{tk:Tok}{us:List Value}{Q:Value→Shared→Prop}:∀ {S:Src},S.raw s.heap us →
  Q (.ref s.heap.objs.size) { s with heap:=s.heap.push (S.iter tk) }→wpAny (model prog w) A (pyIter (S.value tk)) Q E s
 | .l _,r,q=>wpAny_pyIter_list r q
 | .t _,r,q=>wpAny_pyIter_tuple r q
 | .s _,_,q=>wpAny_pyIter_strU q
theorem Src.raw_push{h:Heap}{ob:Obj}:∀ {S:Src} {us:List Value},S.raw h us→S.raw (h.push ob) us
 | .l _,_,⟨o,e,d⟩=>⟨o,Qc _ e,d⟩
 | .t _,_,⟨o,e,d⟩=>⟨o,Qc _ e,d⟩
 | .s _,_,_=>trivial
abbrev zH1(h:Heap)(S1:Src)(t1:Tok):Heap:=h.push (S1.iter t1)
abbrev zH2(h:Heap)(S1 S2:Src)(t1 t2:Tok):Heap:=(zH1 h S1 t1).push (S2.iter t2)
abbrev zH3(h:Heap)(S1 S2:Src)(t1 t2:Tok):Heap:=(zH2 h S1 S2 t1 t2).push { cls:=.type "tuple",data:=.seq #[.ref h.objs.size,.ref (zH1 h S1 t1).objs.size] }
abbrev zH4(h:Heap)(S1 S2:Src)(t1 t2:Tok):Heap:=(zH3 h S1 S2 t1 t2).push { cls:=.type "tuple",data:=.seq #[.none,.none] }
abbrev zH5(h:Heap)(S1 S2:Src)(t1 t2:Tok):Heap:=(zH4 h S1 S2 t1 t2).push { cls:=.type "zip",data:=.fields #[.none,.bool false,.bool false,.ref (zH2 h S1 S2 t1 t2).objs.size,.ref (zH3 h S1 S2 t1 t2).objs.size] }
theorem Zmv(S1 S2:Src)(t1 t2:Tok)(us1 us2:List Value) :
  Meets (Builtin.«zip.__new__» ⟨[.type "zip",S1.value t1,S2.value t2],[]⟩) (fun _ R s=>S1.raw s.heap us1∧S2.raw s.heap us2 ∧
   R (.ok (.ret (.ref (zH4 s.heap S1 S2 t1 t2).objs.size))) { s with heap:=zH5 s.heap S1 S2 t1 t2 }) :=
 .of_wp fun prog w A R s h=>by
  obtain⟨hp,g,d,tk,os⟩:=s;obtain⟨r1,r2,h⟩:=h
  have hsub:=sub_zip
  have q1:∀ {A:Around} {E:Value→Shared→Prop} {Q:Value→Shared→Prop},Q (.ref hp.objs.size) ⟨zH1 hp S1 t1,g,d,tk,os⟩→wpAny (model prog w) A (pyIter (S1.value t1)) Q E ⟨hp,g,d,tk,os⟩:=
   fun {A E Q} q=>Src.pyIter (s:=⟨hp,g,d,tk,os⟩) (us:=us1) r1 q
  have q2:∀ {A:Around} {E:Value→Shared→Prop} {Q:Value→Shared→Prop},Q (.ref (zH1 hp S1 t1).objs.size) ⟨zH2 hp S1 S2 t1 t2,g,d,tk,os⟩→wpAny (model prog w) A (pyIter (S2.value t2)) Q E ⟨zH1 hp S1 t1,g,d,tk,os⟩:=
   fun {A E Q} q=>Src.pyIter (s:=⟨zH1 hp S1 t1,g,d,tk,os⟩) (us:=us2) (S2.raw_push r2) q
  generalize S1.value t1=v1 at q1 ⊢
  generalize S2.value t2=v2 at q2 ⊢
  wp_walk using q1,q2
  exact⟨_,rfl,h⟩
section
variable {prog:Program} {w:World} {A:Around} {E:Value→Shared→Prop} {s:Shared}
theorem Zk2{S1 S2:Src}{t1 t2:Tok}{us1 us2:List Value}{Q:Value→Shared→Prop}(r1:S1.raw s.heap us1)(r2:S2.raw s.heap us2)
  (h:∀h',IsZip h' (s.heap.objs.size+4) (s.heap.objs.size+2) (s.heap.objs.size+3) .none→IsPair h' (s.heap.objs.size+2) (.ref s.heap.objs.size) (.ref (s.heap.objs.size+1)) →
   IsPair h' (s.heap.objs.size+3) .none .none→S1.at h' s.heap.objs.size 0→S2.at h' (s.heap.objs.size+1) 0→h'.objs.size=s.heap.objs.size+5 →
   (∀c o,s.heap.get? c=some o→h'.get? c=some o)→Q (.ref (s.heap.objs.size+4)) { s with heap:=h' }) :
  wpAny (model prog w) A (call (.type "zip") [S1.value t1,S2.value t2]) Q E s:=by
 refine callType_new F.called_zip (by decide) (F.typeCall_zip_2 _ _) (F.newCall_zip_2 _ _) (fun obj=>F.args_object_init_3 obj _ _) F.entry_zip_new (Zmv S1 S2 t1 t2 us1 us2) ⟨r1,r2,?_⟩
 have z1:(zH1 s.heap S1 t1).objs.size=s.heap.objs.size+1:=Q0 ..
 have z2:(zH2 s.heap S1 S2 t1 t2).objs.size=s.heap.objs.size+2:=by rw[Q0,z1]
 have z3:(zH3 s.heap S1 S2 t1 t2).objs.size=s.heap.objs.size+3:=by rw[Q0,z2]
 have z4:(zH4 s.heap S1 S2 t1 t2).objs.size=s.heap.objs.size+4:=by rw[Q0,z3]
 have z5:(zH5 s.heap S1 S2 t1 t2).objs.size=s.heap.objs.size+5:=by rw[Q0,z4]
 have fr:∀ (tk:Tok) (S:Src),(S.iter tk).isFreed=false:=fun tk S=>by cases S<;>rfl
 have g5:(zH5 s.heap S1 S2 t1 t2).get? (zH4 s.heap S1 S2 t1 t2).objs.size=some _:=Qn _ rfl
 have g4:(zH5 s.heap S1 S2 t1 t2).get? (zH3 s.heap S1 S2 t1 t2).objs.size=some _:=Qc _ (Qn _ rfl)
 have g3:(zH5 s.heap S1 S2 t1 t2).get? (zH2 s.heap S1 S2 t1 t2).objs.size=some _:=Qc _ (Qc _ (Qn _ rfl))
 have g2:(zH5 s.heap S1 S2 t1 t2).get? (zH1 s.heap S1 t1).objs.size=some (S2.iter t2):=Qc _ (Qc _ (Qc _ (Qn _ (fr _ _))))
 have g1:(zH5 s.heap S1 S2 t1 t2).get? s.heap.objs.size=some (S1.iter t1):=Qc _ (Qc _ (Qc _ (Qc _ (Qn _ (fr _ _)))))
 show _∧_
 rw[z2,z3,z4]at g5
 rw[z1,z2]at g3
 rw[z3]at g4
 rw[z1]at g2
 rw[z4]
 exact⟨⟨_,g5,rfl⟩,h _ g5 g3 g4 (Src.iter_at g1) (Src.iter_at g2) z5 fun c o x =>
  Qc _ (Qc _ (Qc _ (Qc _ (Qc _ x))))⟩
end
def Itz(K:PySem.W.Frag)(S1 S2:Src):It :=
 ⟨fun i H=>∃xs ys,S1.its K H xs∧S2.its K H ys∧i<xs.length∧i<ys.length,
  fun i H v H'=>∃p,H p=none∧v=.ref p∧∀xs ys,S1.its K H xs→S2.its K H ys→∀x y,xs[i]? = some x→ys[i]? = some y→H'=upd H p (.tup [x,y]),
  fun i H=>∃xs ys,S1.its K H xs∧S2.its K H ys∧(xs.length≤i∨ys.length≤i)⟩
section
variable {X:Cx} {pins:List (Addr×Obj)} {σ:St} {H:Hp} {s:Shared}
theorem Inv.src(I:Inv X pins σ H s):∀ {S:Src} {xs:List V},S.its X.K H xs→∃us,S.raw s.heap us∧S.many us=xs.length∧∀k u x,S.fit us k u→xs[k]? = some x→ZA x u
 | .l a,xs,h=>by
  obtain⟨its,rv,pl,_⟩:=I.list h
  refine⟨its,pl.isList,rv.length.symm,fun k u x e1 e2=>?_⟩
  obtain⟨u',e3,r⟩:=rv.get e2
  rw[show its[k]? = some u from e1]at e3;cases e3
  exact r
 | .t a,xs,h=>by
  obtain⟨its,rv,pl,_⟩:=I.tuple h
  refine⟨its,pl,rv.length.symm,fun k u x e1 e2=>?_⟩
  obtain⟨u',e3,r⟩:=rv.get e2
  rw[show its[k]? = some u from e1]at e3;cases e3
  exact r
 | .s z,xs,h=>by
  refine⟨[],trivial,?_,fun k u x e1 e2=>?_⟩
  ·rw[show xs=_ from h,Qa];simp[Src.many]
  ·obtain⟨c,tk,e3,e4⟩:=e1
   subst e4
   rw[show xs=_ from h,Qs]at e2
   have e5:z.cps.toList[k]? = some c:=by simpa using e3
   rw[e5]at e2
   cases e2
   exact⟨tk,rfl⟩
theorem Inv.src_off(I:Inv X pins σ H s){b:Addr}(hb:ZdN X pins H b):∀ {S:Src} {xs:List V},S.its X.K H xs→S.off b
 | .l a,xs,h=>by
  rcases h with(h|⟨ob,h⟩)|⟨o,its,n,hk,_⟩
  ·exact Zb h hb.1
  ·exact Zb h hb.1
  ·rintro rfl
   have e:=I.ok.mod.kin a o hk
   rcases hb.2.2.2.1 with z|z
   ·exact I.ok.noex a o e z
   ·exact absurd (Qt (Qk e) (QG I.ok.bsz z)) (QY _)
 | .t a,xs,h=>by
  rcases h with(h|⟨ob,h⟩)|⟨o,its,n,hk,_⟩
  ·exact Zb h hb.1
  ·exact Zb h hb.1
  ·rintro rfl
   have e:=I.ok.mod.kin a o hk
   rcases hb.2.2.2.1 with z|z
   ·exact I.ok.noex a o e z
   ·exact absurd (Qt (Qk e) (QG I.ok.bsz z)) (QY _)
 | .s z,xs,h=>trivial
theorem Inv.zipped{fp:List Addr}{h':Heap}{tk:Nat}{x y:V}{u v:Value}(I:Inv X pins σ H s)(hf:∀b∈fp,ZdN X pins H b)(rx:ZA x u)(ry:ZA y v)
  (hp:IsPair h' s.heap.objs.size u v) (hfh:∀b∈fp,∃o,h'.get? b=some o) (hk:∀c o,c ∉ fp→s.heap.get? c=some o→h'.get? c=some o) :
  Inv X pins σ (upd H s.heap.objs.size (.tup [x,y])) { s with heap:=h',toks:=tk }:=by
 have hn:H s.heap.objs.size=none:=I.fresh
 have ne:∀b ob,s.heap.get? b=some ob→b≠s.heap.objs.size:=fun b ob e=>Qu (Qk e)
 have nt:∀b u,H b=some u→b≠s.heap.objs.size:=fun b u e=>Zb e hn
 have nfp:∀b u,H b=some u→b ∉ fp:=fun b u e hb=>by rw[(hf b hb).1]at e;cases e
 refine I.step (g':=s.gens) (d':=s.drawn) (ch:=fp) (fun b hb=>⟨(hf b hb).2.2.2.1,(hf b hb).2.1,(hf b hb).2.2.2.2.1,(hf b hb).2.2.2.2.2⟩)
  (fun b ob _ _ hc e _=>hk b ob hc e) (fun b ob _ _ hc e _=>⟨ob.slots,hk b ob hc e⟩) (fun b ob _ e n=>by rw[Zc (ne b ob e)];exact n) (fun b ob hc e=>⟨ob,hk b ob hc e⟩)
  (fun b xs e=>by rw[Zc (nt b _ e)];exact e) (fun b ob u e=>by rw[Zc (nt b _ e)];exact e) (fun b ps e=>⟨#[],by rw[Zc (nt b _ e),e];simp⟩) (fun m hm=>?_) (fun b ub e=>?_) I.bare
 ·obtain⟨ob,es,ep,ho,r⟩:=hm
  exact⟨ob,es,ep,hk _ ob (fun z=>(hf _ z).2.1 rfl) ho,r⟩
 ·by_cases hb:b=s.heap.objs.size
  ·subst hb
   rw[Zd]at e;cases e
   exact⟨by show 2≤sizeLine;decide,[u,v],.cons rx (.cons ry .nil),⟨_,hp,rfl,_,rfl⟩⟩
  ·rw[Zc hb]at e
   refine(I.hok b ub e).stay (fun c w' hc q=>hk c w' ?_ q) (fun c q=>by rw[Zc (nt c _ q)];exact q) fun c xs q=>by rw[Zc (nt c _ q)];exact q
   rcases hc with z|z
   ·rw[z];exact nfp b ub e
   ·exact nfp c _ z
end
theorem Zkf{P:Program}{w:World}{K:PySem.W.Frag}{elts:List Expr}{x1:Nat}{tpos:Pos}{S1 S2:Src}{z TI TO i1 i2:Addr}
  (d1:TI≠z) (d2:TO≠z) (d3:i1≠z) (d4:i2≠z) (d5:TI≠TO) (d6:TI≠i1) (d7:TI≠i2) (d8:TO≠i1) (d9:TO≠i2) (d10:i1≠i2) :
  ZhS P w K (.Tuple elts x1 tpos) (Itz K S1 S2) [z,TI,TO,i1,i2] z
   (fun i h=>IsZip h z TI TO .none∧IsPair h TI (.ref i1) (.ref i2)∧(∃a b,IsPair h TO a b)∧S1.at h i1 i∧S2.at h i2 i) where
 mem:=by simp
 obj:=fun i h st b hb=>by
  obtain⟨hz,hTI,⟨a,b',hTO⟩,h1,h2⟩:=st
  have nf:∀ {o:Obj} {vs:Array Value},o.data=.fields vs→∀v,o.data≠.cell v:=fun d v e=>by rw[d]at e;cases e
  simp only[List.mem_cons,List.not_mem_nil,or_false]at hb
  rcases hb with rfl|rfl|rfl|rfl|rfl
  ·exact⟨_,hz,nf rfl⟩
  ·exact⟨_,hTI,fun v e=>by cases e⟩
  ·exact⟨_,hTO,fun v e=>by cases e⟩
  ·obtain⟨o,vs,e,d⟩:=Src.at_obj h1;exact⟨o,e,nf d⟩
  ·obtain⟨o,vs,e,d⟩:=Src.at_obj h2;exact⟨o,e,nf d⟩
 keep:=fun i h h' st k=>by
  obtain⟨hz,hTI,⟨a,b',hTO⟩,h1,h2⟩:=st
  exact⟨k z (by simp) _ hz,k TI (by simp) _ hTI,⟨a,b',k TO (by simp) _ hTO⟩,Src.at_keep (fun o e=>k i1 (by simp) o e) h1,Src.at_keep (fun o e=>k i2 (by simp) o e) h2⟩
 item:=by
  intro X hP hw hK hc i pins s σ H E I hf st hg
  subst hP hw hK
  obtain⟨hz,hTI,⟨a,b',hTO⟩,h1,h2⟩:=st
  obtain⟨xs,ys,q1,q2,l1,l2⟩:=hg
  obtain⟨us1,r1,m1,f1⟩:=I.src q1
  obtain⟨us2,r2,m2,f2⟩:=I.src q2
  have hfz:=hf z (by simp)
  have D:Zgf z TI TO i1 i2 S1 S2:=⟨d1,d2,d3,d4,d5,d6,d7,d8,d9,d10,I.src_off hfz q1,I.src_off (hf TO (by simp)) q1,I.src_off (hf i1 (by simp)) q1,I.src_off (hf i2 (by simp)) q1,
   I.src_off hfz q2,I.src_off (hf TO (by simp)) q2,I.src_off (hf i1 (by simp)) q2,I.src_off (hf i2 (by simp)) q2⟩
  refine Zkr D hz hTI hTO h1 h2 r1 r2 (by omega) (by omega) fun h' tk x y fx fy a1 a2 a3 a4 a5 a6 a7=>?_
  have rx:=f1 i x _ fx (Qb l1)
  have ry:=f2 i y _ fy (Qb l2)
  refine⟨_,rfl,wpAny_letOwnedTupleGo_zip a1 fun h'' hz'' hs''=>?_⟩
  have hs':Heap.SameBut z h' h'':=hs''
  have hTI':IsPair h' TI (.ref i1) (.ref i2):=a7 _ _ d1 d5 d6 d7 hTI
  have lt:∀ {b:Addr} {o:Obj},s.heap.get? b=some o→s.heap.objs.size≠b:=fun e=>QU (Qk e)
  have hzs:s.heap.objs.size≠z:=lt hz
  have I2:Inv X pins σ (upd H s.heap.objs.size (.tup [xs[i],ys[i]])) { s with heap:=h'',toks:=tk }:=by
   refine I.zipped (fp:=[z,TI,TO,i1,i2]) hf rx ry (hs'.extBut _ _ hzs a5) (fun b hb=>?_) fun c o hc e=>?_
   ·simp only[List.mem_cons,List.not_mem_nil,or_false]at hb
    rcases hb with rfl|rfl|rfl|rfl|rfl
    ·exact⟨_,hz''⟩
    ·exact⟨_,hs'.extBut _ _ d1 hTI'⟩
    ·exact⟨_,hs'.extBut _ _ d2 a2⟩
    ·obtain⟨o,vs,e,_⟩:=Src.at_obj a3;exact⟨o,hs'.extBut _ _ d3 e⟩
    ·obtain⟨o,vs,e,_⟩:=Src.at_obj a4;exact⟨o,hs'.extBut _ _ d4 e⟩
   ·simp only[List.mem_cons,List.not_mem_nil,or_false,not_or]at hc
    exact hs'.extBut _ _ hc.1 (a7 c o hc.1 hc.2.2.1 hc.2.2.2.1 hc.2.2.2.2 e)
  refine⟨.ref s.heap.objs.size,_,I2,rfl,⟨s.heap.objs.size,I.fresh,rfl,fun xs' ys' w1 w2 x' y' e1 e2=>?_⟩,⟨hz'',hs'.extBut _ _ d1 hTI',⟨_,_,hs'.extBut _ _ d2 a2⟩,Src.at_keep (fun o e=>hs'.extBut _ o d3 e) a3,Src.at_keep (fun o e=>hs'.extBut _ o d4 e) a4⟩,fun b hb=>?_⟩
  ·have same:∀ {S:Src} {us vs:List V},S.its X.K H us→S.its X.K H vs→us=vs:=fun {S us vs} p q=>by
    cases S with
    | l a=>exact I.list_inj p q
    | t a=>exact I.tuple_inj p q
    | s z=>rw[show us=_ from p,show vs=_ from q]
   have e3:=same w1 q1
   have e4:=same w2 q2
   subst e3;subst e4
   rw[Qb l1]at e1
   rw[Qb l2]at e2
   cases e1;cases e2
   rfl
  ·rw[Zc (fun e=>by
    obtain⟨o,e1,_⟩:∃o,s.heap.get? b=some o∧True:=by
     simp only[List.mem_cons,List.not_mem_nil,or_false]at hb
     rcases hb with rfl|rfl|rfl|rfl|rfl
     ·exact⟨_,hz,trivial⟩
     ·exact⟨_,hTI,trivial⟩
     ·exact⟨_,hTO,trivial⟩
     ·obtain⟨o,vs,e,_⟩:=Src.at_obj h1;exact⟨o,e,trivial⟩
     ·obtain⟨o,vs,e,_⟩:=Src.at_obj h2;exact⟨o,e,trivial⟩
    exact lt e1 e.symm)]
   exact(hf b hb).1
 done:=by
  intro X hP hw hK hc i pins s σ H E I hf st hg
  subst hP hw hK
  obtain⟨hz,hTI,⟨a,b',hTO⟩,h1,h2⟩:=st
  obtain⟨xs,ys,q1,q2,l⟩:=hg
  obtain⟨us1,r1,m1,f1⟩:=I.src q1
  obtain⟨us2,r2,m2,f2⟩:=I.src q2
  have hfz:=hf z (by simp)
  have D:Zgf z TI TO i1 i2 S1 S2:=⟨d1,d2,d3,d4,d5,d6,d7,d8,d9,d10,I.src_off hfz q1,I.src_off (hf TO (by simp)) q1,I.src_off (hf i1 (by simp)) q1,I.src_off (hf i2 (by simp)) q1,
   I.src_off hfz q2,I.src_off (hf TO (by simp)) q2,I.src_off (hf i1 (by simp)) q2,I.src_off (hf i2 (by simp)) q2⟩
  refine ZkF (I.ok.hd hc) D hz hTI hTO h1 h2 r1 r2 (by omega) fun h' tk hk=>⟨rfl,?_⟩
  have kf:∀c o,c ∉ [z,TI,TO,i1,i2]→s.heap.get? c=some o→h'.get? c=some o:=fun c o hc e=>by
   simp only[List.mem_cons,List.not_mem_nil,or_false,not_or]at hc
   exact hk c o hc.1 hc.2.2.1 hc.2.2.2.1 hc.2.2.2.2 e
  have nfp:∀b u,H b=some u→b ∉ [z,TI,TO,i1,i2]:=fun b u e hb=>by rw[(hf b hb).1]at e;cases e
  refine I.step (g':=s.gens) (d':=s.drawn) (ch:=[z,TI,TO,i1,i2]) (fun b hb=>⟨(hf b hb).2.2.2.1,(hf b hb).2.1,(hf b hb).2.2.2.2.1,(hf b hb).2.2.2.2.2⟩)
   (fun b ob _ _ hc e _=>kf b ob hc e) (fun b ob _ _ hc e _=>⟨ob.slots,kf b ob hc e⟩) (fun b ob _ e n=>n) (fun b ob hc e=>⟨ob,kf b ob hc e⟩)
   (fun b xs e=>e) (fun b ob u e=>e) (fun b ps e=>⟨#[],by rw[e];simp⟩) (fun m hm=>?_) (fun b ub e=>?_) I.bare
  ·obtain⟨ob,es,ep,ho,r⟩:=hm
   exact⟨ob,es,ep,kf _ ob (fun z=>(hf _ z).2.1 rfl) ho,r⟩
  ·refine(I.hok b ub e).stay (fun c w' hc q=>kf c w' ?_ q) (fun c q=>q) fun c xs q=>q
   rcases hc with z'|z'
   ·rw[z'];exact nfp b ub e
   ·exact nfp c _ z'
 self:=fun _ _ _ _ _ st h=>wpAny_pyIter_zip st.1 h
def ZoP(K:PySem.W.Frag)(ta:TA):TI:=fun σ H R=>ta σ H fun vs H1=>∃S1 S2 xs ys,vs=[Src.val S1,Src.val S2]∧S1.its K H1 xs∧S2.its K H1 ys∧R (Itz K S1 S2) H1
theorem Znu{X:Cx}{a b:Expr}{ta:TA}{p pos:Pos}{elts:List Expr}{x1:Nat}{tpos:Pos}(hg:Gl X "zip")(hm:X.mg "zip" = none)(ha:PA X [a,b] ta)
  (hs:starEach [a,b] X.env=[(false,eval a X.env),(false,eval b X.env)]:=by rfl) (hs2:starEach [b] X.env=[(false,eval b X.env)]:=by rfl) :
  PI X (.Tuple elts x1 tpos) (.Call (.Name "zip" p) [a,b] [] pos) (ZoP X.K ta):=by
 intro pins s σ H R I h
 refine Call_ (Zdv I hg hm boot_zip (QX (thn (ha pos pins s σ H _ I h) fun us s1 ⟨vs,H1,I1,r1,q1⟩=>?_) (by rw[hs,hs2]) (by rw[hs2];rfl)))
 obtain⟨S1,S2,xs,ys,e,y1,y2,q⟩:=q1
 subst e
 obtain⟨u1,u2,rfl,w1,w2⟩:=r1.two
 have vo:∀ {S:Src} {u:Value},ZA S.val u→∃tk,u=S.value tk:=fun {S u} r=>by
  cases S with
  | l a=>exact⟨0,r⟩
  | t a=>exact⟨0,r⟩
  | s z=>obtain⟨tk,e⟩:=r;exact⟨tk,e⟩
 obtain⟨t1,rfl⟩:=vo w1
 obtain⟨t2,rfl⟩:=vo w2
 obtain⟨us1,r1,m1,f1⟩:=I1.src y1
 obtain⟨us2,r2,m2,f2⟩:=I1.src y2
 refine Zk2 r1 r2 fun h' hz hTI hTO a1 a2 a3 hk=>wpAny_pyIter_zip hz ?_
 have I2:Inv X pins σ H1 { s1 with heap:=h' }:=I1.kept (t':=s1.toks) hk
 have n:=s1.heap.objs.size
 refine⟨_,_,_,_,H1,rfl,I2,Zkf (S1:=S1) (S2:=S2) (z:=s1.heap.objs.size+4) (TI:=s1.heap.objs.size+2) (TO:=s1.heap.objs.size+3) (i1:=s1.heap.objs.size) (i2:=s1.heap.objs.size+1)
  (Qu (Qaa (by decide) _)) (Qu (Qaa (by decide) _)) (Qu (Qad (by decide))) (Qu (Qaa (by decide) _))
  (Qu (Qaa (by decide) _)) (QU (Qad (by decide))) (QU (Qaa (by decide) _)) (QU (Qad (by decide)))
  (QU (Qaa (by decide) _)) (Qu (Qad (by decide))),⟨hz,hTI,⟨_,_,hTO⟩,a1,a2⟩,fun b hb=>?_,q⟩
 have hb':s1.heap.objs.size≤b:=by
  simp only[List.mem_cons,List.not_mem_nil,or_false]at hb
  rcases hb with rfl|rfl|rfl|rfl|rfl
  ·exact Qan _ 4
  ·exact Qan _ 2
  ·exact Qan _ 3
  ·exact Qd _
  ·exact Qan _ 1
 exact I1.fpOk hb' (I1.hok.fresh hb')
section
variable {X:Cx} (K:PySem.W.Frag)
theorem ixL(h:X.K=K:=by rfl):IxR X (Zn3 K):=by subst h;exact ZmJ
theorem ixT(h:X.K=K:=by rfl):IxR X (ZnO K):=by subst h;exact Znb
theorem slL(h:X.K=K:=by rfl):SlR X (ZoO K):=by subst h;exact ZmC
def Zoi:List V→Hp→VK→Prop:=fun xs H Q=>∃p ys,xs=[.ref p]∧(SqL K H p ys∨SqT K H p ys)∧Q (.int ys.length) H
theorem Zdq(h:X.K=K:=by rfl):Zay X (.builtin "len") (Zoi K):=by subst h;exact Zf7
theorem ZeX(h:X.K=K:=by rfl):Zay X (.builtin "isinstance") (Zon K):=by subst h;exact Zll
theorem Zo5(h:X.K=K:=by rfl):Zay X (.builtin "isinstance") (ZmS K):=by subst h;exact Zjs
def Zox:List V→Hp→VK→Prop:=fun xs H Q=>∃ (p:Addr) (bs:List Bool),xs=[.ref p]∧SqL K H p (bs.map V.bl)∧Q (.bl (bs.all id)) H
theorem Zpi(hc:X.calm=true:=by rfl)(h:X.K=K:=by rfl):Zay X (.builtin "all") (Zox K):=by subst h;exact Zk7 hc
def rSrtI:List V→Hp→VK→Prop:=fun xs H Q=>∃ (p:Addr) (ns:List Int),xs=[.ref p]∧SqL K H p (ns.map V.int)∧ns.length<64 ∧
  ∀ (l:Addr) (ns':List Int),H l=none→ns'.Perm ns→ns'.Pairwise (·≤·)→Q (.ref l) (upd H l (.lst (ns'.map V.int)))
def ZoF:List V→Hp→VK→Prop:=fun xs H Q=>∃ (p:Addr) (ss:List Str),xs=[.ref p]∧SqL K H p (ss.map V.str)∧ss.length<64 ∧
  ∀ (l:Addr) (ss':List Str),H l=none→ss'.Perm ss→sortedS ss'=true→Q (.ref l) (upd H l (.lst (ss'.map V.str)))
theorem ZpJ(h:X.K=K:=by rfl):Zay X (.builtin "sorted") (ZoF K):=by subst h;exact Zgk
def ZoN:V→List V→Hp→VK→Prop:=fun x vs H Q=>∃ (sep:Str) (p:Addr) (ys:List Str),x=.str sep∧vs=[.ref p]∧SqL K H p (ys.map V.str)∧(ys.map (·.length)).sum+ys.length*sep.length≤16777216∧Q (.str (Txt.join sep ys)) H
theorem Zos(h:X.K=K:=by rfl):MtR X "str.join" (ZoN K):=by subst h;exact Zms
theorem iL{tg l:Expr}{tl:TE}(hl:PE X l tl)(h:X.K=K:=by rfl):PI X tg l (ZmY K tl):=by subst h;exact Zmp hl
theorem gT{es:List Expr}{k:Nat}{t:TGs}{n:Nat}{pos:Pos}(h:PGs X es t)(hK:X.K=K:=by rfl)(hc:X.calm=true:=by rfl)
  (hn:(assignEach es X.env).length=n:=by rfl) (hst:(assignEach es X.env).findIdx? (·.1)=none:=by rfl):PG X (.Tuple es k pos) (ZoG K n t):=by subst hK;exact Znc hc h hn hst
theorem iZ{a b:Expr}{ta:TA}{p pos:Pos}{elts:List Expr}{x1:Nat}{tpos:Pos}(hm:X.mg "zip" = none)(ha:PA X [a,b] ta)(hg:Gl X "zip":=by rfl)(hK:X.K=K:=by rfl)
  (hs:starEach [a,b] X.env=[(false,eval a X.env),(false,eval b X.env)]:=by rfl) (hs2:starEach [b] X.env=[(false,eval b X.env)]:=by rfl) :
  PI X (.Tuple elts x1 tpos) (.Call (.Name "zip" p) [a,b] [] pos) (ZoP K ta):=by subst hK;exact Znu hg hm ha hs hs2
end
structure Df (P:Program) (w:World) (K:PySem.W.Frag) (mg:Str→Option Value) (base:Heap) (k:Nat) (x:Str) (ps:List Str) (sp:Sp):Prop where
 ex:∃f fd,Zdf P w K mg base CX0 k f fd ps sp∧mg x=some (.ref f)∧PySem.W.keepIn K (.ref f)=true∧ZbH K fd ps []
section
variable {P:Program} {w:World} {K:PySem.W.Frag} {mg:Str→Option Value} {base:Heap}
structure Top (K:PySem.W.Frag) (mg:Str→Option Value) (x:Str) (st:Stmt) (ps:List Str):Prop where
 ex:∃f fd,Fun K x x st f fd∧mg x=some (.ref f)∧ZbH K fd ps []
theorem Top.df{x:Str}{st:Stmt}{N ps:List Str}{k:Nat}{sp:Sp}(T:Top K mg x st ps)(S:Zp N ps (Ze st))(len:∀vs H Q E,sp vs H Q E→vs.length=ps.length)
  (hbody:∀ (cdv:Value) (f:Addr) (A:Around) (outer:List Env) (s:Shared) (H:Hp) (vs:List V) (Q:VK) (E:XK),ZaI k (A.deeper (envOfC x (Ze st) s.heap.objs.size f cdv))→sp vs H Q E →
   ∃t,PSs (Zgz CX0 P w K mg base N x (Ze st) f cdv A outer s H E).nox (Zl st) t∧t { nx:=fun _ H'=>Q .non H',rt:=Q } (ZcL N vs) H):Df P w K mg base (k+1) x ps sp:=by
 obtain⟨f,fd,F,m,b⟩:=T.ex
 exact⟨f,fd,F.ok S len (fun cdv A outer s H vs Q E hr h=>hbody cdv f A outer s H vs Q E hr h),m,F.kp,b⟩
end
section
variable {X:Cx} {k j:Nat} {x:Str} {ps:List Str} {sp:Sp} {e:Expr} {es:List Expr} {t:TA} {p pos:Pos}
theorem ZC(F:Df X.prog X.w X.K X.mg X.base k x ps sp)(hr:ZaI j X.A)(ha:PA X (e::es) t)(hjk:k≤j:=by decide)(hg:Gl X x:=by rfl)(hdb:(x == ("__debug__" : Str))=false:=by decide)
  (he:starEach (e::es) X.env=(false,eval e X.env)::starEach es X.env:=by rfl) (hpl:(backTo pos (starEach es X.env)).any (·.1)=false:=by rfl) :
  PE X (.Call (.Name x p) (e::es) [] pos) (ZmO sp [] E0 t):=by
 obtain⟨f,fd,F,m,kp,b⟩:=F.ex
 exact Zl6 F (hr.mono hjk) hg m kp b .nil Zi0 ha hdb he hpl
theorem Zb9{T:String}(hm:X.mg x=none)(hv:bootBuiltins x=some (.type T))(hg:Gl X x:=by rfl)(hn:x ≠ "__name__":=by decide)(hd:(x == ("__debug__" : Str))=false:=by decide):PE X (.Name x pos) (tC (.ty T)) :=
 Zmn hg hm hv rfl hn hd
end
theorem Zdt{lo:Int}{n k:Nat}{D:Addr}{σ:St}{H1:Hp}{g:TG}{te:TE}{Q:VK}(Pv:Nat→List V→St→Hp→Prop)(h0:Pv 0 [] (σ++List.replicate k none) (upd H1 D (.lst [])))
  (hs:∀i ys σ H,i<n→Pv i ys σ H→g (.int (lo+i)) σ H fun σ4 H4=>te σ4 H4 fun y H6=>H6 D=some (.lst ys)∧ys.length<sizeLine∧Pv (i+1) (ys++[y]) σ4 (upd H6 D (.lst (ys++[y]))))
  (hd:∀ys σ H,Pv n ys σ H→Q (.ref D) H):ZeL (Itr lo n) D k σ H1 g Zij te Q:=by
 refine⟨fun i m ys σ H=>m=n-i∧i≤n∧Pv i ys σ H,⟨n,by simp,Qr _,h0⟩,?_⟩
 rintro i m ys σ H ⟨rfl,hi,p⟩
 by_cases hlt:i<n
 ·refine .inr ⟨hlt,Pv (i+1),fun ys' σ' H' p'=>⟨n-(i+1),by omega,rfl,hlt,p'⟩,fun x H' y=>?_⟩
  obtain⟨e,y⟩:=y
  subst e y
  simp only[Zij,↓reduceIte]
  exact hs i ys σ _ hlt p
 ·have e:i=n:=by omega
  subst e
  exact .inl ⟨Qd _,hd ys σ H p⟩
theorem Zhv{K:PySem.W.Frag}{S1 S2:Src}{xs ys:List V}{k:Nat}{D:Addr}{σ:St}{H1:Hp}{g:TG}{te:TE}{Q:VK}(Pv:Nat→List V→St→Hp→Prop)(h0:Pv 0 [] (σ++List.replicate k none) (upd H1 D (.lst [])))
  (hl:∀i zs σ H,Pv i zs σ H→S1.its K H xs∧S2.its K H ys)
  (hs:∀i zs σ H x y p,xs[i]? = some x→ys[i]? = some y→Pv i zs σ H→H p=none→g (.ref p) σ (upd H p (.tup [x,y])) fun σ4 H4=>te σ4 H4 fun z H6=>H6 D=some (.lst zs)∧zs.length<sizeLine∧Pv (i+1) (zs++[z]) σ4 (upd H6 D (.lst (zs++[z]))))
  (hd:∀zs σ H,Pv (min xs.length ys.length) zs σ H→Q (.ref D) H):ZeL (Itz K S1 S2) D k σ H1 g Zij te Q:=by
 refine⟨fun i m zs σ H=>m=min xs.length ys.length-i∧i≤min xs.length ys.length∧Pv i zs σ H,⟨min xs.length ys.length,by simp,Qr _,h0⟩,?_⟩
 rintro i m zs σ H ⟨rfl,hi,p⟩
 obtain⟨q1,q2⟩:=hl i zs σ H p
 by_cases hlt:i<min xs.length ys.length
 ·have l1:i<xs.length:=by omega
  have l2:i<ys.length:=by omega
  refine .inr ⟨⟨xs,ys,q1,q2,l1,l2⟩,Pv (i+1),fun ys' σ' H' p'=>⟨min xs.length ys.length-(i+1),by omega,rfl,hlt,p'⟩,fun x H' y=>?_⟩
  obtain⟨r,hr,rfl,e⟩:=y
  have e':=e xs ys q1 q2 _ _ (Qb l1) (Qb l2)
  subst e'
  simp only[Zij,↓reduceIte]
  exact hs i zs σ H _ _ r (Qb l1) (Qb l2) p hr
 ·have e:i=min xs.length ys.length:=by omega
  refine .inl ⟨⟨xs,ys,q1,q2,by omega⟩,hd zs σ H (e ▸ p)⟩
section
variable {X:Cx} {N N':List Str} {o c:Scope} {x:Str} {pos:Pos} {C:Addr} {s:Shared} {H:Hp} {fp:List Addr}
theorem ZdB(S:Z7 N N' o c)(ho:X.env.scope=o)(hl:c.names.lookup x=some .local):(Z9 X c N' C s H fp).env.scope.names.lookup x=some .local:=by
 have e:=Zcf (X:=X) S ho (Zal X.env.cells c.names []) C x
 rw[hl]at e
 exact e
theorem Zb1(S:Z7 N N' o c)(ho:X.env.scope=o)(hl:c.names.lookup x=some .globalImplicit):Gl (Z9 X c N' C s H fp) x:=by
 have e:=Zcf (X:=X) S ho (Zal X.env.cells c.names []) C x
 rw[hl]at e
 exact e
theorem ZkL(S:Z7 N N' o c)(ho:X.env.scope=o)(hl:c.names.lookup x=some .free):Vis (Z9 X c N' C s H fp).env.scope x:=by
 have e:=Zcf (X:=X) S ho (Zal X.env.cells c.names []) C x
 rw[hl]at e
 have e':(Z9 X c N' C s H fp).env.scope.names.lookup x=if X.env.kindOf x=some .cell then some NameKind.cell else some NameKind.free:=e
 by_cases z:X.env.kindOf x=some .cell
 ·rw[if_pos z]at e';exact .inr (.inl e')
 ·rw[if_neg z]at e';exact .inr (.inr e')
theorem cv(i:Nat)(S:Z7 N N' o c)(ho:X.env.scope=o)(hl:c.names.lookup x=some .free)(hN:N'[i]? = some x:=by rfl)(hd:(x == ("__debug__" : Str))=false:=by decide)(hcd:(x == ("__classdict__" : Str))=false:=by decide) :
  PE (Z9 X c N' C s H fp) (.Name x pos) (ZmH i):=Zil hN (ZkL S ho hl) hd hcd
theorem cw(i:Nat)(S:Z7 N N' o c)(ho:X.env.scope=o)(hl:c.names.lookup x=some .local)(hN:N'[i]? = some x:=by rfl)(hd:(x == ("__debug__" : Str))=false:=by decide)(hcd:(x == ("__classdict__" : Str))=false:=by decide) :
  PE (Z9 X c N' C s H fp) (.Name x pos) (ZmH i):=Zil hN (.inl (ZdB S ho hl)) hd hcd
theorem cg(i:Nat)(S:Z7 N N' o c)(ho:X.env.scope=o)(hl:c.names.lookup x=some .local)(hi:N'[i]? = some x:=by rfl):PG (Z9 X c N' C s H fp) (.Name x pos) (Zk9 i) :=
 ZL S.nd hi (.inl (ZdB S ho hl)) (.inr (ZdB S ho hl))
end
mutual
inductive DV (K:PySem.W.Frag) (H:Hp):V→PyData→Prop where
 | non:DV K H .non .none
 | bl (b:Bool):DV K H (.bl b) (.bool b)
 | int (i:Int):DV K H (.int i) (.int i)
 | str (s:Str):DV K H (.str s) (.str s)
 | lst {a:Addr} {xs:List V} {ds:List PyData}:SqL K H a xs→DVs K H xs ds→DV K H (.ref a) (.list ds)
 | tup {a:Addr} {xs:List V} {ds:List PyData}:SqT K H a xs→DVs K H xs ds→DV K H (.ref a) (.tuple ds)
inductive DVs (K:PySem.W.Frag) (H:Hp):List V→List PyData→Prop where
 | nil:DVs K H [] []
 | cons {x:V} {d:PyData} {xs:List V} {ds:List PyData}:DV K H x d→DVs K H xs ds→DVs K H (x::xs) (d::ds)
end
section
variable {X:Cx} {pins:List (Addr×Obj)} {σ:St} {H:Hp} {s:Shared}
mutual
theorem Inv.reads(I:Inv X pins σ H s):∀ {x:V} {d:PyData} {u:Value},DV X.K H x d→ZA x u→∃as,Reads s.heap u d as
 | _,_,_,.non,r=>by cases r;exact⟨_,.none⟩
 | _,_,_,.bl b,r=>by cases r;exact⟨_,.bool b⟩
 | _,_,_,.int i,r=>by obtain⟨t,rfl⟩:=r;exact⟨_,.int i t⟩
 | _,_,_,.str z,r=>by obtain⟨t,rfl⟩:=r;exact⟨_,.str z t⟩
 | _,_,_,.lst h hs,r=>by
  cases r
  obtain⟨its,rv,⟨o,n,e,hc,_,hd⟩,_⟩:=I.list h
  obtain⟨as,q⟩:=Inv.readsAll I hs rv
  exact⟨_,reads_list_at e hc hd (by simpa using q)⟩
 | _,_,_,.tup h hs,r=>by
  cases r
  obtain⟨its,rv,⟨o,e,hc,n,hd⟩,_⟩:=I.tuple h
  obtain⟨as,q⟩:=Inv.readsAll I hs rv
  exact⟨_,reads_tuple_at e hc hd (by simpa using q)⟩
theorem Inv.readsAll(I:Inv X pins σ H s):∀ {xs:List V} {ds:List PyData} {us:List Value},DVs X.K H xs ds→ZB xs us→∃as,ReadsAll s.heap us ds as
 | _,_,_,.nil,r=>by cases r;exact⟨_,.nil⟩
 | _,_,_,.cons h hs,r=>by
  cases r with
  | cons r1 r2 =>
   obtain⟨as,q1⟩:=Inv.reads I h r1
   obtain⟨bs,q2⟩:=Inv.readsAll I hs r2
   exact⟨_,.cons q1 q2⟩
end
def ZoU(K:PySem.W.Frag)(neg:Bool):R2:=fun x y H Q=>∃d e,DV K H x d∧DV K H y e∧SeqAt.shaped d=true∧SeqAt.shaped e=true∧Q (.bl (if neg then !PyData.eqv d e else PyData.eqv d e)) H
theorem ZnT(hu:X.A.units+64<cLine):OpR X (compareOp .NotEq) (ZoU X.K true):=by
 intro pins s σ H x y v u Q I rx ry h
 obtain⟨d,e,h1,h2,s1,s2,q⟩:=h
 obtain⟨as,r1⟩:=I.reads h1 rx
 obtain⟨bs,r2⟩:=I.reads h2 ry
 exact ne_dataH r1 r2 s1 s2 hu ⟨.bl _,H,I,rfl,q⟩
end
theorem neD{X:Cx}(K:PySem.W.Frag){k:Nat}(hr:ZaI k X.A)(h:X.K=K:=by rfl):OpR X (compareOp .NotEq) (ZoU K true):=by subst h;exact ZnT hr.units
mutual
theorem DV.mono{K:PySem.W.Frag}{H H':Hp}(s:Zu H H'):∀ {x:V} {d:PyData},DV K H x d→DV K H' x d
 | _,_,.non=>.non
 | _,_,.bl b=>.bl b
 | _,_,.int i=>.int i
 | _,_,.str z=>.str z
 | _,_,.lst h hs=>.lst (s.seq h) (DVs.mono s hs)
 | _,_,.tup h hs=>.tup (by
   rcases h with(h|⟨ob,h⟩)|h
   ·exact .inl (.inl (s _ _ h))
   ·exact .inl (.inr ⟨ob,s _ _ h⟩)
   ·exact .inr h) (DVs.mono s hs)
theorem DVs.mono{K:PySem.W.Frag}{H H':Hp}(s:Zu H H'):∀ {xs:List V} {ds:List PyData},DVs K H xs ds→DVs K H' xs ds
 | _,_,.nil=>.nil
 | _,_,.cons h hs=>.cons (DV.mono s h) (DVs.mono s hs)
end
def Ite(K:PySem.W.Frag)(a:Addr):It :=
 ⟨fun i H=>∃xs,SqL K H a xs∧i<xs.length,
  fun i H v H'=>∃p,H p=none∧v=.ref p∧∀xs,SqL K H a xs→∀x,xs[i]? = some x→H'=upd H p (.tup [.int i,x]),
  fun i H=>∃xs,SqL K H a xs∧xs.length≤i⟩
theorem Zi4{P:Program}{w:World}{K:PySem.W.Frag}{elts:List Expr}{x1:Nat}{tpos:Pos}{a e it:Addr}(hne:e≠it) :
  ZhS P w K (.Tuple elts x1 tpos) (Ite K a) [e,it] e (fun i h=>(∃old,IsEnum h e it i old)∧h.IsListIter it a i) where
 mem:=by simp
 obj:=fun i h st b hb=>by
  obtain⟨⟨old,he⟩,o,hit,hc,hd⟩:=st
  simp only[List.mem_cons,List.not_mem_nil,or_false]at hb
  rcases hb with rfl|rfl
  ·exact⟨_,he,fun v z=>by cases z⟩
  ·exact⟨o,hit,fun v z=>by rw[hd]at z;cases z⟩
 keep:=fun i h h' st k=>by
  obtain⟨⟨old,he⟩,hit⟩:=st
  exact⟨⟨old,k e (by simp) _ he⟩,hit.at fun o q=>k it (by simp) o q⟩
 item:=by
  intro X hP hw hK hc i pins s σ H E I hf st hg
  subst hP hw hK
  obtain⟨⟨old,he⟩,hit⟩:=st
  obtain⟨xs,q1,l1⟩:=hg
  obtain⟨its,rv,pl,_⟩:=I.list q1
  obtain⟨u,hu,ru⟩:=rv.get (Qb l1)
  refine wpAny_pyNext_enum_item he hit pl.isList (x:=u) (by simpa using hu) hne fun h' a1 a2 a3 a4 a5=>?_
  have lt:∀ {b:Addr} {o:Obj},s.heap.get? b=some o→s.heap.objs.size≠b:=fun q=>QU (Qk q)
  have hes:s.heap.objs.size≠e:=lt he
  refine⟨_,rfl,wpAny_letOwnedTupleGo_enum a1 fun h'' he'' hs''=>?_⟩
  have hs':Heap.SameBut e h' h'':=hs''
  have hit'':h''.IsListIter it a (i+1):=a2.extBut hs'.extBut hne.symm
  have I2:Inv X pins σ (upd H s.heap.objs.size (.tup [.int i,xs[i]])) { s with heap:=h'',toks:=s.toks+1 }:=by
   refine I.zipped (fp:=[e,it]) (u:=.int i s.toks) (v:=u) hf ⟨_,rfl⟩ ru (hs'.extBut _ _ hes a3) (fun b hb=>?_) fun c o hc q=>?_
   ·simp only[List.mem_cons,List.not_mem_nil,or_false]at hb
    rcases hb with rfl|rfl
    ·exact⟨_,he''⟩
    ·obtain⟨o,q,_⟩:=hit'';exact⟨o,q⟩
   ·simp only[List.mem_cons,List.not_mem_nil,or_false,not_or]at hc
    exact hs'.extBut _ _ hc.1 (a5 c o hc.1 hc.2 q)
  refine⟨.ref s.heap.objs.size,_,I2,rfl,⟨s.heap.objs.size,I.fresh,rfl,fun xs' w1 x' e1=>?_⟩,⟨⟨_,he''⟩,hit''⟩,fun b hb=>?_⟩
  ·have e3:=I.list_inj w1 q1
   subst e3
   rw[Qb l1]at e1
   cases e1
   rfl
  ·rw[Zc (fun z=>by
    obtain⟨o,q⟩:∃o,s.heap.get? b=some o:=by
     simp only[List.mem_cons,List.not_mem_nil,or_false]at hb
     rcases hb with rfl|rfl
     ·exact⟨_,he⟩
     ·obtain⟨o,q,_⟩:=hit;exact⟨o,q⟩
    exact lt q z.symm)]
   exact(hf b hb).1
 done:=by
  intro X hP hw hK hc i pins s σ H E I hf st hg
  subst hP hw hK
  obtain⟨⟨old,he⟩,hit⟩:=st
  obtain⟨xs,q1,l1⟩:=hg
  obtain⟨its,rv,pl,_⟩:=I.list q1
  obtain⟨f0,f1,f2,f3,f4,f5⟩:=hf it (by simp)
  have hl:=rv.length
  exact wpAny_pyNext_enum_end (I.ok.hd hc) he hit pl.isList (by rw[Qab];exact QJ (by omega)) fun h' eb=>⟨rfl,I.turned (t':=s.toks) (fun b o hb q=>eb b o hb q) f0 f1 f3 f4 f5⟩
 self:=fun _ _ _ _ _ st h=>by obtain⟨⟨old,he⟩,_⟩:=st;exact wpAny_pyIter_enum he h
def Zm0(K:PySem.W.Frag)(ta:TA):TI:=fun σ H R=>ta σ H fun vs H1=>∃a xs,vs=[V.ref a]∧SqL K H1 a xs∧R (Ite K a) H1
theorem ZmD{X:Cx}{l:Expr}{ta:TA}{p pos:Pos}{elts:List Expr}{x1:Nat}{tpos:Pos}(hg:Gl X "enumerate")(hm:X.mg "enumerate" = none)(ha:PA X [l] ta)
  (hs:starEach [l] X.env=[(false,eval l X.env)]:=by rfl):PI X (.Tuple elts x1 tpos) (.Call (.Name "enumerate" p) [l] [] pos) (Zm0 X.K ta):=by
 intro pins s σ H R I h
 refine Call_ (Zdv I hg hm boot_enumerate (QX (thn (ha pos pins s σ H _ I h) fun us s1 ⟨vs,H1,I1,r1,q1⟩=>?_) hs rfl))
 obtain⟨a,xs,e,y1,q⟩:=q1
 subst e
 obtain⟨u,rfl,ru⟩:=r1.one
 cases ru
 obtain⟨its,rv,pl,_⟩:=I1.list y1
 refine call_enumerate_list pl.isList fun h' he hit hsz hk=>wpAny_pyIter_enum he ?_
 have I2:Inv X pins σ H1 { s1 with heap:=h' }:=I1.kept (t':=s1.toks) hk
 refine⟨_,_,_,_,H1,rfl,I2,Zi4 (a:=a) (e:=s1.heap.objs.size+1) (it:=s1.heap.objs.size) (QU (Nat.lt_succ_self _)),⟨⟨_,he⟩,hit⟩,fun b hb=>?_,q⟩
 have hb':s1.heap.objs.size≤b:=by
  simp only[List.mem_cons,List.not_mem_nil,or_false]at hb
  rcases hb with rfl|rfl
  ·exact Qan _ 1
  ·exact Qd _
 exact I1.fpOk hb' (I1.hok.fresh hb')
theorem iE{X:Cx}(K:PySem.W.Frag){l:Expr}{ta:TA}{p pos:Pos}{elts:List Expr}{x1:Nat}{tpos:Pos}(hm:X.mg "enumerate" = none)(ha:PA X [l] ta)(hg:Gl X "enumerate":=by rfl)(hK:X.K=K:=by rfl)
  (hs:starEach [l] X.env=[(false,eval l X.env)]:=by rfl):PI X (.Tuple elts x1 tpos) (.Call (.Name "enumerate" p) [l] [] pos) (Zm0 K ta):=by subst hK;exact ZmD hg hm ha hs
theorem Zg9{K:PySem.W.Frag}{a:Addr}{xs:List V}{g:TG}{tb:TS}{D:ZcB}{σ:St}{H:Hp}(Pv:Nat→St→Hp→Prop)(h0:Pv 0 σ H)(hl:∀i σ H,Pv i σ H→SqL K H a xs)
  (hs:∀i x σ H p,xs[i]? = some x→Pv i σ H→H p=none→g (.ref p) σ (upd H p (.tup [.int i,x])) fun σ2 H2=>tb { D with nx:=Pv (i+1),ct:=Pv (i+1),bk:=D.nx } σ2 H2) (hd:∀σ H,Pv xs.length σ H→D.nx σ H) :
  ∃W:Nat→Nat→St→Hp→Prop,(∃m,W 0 m σ H)∧∀i m σ H,W i m σ H →
   ((Ite K a).stop i H∧D.nx σ H)∨((Ite K a).go i H∧∃N:St→Hp→Prop,(∀σ' H',N σ' H'→∃m',m'<m∧W (i+1) m' σ' H')∧∀x H',(Ite K a).yld i H x H'→g x σ H' fun σ2 H2=>tb { D with nx:=N,ct:=N,bk:=D.nx } σ2 H2):=by
 refine⟨fun i m σ H=>m=xs.length-i∧i≤xs.length∧Pv i σ H,⟨xs.length,by simp,Qr _,h0⟩,?_⟩
 rintro i m σ H ⟨rfl,hi,p⟩
 have q1:=hl i σ H p
 by_cases hlt:i<xs.length
 ·refine .inr ⟨⟨xs,q1,hlt⟩,Pv (i+1),fun σ' H' p'=>⟨xs.length-(i+1),by omega,rfl,hlt,p'⟩,fun x H' y=>?_⟩
  obtain⟨r,hr,rfl,e⟩:=y
  have e':=e xs q1 _ (Qb hlt)
  subst e'
  exact hs i _ σ H r (Qb hlt) p hr
 ·have e:i=xs.length:=by omega
  exact .inl ⟨⟨xs,q1,by omega⟩,hd σ H (e ▸ p)⟩
def rMinL(K:PySem.W.Frag):List V→Hp→VK→Prop:=fun vs H Q=>∃ (p:Addr) (ns:List Int),vs=[.ref p]∧SqL K H p (ns.map V.int)∧0<ns.length∧∀M,M∈ns→(∀a∈ns,M≤a)→Q (.int M) H
def ZnV(K:PySem.W.Frag):List V→Hp→VK→Prop:=fun xs H Q=>∃p ys,xs=[.ref p]∧(SqL K H p ys∨SqT K H p ys)∧∀l,H l=none→Q (.ref l) (upd H l (.lst ys))
theorem Zod{X:Cx}(K:PySem.W.Frag)(h:X.K=K:=by rfl):Zay X (.type "list") (ZnV K):=by subst h;exact Zgq
section
variable {prog:Program} {w:World} {A:Around} {E:Value→Shared→Prop} {s:Shared}
end
def gLst(K:PySem.W.Frag)(n:Nat)(t:TGs):TG:=fun v σ H Q=>∃a xs,v=.ref a∧SqL K H a xs∧xs.length=n∧t xs σ H Q
def Ze6(xs:List V)(lo hi:Option Int)(st:Int):List V :=
 (sliceRange (sliceBounds lo hi (some st) xs.length).1 (sliceBounds lo hi (some st) xs.length).2.1 (sliceBounds lo hi (some st) xs.length).2.2).filterMap fun i=>xs[i]?
theorem Zf2{xs:List V}{us:List Value}(r:ZB xs us):∀is:List Nat,ZB (is.filterMap fun i=>xs[i]?) (is.filterMap fun i=>us[i]?)
 | []=>.nil
 | i::is=>by
  have ih:=Zf2 r is
  by_cases hi:i<xs.length
  ·have e1:xs[i]? = some xs[i]:=Qb hi
   obtain⟨u,hu,ru⟩:=r.get e1
   rw[QV,QV,e1,hu]
   exact .cons ru ih
  ·have e1:xs[i]? = none:=QJ (by omega)
   have e2:us[i]? = none:=QJ (by rw[← r.length];omega)
   rw[QV,QV,e1,e2]
   exact ih
def ZnI(X:Cx)(r:V→Option Int→Option Int→Int→Hp→VK→Prop):Prop :=
 ∀ (pins:List (Addr×Obj)) (s:Shared) (σ:St) (H:Hp) (x:V) (v vl vu vs:Value) (lo hi:Option Int) (st:Int) (sl:Addr) (Q:VK),Inv X pins σ H s→ZA x v→s.heap.IsSliceOf sl vl vu vs→IsPart vl lo→IsPart vu hi→IsPart vs (some st)→r x lo hi st H Q →
  ∃T id,typeLookup (.type T) "__getitem__" = pure (some (.builtin id))∧s.TypeIs v T∧wpAny (model X.prog X.w) X.A (getItem v (.ref sl)) (EP X pins σ Q) X.xe s
def ZpM(r:V→Option Int→Option Int→Int→Hp→VK→Prop)(te:TE)(tl th ts:TO):TE:=fun σ H Q=>te σ H fun x H1=>tl σ H1 fun l H2=>th σ H2 fun u H3=>ts σ H3 fun k H4=>∃i,k=some i∧r x l u i H4 Q
section
variable {X:Cx} {e st:Expr} {te:TE} {lo hi:Option Expr} {tl th ts:TO} {pos p2:Pos}
theorem Zje{r:V→Option Int→Option Int→Int→Hp→VK→Prop}(hr:ZnI X r)(he:PE X e te)(hl:PO X lo tl)(hu:PO X hi th)(hst:PO X (some st) ts):PE X (.Subscript e (.Slice lo hi (some st) p2) pos) (ZpM r te tl th ts):=by
 intro pins s σ H Q I h
 refine Subscript_ (thn (he pins s σ H _ I h) fun v s1 ⟨x,H1,I1,r1,q1⟩=>?_)
 refine wpAny_Slice (thn (hl pins s1 σ H1 _ I1 q1) fun vl s2 ⟨l,H2,I2,pl,q2⟩=>thn (hu pins s2 σ H2 _ I2 q2) fun vu s3 ⟨u,H3,I3,pu,q3⟩=>thn (hst pins s3 σ H3 _ I3 q3) fun vs s4 ⟨k,H4,I4,pk,q4⟩=>?_)
 obtain⟨i,rfl,q4⟩:=q4
 have I5:Inv X pins σ H4 { s4 with heap:=s4.heap.push { cls:=.type "slice",data:=.fields #[vl,vu,vs] } }:=I4.kept (t':=s4.toks) fun b ob q=>Qc _ q
 obtain⟨T,id,hT,ht,hg⟩:=hr pins { s4 with heap:=s4.heap.push { cls:=.type "slice",data:=.fields #[vl,vu,vs] } } σ H4 x v vl vu vs l u i s4.heap.objs.size Q I5 r1 (Heap.IsSliceOf.new ..) pl pu pk q4
 show wpAny (model X.prog X.w) X.A (subscriptTail e (.Slice lo hi (some st) p2) v (.ref s4.heap.objs.size)) (EP X pins σ Q) X.xe { s4 with heap:=s4.heap.push { cls:=.type "slice",data:=.fields #[vl,vu,vs] } }
 exact tail_any (ops:=[v,.ref s4.heap.objs.size]) ht hT hg (by with_unfolding_all rfl)
def ZmZ(K:PySem.W.Frag):V→Option Int→Option Int→Int→Hp→VK→Prop:=fun x lo hi st H Q=>∃a xs,x=.ref a∧SqL K H a xs∧st≠0∧∀p,H p=none→Q (.ref p) (upd H p (.lst (Ze6 xs lo hi st)))
theorem Zki:ZnI X (ZmZ X.K):=by
 intro pins s σ H x v vl vu vs lo hi st sl Q I rx hs pl pu pk h
 obtain⟨a,xs,rfl,hx,hne,q⟩:=h
 cases rx
 obtain⟨its,r,ht,hz⟩:=I.list hx
 have hlen:=r.length
 refine⟨"list",_,slot_list_getitem.lookup,ht.isList.typeIs,?_⟩
 refine wpAny_getItem_list_slice ht.isList hs pl pu pk (by intro e;exact hne (Qh e)) ?_ (by rw[Qv]<;>omega)
 have hsz:=slicePick_size_le its.toArray lo hi (some st)
 have hv:ZB (Ze6 xs lo hi st) (slicePick its.toArray lo hi (some st)).toList:=by
  unfold slicePick Ze6
  simp only[List.size_toArray,← hlen]
  have:=Zf2 r (sliceRange (sliceBounds lo hi (some st) xs.length).1 (sliceBounds lo hi (some st) xs.length).2.1 (sliceBounds lo hi (some st) xs.length).2.2)
  simpa using this
 refine⟨.ref s.heap.objs.size,_,I.laid (t':=s.toks) (o:=.lst (Ze6 xs lo hi st)) (fun b ob q=>Qc _ q) (Qd _) ?_,rfl,q _ (I.hok.fresh (Qd _))⟩
 refine⟨?_,(slicePick its.toArray lo hi (some st)).toList,0,hv,?_⟩
 ·have e1:its.toArray.size=xs.length:=by rw[Qv];exact hlen.symm
  rw[hv.length,Q9]
  exact QG hsz (by rw[e1];exact hz)
 ·simpa using Qn _ rfl
theorem Zpa(K:PySem.W.Frag)(h:X.K=K:=by rfl):ZnI X (ZmZ K):=by subst h;exact Zki
end
theorem Zeq(n:Nat):sliceRange ((n:Int)-1) (-1) (-1)=(List.range n).map fun i=>n-1-i:=by
 unfold sliceRange
 have hc:(if (-1:Int)>0 then (if (n:Int)-1 < -1 then (-1-((n:Int)-1) + -1-1) / -1 else 0) else (if (n:Int)-1 > -1 then ((n:Int)-1 - -1 - -1-1) / (- -1) else 0)).toNat=n:=by
  rw[if_neg (by decide)]
  by_cases h:(n:Int)-1 > -1
  ·rw[if_pos h,show (- -1:Int)=1 by decide,Int.ediv_one];omega
  ·rw[if_neg h];omega
 simp only[]
 rw[hc]
 apply QR
 intro k hk
 have:=Q7.mp hk
 omega
theorem Zfn{α:Type}(xs:List α):((List.range xs.length).map fun i=>xs.length-1-i).filterMap (fun i=>xs[i]?)=xs.reverse:=by
 rw[List.filterMap_map]
 have e:∀n,n≤xs.length→(List.range n).filterMap ((fun i=>xs[i]?) ∘ fun i=>xs.length-1-i)=xs.reverse.take n:=by
  intro n
  induction n with
  | zero=>intro _;rfl
  | succ n ih =>
   intro hn
   rw[List.range_succ,List.filterMap_append,ih (by omega)]
   have h1:xs[xs.length-1-n]? = some xs[xs.length-1-n]:=Qb (by omega)
   rw[QV]
   simp only[Function.comp,h1,List.filterMap_nil]
   rw[QK,List.getElem?_reverse (by omega),h1]
   rfl
 rw[e _ (Qd _)]
 exact QD (by simp)
theorem ZjR(xs:List V):Ze6 xs none none (-1)=xs.reverse:=by
 have e:sliceRange (sliceBounds none none (some (-1)) xs.length).1 (sliceBounds none none (some (-1)) xs.length).2.1 (sliceBounds none none (some (-1)) xs.length).2.2=sliceRange ((xs.length:Int)-1) (-1) (-1):=rfl
 unfold Ze6
 rw[e,Zeq,Zfn]
section
variable {X:Cx}
def rInsert:V→List V→Hp→VK→Prop:=fun x vs H Q=>∃l xs i y,x=.ref l∧vs=[.int i,y]∧H l=some (.lst xs)∧0≤i∧i≤xs.length∧xs.length<sizeLine∧Q .non (upd H l (.lst (xs.take i.toNat++y::xs.drop i.toNat)))
def rBits:V→List V→Hp→VK→Prop:=fun x vs H Q=>∃i,x=.int i∧vs=[]∧Q (.int (Builtin.Int.intBits i:Nat)) H
theorem inQ(K:PySem.W.Frag)(h:X.K=K:=by rfl):OpR X (compareOp .In) (rIn K false):=by subst h;exact Zj1
def rTupQ(K:PySem.W.Frag):List V→Hp→VK→Prop:=fun xs H Q=>∃p ys,xs=[.ref p]∧((SqL K H p ys∧∀l,H l=none→Q (.ref l) (upd H l (.tup ys)))∨(SqT K H p ys∧Q (.ref p) H))
end
def Its(z:Str):It:=⟨fun i _=>i<z.cps.size,fun i H v H'=>H'=H∧∃c,z.cps[i]? = some c∧v=.str ⟨#[c]⟩,fun i _=>z.cps.size≤i⟩
section
variable {X:Cx} {tg:Expr}
def iStr(tl:TE):TI:=fun σ H R=>tl σ H fun x H1=>∃z,x=.str z∧R (Its z) H1
end
def ZpF:PyData→Str
 | .str z=>z
 | d=>d.shown
def rStrD(K:PySem.W.Frag):List V→Hp→VK→Prop:=fun xs H Q=>∃x d,xs=[x]∧DV K H x d∧PyData.layable0 d=true∧d.intsShort 13=true∧d.showable=true∧Q (.str (ZpF d)) H
def Zhb(kvs:List (List Key×V))(k:List Key):Option V:=(kvs.find? fun kv=>decide (kv.1=k)).map (·.2)
abbrev PairT(H:Hp):List (List Key×V)→List (List Key×Addr×Value)→Prop:=Paired fun (p:List Key×V) (q:List Key×Addr×Value)=>p.1=q.1∧H q.2.1=some (.tup (p.1.map kV))∧ZA p.2 q.2.2
section
variable {X:Cx} {pins:List (Addr×Obj)} {σ:St} {H:Hp} {s:Shared}
def Zog:TE:=fun _ H Q=>∀p,H p=none→Q (.ref p) (upd H p (.dT []))
theorem ZiV{pos:Pos}:PE X (.Dict [] [] pos) Zog:=by
 intro pins s σ H Q I h
 have hb:sysModules<s.heap.objs.size:=Nat.lt_trans (by decide) (show mainGlobals<s.heap.objs.size from(I.mod.glob.keeps I.bk).lt)
 refine wpAny_Dict_empty ⟨.ref s.heap.objs.size,upd H s.heap.objs.size (.dT []),?_,rfl,h _ (I.hok.fresh (Qd _))⟩
 refine I.laid (t':=s.toks) (fun _ _ q=>Qc _ q) (Qd _) ?_
 refine⟨Qr _,?_,[],.nil,_,#[],0,Qn _ rfl,⟨rfl,rfl,rfl⟩,rfl,rfl,List.nodup_nil⟩
 exact beq_eq_false_iff_ne.mpr fun z=>QY _ (z ▸ hb)
end
def rSetDef:V→List V→Hp→VK→Prop:=fun x vs H Q=>∃d kvs b ks y,x=.ref d∧vs=[.ref b,y]∧H d=some (.dT kvs)∧H b=some (.tup (ks.map kV))∧kvs.length<sizeLine ∧
 (∀v,Zhb kvs ks=some v→Q v H)∧(Zhb kvs ks=none→Q y (upd H d (.dT (kvs++[(ks,y)]))))
def ZpO:List V→Hp→VK→Prop:=fun xs H Q=>∃j:Int,xs=[.int j]∧∀p,H p=none→Q (.ref p) (upd H p (.rng 0 j))
def ZpP:List V→Hp→VK→Prop:=fun xs H Q=>∃i j:Int,xs=[.int i,.int j]∧∀p,H p=none→Q (.ref p) (upd H p (.rng i j))
def ZcZ(lo:Int)(n:Nat):List Int:=(List.range n).map fun (k:Nat)=>lo+k
theorem ZeE(lo:Int)(n:Nat):(ZcZ lo n).length=n:=by simp[ZcZ]
def rListR:List V→Hp→VK→Prop:=fun xs H Q=>∃ (p:Addr) (lo hi:Int),xs=[.ref p]∧H p=some (.rng lo hi) ∧ -(2 ^ 62)≤lo∧lo<2 ^ 62 ∧ -(2 ^ 62)≤hi∧hi<2 ^ 62∧(hi-lo).toNat≤1000 ∧
 ∀l,H l=none→Q (.ref l) (upd H l (.lst ((ZcZ lo (hi-lo).toNat).map V.int)))
section
variable {prog:Program} {w:World} {A:Around} {E:Value→Shared→Prop} {s:Shared}
end
section
variable {X:Cx}
def rSlTS(K:PySem.W.Frag):V→Option Int→Option Int→Int→Hp→VK→Prop:=fun x lo hi st H Q=>∃a xs,x=.ref a∧SqT K H a xs∧lo=none∧hi=none∧st = -1∧∀p,H p=none→Q (.ref p) (upd H p (.tup xs.reverse))
def rExtendT(K:PySem.W.Frag):V→List V→Hp→VK→Prop:=fun x vs H Q=>∃l b xs zs,x=.ref l∧vs=[.ref b]∧H l=some (.lst xs)∧H b=some (.tup zs)∧xs.length+zs.length≤sizeLine∧Q .non (upd H l (.lst (xs++zs)))
def gSlice(to:TE)(tl th:TO):TG:=fun v σ H Q=>to σ H fun o H1=>tl σ H1 fun l H2=>th σ H2 fun u H3=>∃ (p b:Addr) (xs ys:List V) (a c:Int),o=.ref p∧v=.ref b∧l=some a∧u=some c∧H3 p=some (.lst xs)∧H3 b=some (.lst ys)∧p≠b∧0≤a∧a≤c∧c≤xs.length∧xs.length+ys.length≤sizeLine ∧
 Q σ (upd H3 p (.lst (xs.take a.toNat++ys++xs.drop c.toNat)))
def rSumB(K:PySem.W.Frag):List V→Hp→VK→Prop:=fun vs H Q=>∃ (p:Addr) (ns:List Int),vs=[.ref p]∧SqL K H p (ns.map V.int)∧ns.length≤1000∧(∀n∈ns,0≤n∧n≤10000000000)∧Q (.int ns.sum) H
theorem ZdS(ns:List Int):∀n,n≤ns.length→preSum (fun j=>ns.getD j 0) n=(ns.take n).sum
 | 0,_=>rfl
 | n+1,h=>by
  have ih:=ZdS ns n (by omega)
  have e:ns.take (n+1)=ns.take n++[ns.getD n 0]:=by
   rw[QK,Qb (by omega),QB,Qb (by omega)]
   rfl
  rw[e,List.sum_append,← ih]
  simp[preSum]
end
section
variable {prog:Program} {w:World} {A:Around} {E:Value→Shared→Prop} {s:Shared} {κ:PyProof.Rows.KeyKind} {k0:SortKind} {a₀:Array Keyed} {st:SortSt}
def LtAt(prog:Program)(w:World)(A:Around)(s:Shared)(k0:SortKind)(κ:PyProof.Rows.KeyKind):Prop :=
 ∀ (E:Value→Shared→Prop) (x y:Value) (a b:κ.α) (Q:Bool→Shared→Prop),κ.keyOf x=some a→κ.keyOf y=some b→Q (κ.blt a b) s→wpAny (model prog w) A (keyLt' k0 x y) Q E s
structure SB (k0:SortKind) (a₀:Array Keyed) (st:SortSt):Prop where
 perm:(arrOf st).Perm a₀
 kind:kindOf st=k0
 failed:failedOf st=none
 pend:pendingOf st = #[]
theorem Zo8(st:SortSt)(xs:Array Keyed):arrOf (setArr st xs)=xs:=rfl
end
section
variable {prog:Program} {w:World} {A:Around} {E:Value→Shared→Prop} {s:Shared} {κ:PyProof.Rows.KeyKind}
end
def kLt:Key→Key→Bool
 | .inl i,.inl j=>decide (i<j)
 | .inr x,.inr y=>decide (x.cps.toList<y.cps.toList)
 | .inl _,.inr _=>true
 | .inr _,.inl _=>false
theorem ZhE:∀a:Key,kLt a a=false
 | .inl i=>decide_eq_false (by omega)
 | .inr x=>decide_eq_false (List.lt_irrefl _)
theorem Zjc:∀a b c:Key,kLt a b=true→kLt b c=true→kLt a c=true
 | .inl i,.inl j,.inl k,h1,h2=>by have:=of_decide_eq_true h1;have:=of_decide_eq_true h2;exact decide_eq_true (by omega)
 | .inr x,.inr y,.inr z,h1,h2=>decide_eq_true (List.lt_trans (of_decide_eq_true h1) (of_decide_eq_true h2))
 | .inl _,.inl _,.inr _,_,_=>rfl
 | .inl _,.inr _,.inr _,_,_=>rfl
 | .inl _,.inr _,.inl _,_,h=>by cases h
 | .inr _,.inl _,_,h,_=>by cases h
 | .inr _,.inr _,.inl _,_,h=>by cases h
theorem ZjL:∀a b:Key,kLt a b=false→kLt b a=false→a=b
 | .inl i,.inl j,h1,h2=>by have:=of_decide_eq_false h1;have:=of_decide_eq_false h2;congr 1;omega
 | .inr x,.inr y,h1,h2=>by
  have a1:¬ x.cps.toList<y.cps.toList:=of_decide_eq_false h1
  have a2:¬ y.cps.toList<x.cps.toList:=of_decide_eq_false h2
  have e:x.cps.toList=y.cps.toList:=List.le_antisymm a2 a1
  obtain⟨xs⟩:=x
  obtain⟨ys⟩:=y
  congr 2
  exact Array.toList_inj.mp e
 | .inl _,.inr _,h,_=>by cases h
 | .inr _,.inl _,_,h=>by cases h
def ZbN:List Key→List Key→Bool
 | [],[]=>false
 | [],_::_=>true
 | _::_,[]=>false
 | x::xs,y::ys=>if x=y then ZbN xs ys else kLt x y
theorem Zoa(x y:Key)(xs ys:List Key):ZbN (x::xs) (y::ys)=if x=y then ZbN xs ys else kLt x y:=rfl
theorem Zem:∀a:List Key,ZbN a a=false
 | []=>rfl
 | x::r=>by unfold ZbN;rw[if_pos rfl];exact Zem r
theorem Zdy:∀a b c:List Key,ZbN a b=true→ZbN b c=true→ZbN a c=true
 | [],[],_,h,_=>by cases h
 | [],_::_,[],_,h=>by cases h
 | [],_::_,_::_,_,_=>rfl
 | _::_,[],_,h,_=>by cases h
 | _::_,_::_,[],_,h=>by cases h
 | x::r,y::s,z::t,h1,h2=>by
  have ih:=Zdy r s t
  unfold ZbN at h1 h2 ⊢
  by_cases e1:x=y
  ·rw[if_pos e1]at h1
   by_cases e2:y=z
   ·rw[if_pos e2]at h2
    rw[if_pos (e1.trans e2)]
    exact ih h1 h2
   ·rw[if_neg e2]at h2
    rw[if_neg (fun e=>e2 (e1.symm.trans e)),e1]
    exact h2
  ·rw[if_neg e1]at h1
   by_cases e2:y=z
   ·rw[if_neg (fun e=>e1 (e.trans e2.symm)),← e2]
    exact h1
   ·rw[if_neg e2]at h2
    have h3:=Zjc _ _ _ h1 h2
    rw[if_neg (fun e=>by rw[e,ZhE]at h3;cases h3)]
    exact h3
theorem Zds:∀a b:List Key,ZbN a b=false→ZbN b a=false→a=b
 | [],[],_,_=>rfl
 | [],_::_,h,_=>by cases h
 | _::_,[],_,h=>by cases h
 | x::r,y::s,h1,h2=>by
  unfold ZbN at h1 h2
  by_cases e:x=y
  ·rw[if_pos e]at h1
   rw[if_pos e.symm]at h2
   rw[e,Zds r s h1 h2]
  ·rw[if_neg e]at h1
   rw[if_neg fun z=>e z.symm]at h2
   exact absurd (ZjL _ _ h1 h2) e
theorem Zkm(a b c:List Key)(h:ZbN a c=true):ZbN a b=true∨ZbN b c=true:=by
 by_cases h1:ZbN a b=true
 ·exact .inl h1
 ·by_cases h2:ZbN b a=true
  ·exact .inr (Zdy _ _ _ h2 h)
  ·have e:=Zds a b (by simpa using h1) (by simpa using h2)
   rw[← e];exact .inr h
def unV:V→Option Key
 | .int i=>some (.inl i)
 | .str x=>some (.inr x)
 | _=>none
def ZmW:List V→Option (List Key)
 | []=>some []
 | x::r=>(unV x).bind fun k=>(ZmW r).map (k::·)
def ZfE(ks:List Key):List Bool:=ks.map fun k=>k.isLeft
def ZoJ(H:Hp)(sh:List Bool):Value→Option (List Key)
 | .ref a=>match H a with
  | some (.tup xs)=>(ZmW xs).bind fun ks=>if ZfE ks=sh then some ks else none
  | _=>none
 | _=>none
def tupKind(H:Hp)(sh:List Bool):PyProof.Rows.KeyKind:=⟨⟨List Key,ZbN,Zem,Zdy,fun a b c h=>Zkm a b c h,Zds⟩,ZoJ H sh,[]⟩
section
variable {prog:Program} {w:World} {A:Around} {E:Value→Shared→Prop} {s:Shared}
end
section
variable {prog:Program} {w:World} {A:Around} {E:Value→Shared→Prop} {s:Shared}
end
abbrev ZhL:=List (Addr×List Key)
def Zi7(ts:ZhL):List V:=ts.map fun t=>V.ref t.1
def AtT(H:Hp)(ts:ZhL):Prop:=∀t∈ts,H t.1=some (.tup (t.2.map kV))
def rSrtT(K:PySem.W.Frag):List V→Hp→VK→Prop:=fun xs H Q=>∃ (p:Addr) (ts:ZhL) (sh:List Bool),xs=[.ref p]∧SqL K H p (Zi7 ts)∧AtT H ts∧sh≠[]∧(∀t∈ts,ZfE t.2=sh)∧ts.length<64 ∧
 ∀ (l:Addr) (ts':ZhL),H l=none→ts'.Perm ts→ts'.Pairwise (fun a b=>ZbN b.2 a.2=false)→Q (.ref l) (upd H l (.lst (Zi7 ts')))
section
open PySem.SeqAt
open PySem.AutoSeq1 (wpAny_loadPart')
open PySem.MeetsSeq PySem.MeetsSeq2 PySem.MeetsSeq3
end
section
variable {prog:Program} {w:World} {A:Around} {E:Value→Shared→Prop} {s:Shared}
end
section
variable {prog:Program} {w:World}
end
section
variable {X:Cx}
def rMinT(K:PySem.W.Frag):List V→Hp→VK→Prop:=fun vs H Q=>∃ (p:Addr) (ts:ZhL) (sh:List Bool),vs=[.ref p]∧SqL K H p (Zi7 ts)∧AtT H ts∧ts≠[]∧(∀t∈ts,ZfE t.2=sh) ∧
 ∀t:Addr×List Key,t∈ts→(∀u∈ts,ZbN u.2 t.2=false)→Q (.ref t.1) H
def tMinD(K:PySem.W.Frag)(te:TA):TE:=fun σ H Q=>te σ H fun vs H1=>∃ (p:Addr) (ts:ZhL) (sh:List Bool),vs=[.ref p]∧SqL K H1 p (Zi7 ts)∧AtT H1 ts∧(∀t∈ts,ZfE t.2=sh)∧(ts=[]→Q .non H1) ∧
 ∀t:Addr×List Key,t∈ts→(∀u∈ts,ZbN u.2 t.2=false)→Q (.ref t.1) H1
end
def EqS(s:Shared)(items:List Value)(v:Value)(e:Nat→Bool):Prop:=∀ (prog:Program) (w:World) (A:Around) (E:Value→Shared→Prop) (Q:Bool→Shared→Prop) (m:Nat) (x:Value),A.units+2<cLine→items[m]? = some x→Q (e m) s→wpAny (model prog w) A (eqBool x v) Q E s
section
variable {X:Cx}
def rRemI:V→List V→Hp→VK→Prop:=fun x vs H Q=>∃ (l:Addr) (ns:List Int) (n:Int),x=.ref l∧vs=[.int n]∧H l=some (.lst (ns.map V.int))∧n∈ns∧ns.length≤1000∧Q .non (upd H l (.lst ((ns.erase n).map V.int)))
def rRemT:V→List V→Hp→VK→Prop:=fun x vs H Q=>∃ (l:Addr) (ts:ZhL) (t:Addr×List Key),x=.ref l∧vs=[.ref t.1]∧H l=some (.lst (Zi7 ts))∧AtT H ts∧t∈ts∧ts.length≤1000∧∀ (i:Nat) (hi:i<ts.length),ts[i].2=t.2→Q .non (upd H l (.lst (Zi7 (ts.eraseIdx i))))
end
section
open PySem.SeqAt
open PySem.AutoSeq1 (wpAny_loadPart')
open PySem.MeetsSeq PySem.MeetsSeq2 PySem.MeetsSeq3
end
section
variable {prog:Program} {w:World} {A:Around} {E:Value→Shared→Prop} {s:Shared}
end
section
variable {X:Cx}
def rGeK(K:PySem.W.Frag):R2:=fun x y H Q=>∃ (a b:Addr) (ks ms:List Key),x=.ref a∧y=.ref b∧SqT K H a (ks.map kV)∧SqT K H b (ms.map kV)∧ZfE ks=ZfE ms∧Q (.bl (!ZbN ks ms)) H
end
def rMaxL(K:PySem.W.Frag):List V→Hp→VK→Prop:=fun vs H Q=>∃ (p:Addr) (ns:List Int),vs=[.ref p]∧SqL K H p (ns.map V.int)∧0<ns.length∧∀M,M∈ns→(∀a∈ns,a≤M)→Q (.int M) H
def isNum(n:Int):Value→Bool
 | .int a _=>a == n
 | _=>false
section
variable {X:Cx}
def rCountI:V→List V→Hp→VK→Prop:=fun x vs H Q=>∃ (l:Addr) (ns:List Int) (n:Int),x=.ref l∧vs=[.int n]∧H l=some (.lst (ns.map V.int))∧Q (.int ((ns.count n:Nat):Int)) H
end
section
variable {X:Cx} {T name id:String} {r:V→List V→Hp→VK→Prop} {o e:Expr} {es:List Expr} {to:TE} {t:TA} {apos cpos:Pos}
end
def ZpQ(s:Shared)(items:List Value)(v:Value)(e:Nat→Bool):Prop:=∀ (prog:Program) (w:World) (A:Around) (E:Value→Shared→Prop) (Q:Bool→Shared→Prop) (m:Nat) (x:Value),A.units+60<cLine→items[m]? = some x→Q (e m) s→wpAny (model prog w) A (eqBool x v) Q E s
section
variable {X:Cx}
def rRemD(K:PySem.W.Frag):V→List V→Hp→VK→Prop:=fun x vs H Q=>∃ (l:Addr) (xs:List V) (ds:List PyData) (y:V) (d:PyData) (i:Nat),x=.ref l∧vs=[y]∧H l=some (.lst xs)∧DVs K H xs ds∧DV K H y d∧(∀e∈ds,e.canLay0=true)∧d.canLay0=true∧d.depth≤56∧xs.length≤1000 ∧
 i<ds.length∧(∀e,ds[i]? = some e→PyData.eqv e d=true)∧(∀m e,m<i→ds[m]? = some e→PyData.eqv e d=false)∧Q .non (upd H l (.lst (xs.eraseIdx i)))
def rInD(K:PySem.W.Frag):R2:=fun x y H Q=>∃ (l:Addr) (xs:List V) (ds:List PyData) (d:PyData),y=.ref l∧SqL K H l xs∧DVs K H xs ds∧DV K H x d∧PyData.canLayAll0 ds=true∧SeqAt.shaped d=true∧d.depth≤60∧Q (.bl (ds.any fun e=>PyData.eqv e d)) H
def ZmQ(K:PySem.W.Frag):List V→Hp→VK→Prop:=fun vs H Q=>∃ (p:Addr) (ns:List Int),vs=[.ref p]∧SqL K H p (ns.map V.int)∧ns.length≤1000∧(∀n∈ns,0≤n∧n≤10000000000000)∧Q (.int ns.sum) H
theorem Zj0(hc:X.calm=true):Zay X (.builtin "sum") (ZmQ X.K):=by
 intro pins s σ H vs us Q I r h
 obtain⟨p,ns,rfl,hq,hn,hb,q⟩:=h
 obtain⟨u,rfl,rx⟩:=Zct r
 cases rx
 obtain⟨its,rv,pl,_⟩:=I.list hq
 have hi:=Zh7 rv
 obtain⟨xs,e⟩:=hi.allInts.items
 have hns:ns=xs.toList.map (·.1):=by rw[← hi.numsOf,← nums_intItems,← e]
 have hsz:xs.size=ns.length:=by rw[hns,Qa,Q9]
 have hnum:numAt xs=fun j=>ns.getD j 0:=by funext j;rw[numAt_eq,hns]
 have hl:=pl.isList
 rw[e]at hl
 have bound:∀n,n≤ns.length→0≤(ns.take n).sum∧(ns.take n).sum≤10000000000000*n:=by
  intro n
  induction n with
  | zero=>intro _;exact⟨by simp,by simp⟩
  | succ n ih =>
   intro h
   have ih:=ih (by omega)
   have hm:=hb ns[n] (Q6 (by omega))
   have e2:ns.take (n+1)=ns.take n++[ns[n]]:=by rw[QK,Qb (by omega)];rfl
   rw[e2,List.sum_append]
   have e3:([ns[n]]:List Int).sum=ns[n]:=by simp
   rw[e3]
   omega
 refine sum_intList (I.ok.hd hc) hl (fun j hj=>?_) fun h' tk t' hk=>⟨.int _,H,I.kept hk,⟨t',rfl⟩,?_⟩
 ·rw[hnum]
  have hm:=hb ns[j] (Q6 (by omega))
  have hg:ns.getD j 0=ns[j]:=by rw[QB,Qb (by omega)];rfl
  have hp:=bound (j+1) (by omega)
  refine⟨⟨?_,?_⟩,⟨?_,?_⟩⟩
  ·show -(2 ^ 63)≤ns.getD j 0
   rw[hg];omega
  ·show ns.getD j 0<2 ^ 63
   rw[hg];omega
  ·rw[ZdS ns (j+1) (by omega)];omega
  ·rw[ZdS ns (j+1) (by omega)];omega
 ·rw[hnum,hsz,ZdS ns ns.length (Qd _),QD (Qd _)]
  exact q
theorem Zoq(K:PySem.W.Frag)(hc:X.calm=true:=by rfl)(h:X.K=K:=by rfl):Zay X (.builtin "sum") (ZmQ K):=by subst h;exact Zj0 hc
theorem slT{X:Cx}(K:PySem.W.Frag)(h:X.K=K:=by rfl):SlR X (Zom K):=by subst h;exact Zny
end
section
variable {X:Cx}
def rIxD:R2:=fun x y H Q=>∃d kvs b ks v,x=.ref d∧y=.ref b∧H d=some (.dT kvs)∧H b=some (.tup (ks.map kV))∧Zhb kvs ks=some v∧Q v H
def rSetDT:Zju:=fun o i v H Q=>∃d kvs b ks,o=.ref d∧i=.ref b∧H d=some (.dT kvs)∧H b=some (.tup (ks.map kV))∧Zhb kvs ks=none∧kvs.length<sizeLine∧Q (upd H d (.dT (kvs++[(ks,v)])))
end
abbrev IsZipG(h:Heap)(z TI TO:Addr)(f0:Value)(fl:Bool):Prop :=
 h.get? z=some { cls:=.type "zip",dict:=none,data:=.fields #[f0,.bool fl,.bool false,.ref TI,.ref TO],slots:=#[] }
section
variable {prog:Program} {w:World} {A:Around} {E:Value→Shared→Prop} {s:Shared}
end
section
variable {prog:Program} {w:World} {A:Around} {R:Result→Shared→Prop} {s:Shared}
end
def ZlX(J:It)(D:Addr)(ys:List V)(σ:St)(H:Hp)(g:TG)(te:TE)(N:List V→St→Hp→Prop):Prop :=
 ∃W:Nat→Nat→List V→St→Hp→Prop,(∃m,W 0 m ys σ H) ∧
  ∀i m ys σ2 H2,W i m ys σ2 H2→(J.stop i H2∧N ys σ2 H2) ∨
   (J.go i H2∧∃N2:List V→St→Hp→Prop,(∀ys' σ' H',N2 ys' σ' H'→∃m',m'<m∧W (i+1) m' ys' σ' H')∧∀x H3,J.yld i H2 x H3→g x σ2 H3 fun σ4 H4 =>
    te σ4 H4 fun y H6=>H6 D=some (.lst ys)∧ys.length<sizeLine∧N2 (ys++[y]) σ4 (upd H6 D (.lst (ys++[y]))))
def Zmo(J:It)(D:Addr)(k:Nat)(σ:St)(H1:Hp)(g:TG)(wi2:TI)(g2:TG)(te:TE)(Q:VK):Prop :=
 ∃W:Nat→Nat→List V→St→Hp→Prop,(∃m,W 0 m [] (σ++List.replicate k none) (upd H1 D (.lst []))) ∧
  ∀i m ys σ2 H2,W i m ys σ2 H2→(J.stop i H2∧Q (.ref D) H2) ∨
   (J.go i H2∧∃N:List V→St→Hp→Prop,(∀ys' σ' H',N ys' σ' H'→∃m',m'<m∧W (i+1) m' ys' σ' H')∧∀x H3,J.yld i H2 x H3→g x σ2 H3 fun σ4 H4=>wi2 σ4 H4 fun J2 H5=>ZlX J2 D ys σ4 H5 g2 te N)
def Zpd(n:Nat)(wi:TI)(g:TG)(wi2:TI)(g2:TG)(te:TE):TE:=fun σ H Q=>wi σ H fun J H1=>∀D,H1 D=none→Zmo J D n σ H1 g wi2 g2 te Q
section
variable {X:Cx} {N N':List Str} {o c:Scope}
end
end L2
namespace Hf
open L2
abbrev PW:=List (Int×Nat)
def val(P:PW):Int:=(P.map fun p=>p.1*(p.2:Int)).sum
def ws(P:PW):List Int:=P.map (·.1)
def ds(P:PW):List Nat:=P.map (·.2)
def zs(z:Nat):List Int:=List.replicate z 0
def kr(w E:Nat)(D:List Nat):Nat:=(D.map fun d=>w ^ (E-d)).sum
def Kr(w:Nat)(D:List Nat):Prop:=∃E,(∀d∈D,d≤E)∧kr w E D=w ^ E
inductive Hu (w:Nat):List Int→Nat→Int→Prop
 | stop {e:Int} {m:Nat}:Hu w [e] m 0
 | step {E L:List Int} {m:Nat} {C:Int}:1<L.length→E.Perm L→L.Pairwise (·≤·)→Hu w (L.drop m++[(L.take m).sum]) w C→Hu w E m (C+(L.take m).sum)
def Fit(w n m:Nat):Prop:=n=1∨∃t,n=m+t*(w-1)
structure Fits (w n m:Nat):Prop where
 w2:2≤w
 m2:2≤m
 mw:m≤w
 ok:Fit w n m
end Hf
namespace L2
open PySem PySem.Spec PyProof.Rows
section
variable {prog:Program} {w:World} {A:Around} {R:Result→Shared→Prop} {s:Shared}
theorem Zfl{kx vx target iter:Expr}{ifs:List Expr}{scope:Scope}{pos:Pos}{it:Value}{D:Addr}{env:Env}{E:Value→Shared→Prop}(I:Nat→Shared→Prop)
  (hE:∀e s',E e s'→False)
  (turn:∀n s,I n s→wpAny (model prog w) A (pyNext it) (fun r s₁=>match r with
   | none=>R (.ok .next) s₁
   | some v=>wpAny (model prog w) A (letOwnedTupleGo target it v) (fun _ s₀=>wpAny (model prog w) A (assign target env v) (fun _ s₂ =>
     wpAny (model prog w) A (Zgl ifs env) (fun ok s₃ =>
      if ok=true then wpAny (model prog w) A (eval kx env) (fun kv s₄=>wpAny (model prog w) A (eval vx env) (fun vv s₅ =>
       wpAny (model prog w) A (dictSet D kv vv) (fun _ s₆=>∃m,m<n∧I m s₆) E s₅) E s₄) E s₃
      else ∃m,m<n∧I m s₃) E s₂) E s₀) E s₁) E s)
  (n:Nat) (h:I n s):codeAny (model prog w) A (.compLoop (.DictComp kx vx [⟨target,iter,ifs,0⟩] scope pos) 0 it (.ref D) env) R s:=by
 have go:∀ {α:Type} {t:Sem α} {Q:α→Shared→Prop} {s:Shared},wpAny (model prog w) A t Q E s→wpAny (model prog w) A t Q (notedBy (model prog w) A env fun e s'=>R (.error e) s') s :=
  fun {α t Q s} q=>wpAny_mono q (fun _ _ z=>z) fun e s' z=>(hE e s' z).elim
 refine codeAny_loop rfl I (fun n s hI=>?_) n h
 show wpAny _ A ((compTurn (.DictComp kx vx [⟨target,iter,ifs,0⟩] scope pos) 0 it (.ref D) env).onRaise (fun x=>do noteFrame x env;theTreesLotGoes x)) _ _ s
 refine wpAny_noted ?_
 rw[compTurn_dict]
 refine wpAny_bind (wpAny_standAt (wpAny_bind (thn (go (turn n s hI)) fun r s₁ h₁=>?_)))
 cases r with
 | none=>exact wpAny_pure h₁
 | some v =>
  refine wpAny_bind (thn (go h₁) fun _ s₀ h₀=>wpAny_bind (thn (go h₀) fun _ s₂ h₂=>wpAny_bind (thn (go h₂) fun ok s₃ h₃=>?_)))
  cases ok with
  | false=>exact wpAny_pure ⟨rfl,h₃⟩
  | true =>
   exact wpAny_bind (wpAny_bind (thn (go h₃) fun kv s₄ h₄=>wpAny_bind (wpAny_holding (thn (go h₄) fun vv s₅ h₅=>wpAny_bind (wpAny_standAt (wpAny_holding (thn (go h₅) fun _ s₆ h₆=>wpAny_pure ⟨rfl,h₆⟩)))))))
end
def ZnR(J:It)(D:Addr)(k:Nat)(σ:St)(H1:Hp)(g:TG)(tc:TT)(tk te:TE)(Q:VK):Prop :=
 ∃W:Nat→Nat→List (List Key×V)→St→Hp→Prop,(∃m,W 0 m [] (σ++List.replicate k none) (upd H1 D (.dT []))) ∧
  ∀i m ys σ2 H2,W i m ys σ2 H2→(J.stop i H2∧Q (.ref D) H2) ∨
   (J.go i H2∧∃N:List (List Key×V)→St→Hp→Prop,(∀ys' σ' H',N ys' σ' H'→∃m',m'<m∧W (i+1) m' ys' σ' H')∧∀x H3,J.yld i H2 x H3→g x σ2 H3 fun σ4 H4=>tc σ4 H4 fun b H5 =>
    if b=true then tk σ4 H5 fun kv H6=>te σ4 H6 fun y H7=>∃ (b:Addr) (ks:List Key),kv=.ref b∧H7 D=some (.dT ys)∧H7 b=some (.tup (ks.map kV))∧Zhb ys ks=none∧ys.length<sizeLine∧N (ys++[(ks,y)]) σ4 (upd H7 D (.dT (ys++[(ks,y)]))) else N ys σ4 H5)
def tDComp(n:Nat)(wi:TI)(g:TG)(tc:TT)(tk te:TE):TE:=fun σ H Q=>wi σ H fun J H1=>∀D,H1 D=none→ZnR J D n σ H1 g tc tk te Q
section
variable {X:Cx} {N N':List Str} {o c:Scope}
end
section
variable {κ:Type} [DecidableEq κ]
def Za1(kvs:List (κ×V))(k:κ):Option V:=(kvs.find? fun kv=>decide (kv.1=k)).map (·.2)
def ZbD(kvs:List (κ×V))(k:κ)(v:V):List (κ×V) :=
 if (kvs.any fun kv=>decide (kv.1=k))=true then kvs.map (fun kv=>if kv.1=k then (kv.1,v) else kv) else kvs++[(k,v)]
def Zir(kvs:List (κ×V))(k:κ):List (κ×V):=kvs.filter fun kv=>decide (kv.1≠k)
theorem ZoV{k:κ}:Za1 ([]:List (κ×V)) k=none:=rfl
theorem ZcR{p:κ×V}{r:List (κ×V)}{k:κ}(e:p.1=k):Za1 (p::r) k=some p.2:=by simp[Za1,List.find?_cons,e]
theorem ZcJ{p:κ×V}{r:List (κ×V)}{k:κ}(e:¬ p.1=k):Za1 (p::r) k=Za1 r k:=by simp[Za1,List.find?_cons,e]
theorem Ze2(k:κ):∀kvs:List (κ×V),(kvs.any fun kv=>decide (kv.1=k))=(Za1 kvs k).isSome
 | []=>rfl
 | p::r=>by
  rw[Qap]
  by_cases e:p.1=k
  ·simp only[ZcR e,decide_eq_true e,Bool.true_or,Option.isSome_some]
  ·rw[ZcJ e,decide_eq_false e,Bool.false_or];exact Ze2 k r
theorem Zc0(kvs:List (κ×V))(k:κ)(v:V):(ZbD kvs k v).length≤kvs.length+1:=by
 unfold ZbD
 split
 ·rw[Qa];omega
 ·rw[Qp,QI,List.length_nil];omega
theorem Zhi{kvs:List (κ×V)}{k:κ}(v:V)(h:Za1 kvs k=none):ZbD kvs k v=kvs++[(k,v)]:=by
 unfold ZbD
 rw[Ze2,h]
 exact if_neg (by decide)
theorem ZcA.isSome_eq{o:Option V}{u:Option Value}(r:ZcA o u):o.isSome=u.isSome:=by
 cases o with
 | none=>cases u with
  | none=>rfl
  | some _=>exact(show False from r).elim
 | some _=>cases u with
  | none=>exact(show False from r).elim
  | some _=>rfl
theorem ZcA.getD{o:Option V}{u:Option Value}{d:V}{d':Value}(r:ZcA o u)(rd:ZA d d'):ZA (o.getD d) (u.getD d'):=by
 cases o with
 | none=>cases u with
  | none=>exact rd
  | some _=>exact(show False from r).elim
 | some _=>cases u with
  | none=>exact(show False from r).elim
  | some _=>exact r
theorem KV.val{kvs:List (κ×V)}{vs:List (κ×Value)}(r:KV kvs vs)(k:κ):ZcA (Za1 kvs k) (valueAt vs k):=by
 unfold KV at r
 induction r with
 | nil=>exact True.intro
 | @cons p q ps qs h t ih =>
  obtain⟨h1,h2⟩:=h
  by_cases e:p.1=k
  ·have e':q.1=k:=h1.symm.trans e
   have b:valueAt (q::qs) k=some q.2:=by simp[valueAt,List.find?_cons,e']
   rw[ZcR e,b];exact h2
  ·have e':¬ q.1=k:=fun z=>e (h1.trans z)
   have b:valueAt (q::qs) k=valueAt qs k:=by simp[valueAt,List.find?_cons,e']
   rw[ZcJ e,b];exact ih
theorem KV.any{kvs:List (κ×V)}{vs:List (κ×Value)}(r:KV kvs vs)(k:κ):(kvs.any fun kv=>decide (kv.1=k))=vs.any fun kv=>decide (kv.1=k):=by
 unfold KV at r
 induction r with
 | nil=>rfl
 | cons h t ih=>rw[Qap,Qap,ih,h.1]
theorem KV.repl{kvs:List (κ×V)}{vs:List (κ×Value)}(r:KV kvs vs)(k:κ){y:V}{u:Value}(ry:ZA y u) :
  KV (kvs.map fun kv=>if kv.1=k then (kv.1,y) else kv) (vs.map fun kv=>if kv.1=k then (kv.1,u) else kv):=by
 unfold KV at r ⊢
 induction r with
 | nil=>exact .nil
 | @cons p q ps qs h t ih =>
  rw[Qg,Qg]
  refine .cons ?_ ih
  obtain⟨h1,h2⟩:=h
  by_cases e:p.1=k
  ·rw[if_pos e,if_pos (h1.symm.trans e)];exact⟨h1,ry⟩
  ·rw[if_neg e,if_neg (fun z=>e (h1.trans z))];exact⟨h1,h2⟩
theorem KV.put{kvs:List (κ×V)}{vs:List (κ×Value)}(r:KV kvs vs)(k:κ){y:V}{u:Value}(ry:ZA y u):KV (ZbD kvs k y) (stored vs k u):=by
 unfold ZbD stored
 rw[r.any k]
 by_cases e:(vs.any fun kv=>decide (kv.1=k))=true
 ·rw[if_pos e,if_pos e];exact r.repl k ry
 ·rw[if_neg e,if_neg e];exact Paired.snoc r ⟨rfl,ry⟩
theorem KV.length{kvs:List (κ×V)}{vs:List (κ×Value)}(r:KV kvs vs):kvs.length=vs.length:=Paired.length r
end
theorem Zhg{P:Program}{w:World}{k:Key}{u:Value}(r:ZA (kV k) u):(Zx P w).is k u=true:=by
 cases k with
 | inl i=>obtain⟨t,e⟩:=(show ∃t,u=Value.int i t from r);subst e;exact Zhz P w i t
 | inr x=>obtain⟨t,e⟩:=(show ∃t,u=Value.str x t from r);subst e;exact Zhp P w x t
theorem Zfz{P:Program}{w:World}:∀ {ks:List Key} {us:List Value},ZB (ks.map kV) us→ItemsAre (Zx P w) ks us
 | [],_,r=>by rw[List.map_nil]at r;cases r;exact .nil
 | k::ks,_,r=>by
  rw[Qg]at r
  cases r with
  | cons h t=>exact .cons (Zhg h) (Zfz t)
abbrev KT(H:Hp):List (List Key×V)→List (List Key×Addr×Value)→Prop:=Paired fun p q=>p.1=q.1∧H q.2.1=some (.tup (p.1.map kV))∧ZA p.2 q.2.2
theorem KT.val{H:Hp}{kvs:List (List Key×V)}{xs:List (List Key×Addr×Value)}(r:KT H kvs xs)(k:List Key):ZcA (Za1 kvs k) ((atKey xs k).map (·.2)):=by
 induction r with
 | nil=>exact True.intro
 | @cons p q ps qs h t ih =>
  obtain⟨h1,_,h2⟩:=h
  by_cases e:p.1=k
  ·have e':q.1=k:=h1.symm.trans e
   have b:atKey (q::qs) k=some q.2:=by simp[atKey,List.find?_cons,e']
   rw[ZcR e,b];exact h2
  ·have e':¬ q.1=k:=fun z=>e (h1.trans z)
   have b:atKey (q::qs) k=atKey qs k:=by simp[atKey,List.find?_cons,e']
   rw[ZcJ e,b];exact ih
theorem KT.repl{H:Hp}{kvs:List (List Key×V)}{xs:List (List Key×Addr×Value)}(r:KT H kvs xs)(k:List Key){y:V}{u:Value}(ry:ZA y u) :
  KT H (kvs.map fun kv=>if kv.1=k then (kv.1,y) else kv) (xs.map (putAt k u)):=by
 induction r with
 | nil=>exact .nil
 | @cons p q ps qs h t ih =>
  rw[Qg,Qg]
  refine .cons ?_ ih
  obtain⟨h1,h2,h3⟩:=h
  unfold putAt
  by_cases e:p.1=k
  ·rw[if_pos e,if_pos (h1.symm.trans e)];exact⟨h1,h2,ry⟩
  ·rw[if_neg e,if_neg (fun z=>e (h1.trans z))];exact⟨h1,h2,h3⟩
theorem KT.put{H:Hp}{kvs:List (List Key×V)}{xs:List (List Key×Addr×Value)}(r:KT H kvs xs)(k:List Key){b:Addr}{y:V}{u:Value}(hb:H b=some (.tup (k.map kV)))(ry:ZA y u) :
  KT H (ZbD kvs k y) (storedH xs k b u):=by
 have e:(kvs.any fun kv=>decide (kv.1=k))=(atKey xs k).isSome:=by
  rw[Ze2,(r.val k).isSome_eq,Option.isSome_map]
 unfold ZbD storedH
 rw[e]
 by_cases q:(atKey xs k).isSome=true
 ·rw[if_pos q,if_pos q];exact r.repl k ry
 ·rw[if_neg q,if_neg q];exact Paired.snoc r ⟨rfl,hb,ry⟩
theorem KT.keeps{H H':Hp}{kvs:List (List Key×V)}{xs:List (List Key×Addr×Value)}(r:KT H kvs xs)(ht:∀b ys,H b=some (.tup ys)→H' b=some (.tup ys)):KT H' kvs xs :=
 Paired.mapP r fun _ _ z=>⟨z.1,ht _ _ z.2.1,z.2.2⟩
section
variable {P:Program} {w:World} {H:Hp} {h:Heap} {a:Addr}
theorem ZmR{u:HO}(ok:HOk P w H h)(e:Rd H a u):Z1 P w H h a u:=e.ok ok
theorem ZfN{kvs:List (Key×V)}(ok:HOk P w H h)(e:Rd H a (.dK kvs)):kvs.length≤sizeLine∧(a == sysModules)=false∧∃vs,KV kvs vs∧h.DictOf (Zx P w) a vs :=
 show Z1 P w H h a (.dK kvs) from ZmR ok e
theorem ZmP{kvs:List (Key×V)}(ok:HOk P w H h)(e:H a=some (.dK kvs)):kvs.length≤sizeLine∧(a == sysModules)=false∧∃vs,KV kvs vs∧h.DictOf (Zx P w) a vs:=ZfN ok (.inl e)
theorem Zgr{ks:List Key}(ok:HOk P w H h)(e:H a=some (.tup (ks.map kV))):(tupleKind (Zx P w)).is h ks a:=by
 obtain⟨_,its,r,o,h1,h2,n,h3⟩:=(show Z1 P w H h a (.tup (ks.map kV)) from ok a _ e)
 exact⟨o,its.toArray,n,h1,h2,h3,by simpa using Zfz r⟩
theorem Zho{kvs:List (List Key×V)}(ok:HOk P w H h)(e:Rd H a (.dT kvs)):kvs.length≤sizeLine∧(a == sysModules)=false ∧
  ∃xs,KT H kvs xs∧h.DictOfH (tupleKind (Zx P w)) a xs:=by
 obtain⟨z,y,xs,r,o,es,ep,h1,h2,h3,h4,h5⟩:=(show Z1 P w H h a (.dT kvs) from ZmR ok e)
 refine⟨z,y,xs,r,o,es,ep,h1,h2,h3,h4,fun x hx=>?_,h5⟩
 have all:∀ {l:List (List Key×V)} {m:List (List Key×Addr×Value)},KT H l m→∀x∈m,(tupleKind (Zx P w)).is h x.1 x.2.1:=by
  intro l m q
  induction q with
  | nil=>intro x hx;exact nomatch hx
  | @cons p q ps qs hq t ih =>
   intro x hx
   rcases QA.mp hx with e|hx
   ·subst e
    exact Zgr ok (by rw[← hq.1];exact hq.2.1)
   ·exact ih x hx
 exact all r x hx
theorem Zm1{kvs:List (List Key×V)}(ok:HOk P w H h)(e:H a=some (.dT kvs)):kvs.length≤sizeLine∧(a == sysModules)=false ∧
  ∃xs,KT H kvs xs∧h.DictOfH (tupleKind (Zx P w)) a xs:=Zho ok (.inl e)
end
def Zbq(H:Hp)(a:Addr)(y:V)(r:Option V):Prop :=
 (∃kvs k,Rd H a (.dK kvs)∧y=kV k∧r=Za1 kvs k)∨∃kvs k b,Rd H a (.dT kvs)∧y=.ref b∧H b=some (.tup (k.map kV))∧r=Za1 kvs k
def Zea(H:Hp)(a:Addr)(y v:V)(H':Hp):Prop :=
 (∃kvs k,H a=some (.dK kvs)∧y=kV k∧kvs.length<sizeLine∧H'=upd H a (.dK (ZbD kvs k v))) ∨
 ∃kvs k b,H a=some (.dT kvs)∧y=.ref b∧H b=some (.tup (k.map kV))∧kvs.length<sizeLine∧H'=upd H a (.dT (ZbD kvs k v))
theorem Zbq.k{H:Hp}{a:Addr}{kvs:List (Key×V)}{k:Key}(e:H a=some (.dK kvs)):Zbq H a (kV k) (Za1 kvs k):=.inl ⟨kvs,k,.inl e,rfl,rfl⟩
theorem Zbq.t{H:Hp}{a b:Addr}{kvs:List (List Key×V)}{k:List Key}(e:H a=some (.dT kvs))(eb:H b=some (.tup (k.map kV))):Zbq H a (.ref b) (Za1 kvs k):=.inr ⟨kvs,k,b,.inl e,rfl,eb,rfl⟩
theorem Zea.k{H:Hp}{a:Addr}{kvs:List (Key×V)}{k:Key}{v:V}(e:H a=some (.dK kvs))(hl:kvs.length<sizeLine):Zea H a (kV k) v (upd H a (.dK (ZbD kvs k v))):=.inl ⟨kvs,k,e,rfl,hl,rfl⟩
theorem Zea.t{H:Hp}{a b:Addr}{kvs:List (List Key×V)}{k:List Key}{v:V}(e:H a=some (.dT kvs))(eb:H b=some (.tup (k.map kV)))(hl:kvs.length<sizeLine) :
  Zea H a (.ref b) v (upd H a (.dT (ZbD kvs k v))):=.inr ⟨kvs,k,b,e,rfl,eb,hl,rfl⟩
section
variable {X:Cx} {pins:List (Addr×Obj)} {σ:St} {H:Hp} {s:Shared} {a:Addr} {y v:V} {u r:Value} {o:Option V} {A:Around} {E:Value→Shared→Prop}
theorem Inv.big(I:Inv X pins σ H s):sysModules<s.heap.objs.size:=by
 have h:mainGlobals<s.heap.objs.size:=(I.mod.glob.keeps I.bk).lt
 exact Nat.lt_trans (by decide) h
theorem Zjo{Q:Value→Shared→Prop}(hu:A.units+1<cLine)(I:Inv X pins σ H s)(g:Zbq H a y (some v))(ry:ZA y u)(h:∀w' s',Inv X pins σ H s'→ZA v w'→Q w' s') :
  wpAny (model X.prog X.w) A (getItem (.ref a) u) Q E s:=by
 rcases g with⟨kvs,k,e,ey,l⟩|⟨kvs,k,b,e,ey,eb,l⟩
 ·subst ey
  obtain⟨z,hd,vs,rel,dd⟩:=ZfN I.hok e
  obtain⟨w',hw,rw'⟩:=ZcA.some_of (v:=v) (o:=valueAt vs k) (by rw[l];exact rel.val k)
  exact wpAny_getItem_of (Zhg ry) dd.mapOf hw (h w' _ (I.tok _) rw')
 ·subst ey
  cases (show u=Value.ref b from ry)
  obtain⟨z,hd,xs,rel,dd⟩:=Zho I.hok e
  obtain⟨w',hw,rw'⟩:=ZcA.some_of (v:=v) (o:=(atKey xs k).map (·.2)) (by rw[l];exact rel.val k)
  obtain⟨p,hp,hp2⟩:=Qax.mp hw
  refine wpAny_getItem_heap (tupleKind_room_in1 hu) (Zgr I.hok eb) dd hp ?_
  rw[hp2]
  exact h w' _ (I.tok _) rw'
theorem ZgB{h':Heap}{t':Nat}{ob:HO}(I:Inv X pins σ H s)(mu:Mut (H a))(hs:Heap.SameBut a s.heap h')(he:∃q,h'.get? a=some q)(new:Z1 X.prog X.w (upd H a ob) h' a ob) :
  Inv X pins σ (upd H a ob) { s with heap:=h',toks:=t' } :=
 I.write (x:=a) (e:=a) mu (.inl rfl) (fun b q hb z=>(hs.2 b hb).trans z) he new
theorem ZkT{P:Program}{w:World}{H':Hp}{h':Heap}{kvs:List (Key×V)}{vs:List (Key×Value)}(z:kvs.length≤sizeLine)(hd:(a == sysModules)=false)(rel:KV kvs vs)(dd:h'.DictOf (Zx P w) a vs) :
  Z1 P w H' h' a (.dK kvs):=⟨z,hd,vs,rel,dd⟩
theorem Zjt{H':Hp}{Q:Unit→Shared→Prop}(hu:A.units+1<cLine)(I:Inv X pins σ H s)(g:Zea H a y v H')(ry:ZA y u)(rv:ZA v r)(h:∀s',Inv X pins σ H' s'→Q () s') :
  wpAny (model X.prog X.w) A (setItem (.ref a) u r) Q E s:=by
 rcases g with⟨kvs,k,e,ey,l,eH⟩|⟨kvs,k,b,e,ey,eb,l,eH⟩
 ·subst ey eH
  obtain⟨z,hd,vs,rel,dd⟩:=ZmP I.hok e
  have hz:vs.length≤sizeLine:=by rw[← rel.length];exact z
  have hl:(ZbD kvs k v).length≤sizeLine:=by have:=Zc0 kvs k v;omega
  refine wpAny_setItem_pairs (hsz:=hz) (Zhg ry) dd fun h' dd' hs=>h _ ?_
  have he:∃q,h'.get? a=some q:=let ⟨q,_,_,hq,_⟩:=dd';⟨q,hq⟩
  exact ZgB I (by rw[e];exact True.intro) hs he (ZkT hl hd (rel.put k rv) dd')
 ·subst ey eH
  cases (show u=Value.ref b from ry)
  obtain⟨z,hd,xs,rel,dd⟩:=Zm1 I.hok e
  have hz:xs.length≤sizeLine:=by rw[← Paired.length rel];exact z
  have hl:(ZbD kvs k v).length≤sizeLine:=by have:=Zc0 kvs k v;omega
  refine wpAny_setItem_heap (hsz:=hz) (tupleKind_room_in1 hu) (Zgr I.hok eb) dd fun h' dd' hs=>h _ ?_
  obtain⟨q,es,ep,hq,h2,h3,h4,_,h5⟩:=dd'
  refine ZgB I (by rw[e];exact True.intro) hs ⟨q,hq⟩ ⟨hl,hd,_,(rel.put k eb rv).keeps fun c ys ec=>?_,q,es,ep,hq,h2,h3,h4,h5⟩
  rw[Zc (ZkQ ec e (fun z=>nomatch z))]
  exact ec
end
section
variable {X:Cx} {pins:List (Addr×Obj)} {σ:St} {H:Hp} {s:Shared} {a:Addr} {kvs:List (Key×V)} {k:Key} {u:Value} {A:Around} {E:Value→Shared→Prop}
theorem ZoK{Q:Value→Shared→Prop}(I:Inv X pins σ H s)(e:Rd H a (.dK kvs))(h:∀t s',Inv X pins σ H s'→Q (.int kvs.length t) s'):wpAny (model X.prog X.w) A (call (.builtin "len") [.ref a]) Q E s:=by
 obtain⟨z,hd,vs,rel,dd⟩:=ZfN I.hok e
 refine call_len_dict hd dd (by rw[← rel.length];rw[sizeLine_eq]at z;omega) ?_
 rw[← rel.length]
 exact h _ _ (I.tok _)
end
def NoSl(i:Expr):Prop:=∀ov iv,subscripted i false ov iv=operate [ov,iv] (getItem ov iv)
theorem Zhn{X:Cx}{pins:List (Addr×Obj)}{σ:St}{H:Hp}{s:Shared}{a:Addr}{y:V}{o:Option V}(I:Inv X pins σ H s)(g:Zbq H a y o):s.TypeIs (.ref a) "dict":=by
 rcases g with⟨kvs,k,e,_,_⟩|⟨kvs,k,b,e,_,_,_⟩
 ·obtain⟨_,_,vs,_,dd⟩:=ZfN I.hok e
  exact dd.typeIs
 ·obtain⟨_,_,xs,_,dd⟩:=Zho I.hok e
  exact dd.typeIs
def tDGet(td ty:TE):TE:=fun σ H Q=>td σ H fun x H1=>ty σ H1 fun y H2=>∃a v,x=.ref a∧Zbq H2 a y (some v)∧Q v H2
def tDIn(ty td:TE):TE:=fun σ H Q=>ty σ H fun y H1=>td σ H1 fun x H2=>∃a o,x=.ref a∧Zbq H2 a y o∧Q (.bl o.isSome) H2
def tDNotIn(ty td:TE):TE:=fun σ H Q=>ty σ H fun y H1=>td σ H1 fun x H2=>∃a o,x=.ref a∧Zbq H2 a y o∧Q (.bl (!o.isSome)) H2
def sDPut(td ty tv:TE):TS:=fun D σ H=>tv σ H fun v H1=>td σ H1 fun x H2=>ty σ H2 fun y H3=>∃a H4,x=.ref a∧Zea H3 a y v H4∧D.nx σ H4
def sDAug(td ty tv:TE)(rd:V→V→Hp→VK→Prop):TS:=fun D σ H=>td σ H fun x H1=>ty σ H1 fun y H2=>∃a v,x=.ref a∧Zbq H2 a y (some v) ∧
 tv σ H2 fun y2 H3=>rd v y2 H3 fun z H4=>∃H5,Zea H4 a y z H5∧D.nx σ H5
def sDDel(td ty:TE):TS:=fun D σ H=>td σ H fun x H1=>ty σ H1 fun y H2=>∃a kvs k,x=.ref a∧H2 a=some (.dK kvs)∧y=kV k∧(Za1 kvs k).isSome=true∧D.nx σ (upd H2 a (.dK (Zir kvs k)))
section
variable {X:Cx} {o i e value:Expr} {pos pos' tpos:Pos} {td ty tv:TE}
end
theorem ZgM{P:Program}{w:World}{H:Hp}(h:Heap)(hb:sysModules<h.objs.size):Z1 P w H (h.push { cls:=.type "dict",data:=.dict #[] }) h.objs.size (.dK []) :=
 ⟨Qr _,beq_eq_false_iff_ne.mpr (Ne.symm (Qu hb)),[],.nil,Heap.DictOf.new h⟩
def ZnC:TE:=fun _ H Q=>∀p,H p=none→Q (.ref p) (upd H p (.dK []))
def tDNewT:TE:=fun _ H Q=>∀p,H p=none→Q (.ref p) (upd H p (.dT []))
section
variable {X:Cx} {pos:Pos}
theorem Zle:PE X (.Dict [] [] pos) ZnC:=fun pins s σ H Q I h =>
 wpAny_Dict_empty ⟨.ref s.heap.objs.size,_,I.laid (a:=s.heap.objs.size) (o:=.dK []) (t':=s.toks) (fun _ _ q=>Qc _ q) (Qd _) (ZgM s.heap I.big),rfl,h _ (I.hok.fresh (Qd _))⟩
end
def ZhT:List (TE×TE)→St→Hp→(List (V×V)→Hp→Prop)→Prop
 | [],_,H,Q=>Q [] H
 | (tk,tv)::r,σ,H,Q=>tk σ H fun x H1=>tv σ H1 fun y H2=>ZhT r σ H2 fun ps H3=>Q ((x,y)::ps) H3
abbrev VV:List (V×V)→List (Value×Value)→Prop:=Paired fun p q=>ZA p.1 q.1∧ZA p.2 q.2
def PPs(X:Cx)(pos:Pos)(keys:List (Option Expr))(values:List Expr)(trs:List (TE×TE)):Prop :=
 ∀ (pins:List (Addr×Obj)) (s:Shared) (σ:St) (H:Hp) (Q:List (V×V)→Hp→Prop),Inv X pins σ H s→ZhT trs σ H Q →
  wpAny (model X.prog X.w) X.A (evalPairs (pairTrees keys values X.env pos)) (fun vs s'=>∃ps H',Inv X pins σ H' s'∧VV ps vs∧Q ps H') X.xe s
def ZhV(kvs more:List (Key×V)):List (Key×V):=more.foldl (fun acc kv=>ZbD acc kv.1 kv.2) kvs
def tDisp(trs:List (TE×TE)):TE:=fun σ H Q=>∀p,H p=none→ZhT trs σ (upd H p (.dK [])) fun ps H2=>H2 p=some (.dK [])∧∃kvs:List (Key×V),ps=kvs.map (fun kv=>(kV kv.1,kv.2))∧kvs.length≤15∧Q (.ref p) (upd H2 p (.dK (ZhV [] kvs)))
structure M1 (X:Cx) (o:Expr) (m:Str) (apos:Pos) (e:Expr) (cpos:Pos):Prop where
 base:attributeBase o m X.env (eval o X.env)=eval o X.env
 few:((backTo cpos (starEach [e] X.env)).all (fun x=>!x.1)&&(backToKw cpos (keywordEach [] X.env)).all (fun x=>x.1.isSome)
  && decide (([e]:List Expr).length+([]:List Keyword).length+(if ([]:List Keyword).isEmpty then 0 else 1)<30))=true
 line:(apos.endLine == cpos.line)=true
 trees:backTo cpos (starEach [e] X.env)=[(false,eval e X.env)]
structure M2 (X:Cx) (o:Expr) (m:Str) (apos:Pos) (e f:Expr) (cpos:Pos):Prop where
 base:attributeBase o m X.env (eval o X.env)=eval o X.env
 few:((backTo cpos (starEach [e,f] X.env)).all (fun x=>!x.1)&&(backToKw cpos (keywordEach [] X.env)).all (fun x=>x.1.isSome)
  && decide (([e,f]:List Expr).length+([]:List Keyword).length+(if ([]:List Keyword).isEmpty then 0 else 1)<30))=true
 line:(apos.endLine == cpos.line)=true
 trees:backTo cpos (starEach [e,f] X.env)=[(false,eval e X.env),(false,eval f X.env)]
def IsD(H:Hp)(a:Addr):Prop:=(∃kvs,Rd H a (.dK kvs))∨∃kvs,Rd H a (.dT kvs)
theorem Znj{X:Cx}{pins:List (Addr×Obj)}{σ:St}{H:Hp}{s:Shared}{a:Addr}(I:Inv X pins σ H s)(d:IsD H a) :
  s.TypeIs (.ref a) "dict"∧(∀b,Value.ref a=.ref b→∃ob,s.heap.get? b=some ob∧ob.dict=none)∧(a == sysModules)=false:=by
 rcases d with⟨kvs,e⟩|⟨kvs,e⟩
 ·obtain⟨_,hd,vs,_,dd⟩:=ZfN I.hok e
  refine⟨dd.typeIs,fun b q=>?_,hd⟩
  cases q
  obtain⟨ob,_,_,h1,h2,_⟩:=dd
  exact⟨ob,h1,h2.2.1⟩
 ·obtain⟨_,hd,xs,_,dd⟩:=Zho I.hok e
  refine⟨dd.typeIs,fun b q=>?_,hd⟩
  cases q
  obtain⟨ob,_,_,h1,h2,_⟩:=dd
  exact⟨ob,h1,h2.2.1⟩
section
variable {X:Cx} {pins:List (Addr×Obj)} {σ:St} {H:Hp} {s:Shared} {a:Addr} {y d:V} {u r:Value} {o:Option V} {A:Around} {E:Value→Shared→Prop}
theorem Zm4{Q:Value→Shared→Prop}(hu:A.units+1<cLine)(I:Inv X pins σ H s)(g:Zbq H a y o)(ry:ZA y u)(h:∀w' s',Inv X pins σ H s'→ZA (o.getD .non) w'→Q w' s') :
  wpAny (model X.prog X.w) A (call (.builtin "dict.get") [.ref a,u]) Q E s:=by
 rcases g with⟨kvs,k,e,ey,l⟩|⟨kvs,k,b,e,ey,eb,l⟩
 ·subst ey
  obtain⟨z,hd,vs,rel,dd⟩:=ZfN I.hok e
  refine call_meetsIn PySem.F.slot_dict_get dd.typeIs PySem.F.entry_dict_get (PySem.F.args_dict_get_2 _ _) (meets_dict_get (Zx X.prog X.w) a (Zhg ry) hd) ⟨_,dd.mapOf,h _ _ (I.tok _) ?_⟩
  rw[l]
  exact(rel.val k).getD rfl
 ·subst ey
  cases (show u=Value.ref b from ry)
  obtain⟨z,hd,xs,rel,dd⟩:=Zho I.hok e
  refine call_meetsIn PySem.F.slot_dict_get dd.typeIs PySem.F.entry_dict_get (PySem.F.args_dict_get_2 _ _) (meetsH_dict_get (tupleKind (Zx X.prog X.w)) a b hd) ⟨tupleKind_room_in1 hu,k,xs,Zgr I.hok eb,dd,h _ _ (I.tok _) ?_⟩
  rw[l]
  exact(rel.val k).getD rfl
end
def Zk1(td ty:TE):TE:=fun σ H Q=>td σ H fun x H1=>∃a,x=.ref a∧IsD H1 a∧ty σ H1 fun y H2=>∃o,Zbq H2 a y o∧Q (o.getD .non) H2
def Zpv(td ty tx:TE):TE:=fun σ H Q=>td σ H fun x H1=>∃a,x=.ref a∧IsD H1 a∧ty σ H1 fun y H2=>tx σ H2 fun z H3=>∃o,Zbq H3 a y o∧Q (o.getD z) H3
def ZpI(td ty:TE):TE:=fun σ H Q=>td σ H fun x H1=>∃a,x=.ref a∧IsD H1 a∧ty σ H1 fun y H2=>∃kvs k v,H2 a=some (.dK kvs)∧y=kV k∧Za1 kvs k=some v∧Q v (upd H2 a (.dK (Zir kvs k)))
def ZpB(td ty tx:TE):TE:=fun σ H Q=>td σ H fun x H1=>∃a,x=.ref a∧IsD H1 a∧ty σ H1 fun y H2=>tx σ H2 fun z H3=>∃kvs k,H3 a=some (.dK kvs)∧y=kV k ∧
 (∀v,Za1 kvs k=some v→Q v (upd H3 a (.dK (Zir kvs k))))∧(Za1 kvs k=none→Q z H3)
section
variable {X:Cx} {o e f:Expr} {apos cpos:Pos} {td ty tx:TE}
theorem Zk6(hu:X.A.units+1<cLine)(ho:PE X o td)(he:PE X e ty)(m:M1 X o "get" apos e cpos):PE X (.Call (.Attribute o "get" apos) [e] [] cpos) (Zk1 td ty):=by
 intro pins s σ H Q I h
 refine wpAny_Call_method m.base m.few m.line Qau PySem.F.slot_dict_get PySem.F.type_dict_get (thn (ho pins s σ H _ I h) fun u s1 ⟨x,H1,I1,rx,a,ex,d,q1⟩=>?_)
 subst ex
 obtain rfl:u=Value.ref a:=rx
 obtain⟨t1,t2,_⟩:=Znj I1 d
 refine⟨t1,t2,?_⟩
 rw[m.trees]
 refine Calls.callWith_builtin rfl (Calls.evalArgs_plain (Calls.spliced_cons (thn (he pins s1 σ H1 _ I1 q1) fun iv s2 ⟨y,H2,I2,ry,ov,g,q2⟩=>Calls.spliced_nil ?_)))
 exact Zm4 hu I2 g ry fun w' s3 I3 rw'=>⟨_,H2,I3,rw',q2⟩
end
section
variable {X:Cx} {pins:List (Addr×Obj)} {σ:St} {H:Hp} {s:Shared} {a:Addr} {kvs:List (Key×V)} {A:Around} {E:Value→Shared→Prop}
end
section
variable {X:Cx} {pins:List (Addr×Obj)} {σ:St} {H:Hp} {s:Shared} {a:Addr} {y:V} {u:Value} {A:Around} {E:Value→Shared→Prop}
end
section
variable {X:Cx}
theorem Zjp:Zay X (.builtin "len") (fun xs H Q=>∃a kvs,xs=[V.ref a]∧H a=some (.dK kvs)∧Q (.int kvs.length) H):=by
 intro pins s σ H xs us Q I r h
 obtain⟨a,kvs,rfl,ha,q⟩:=h
 obtain⟨u,rfl,ru⟩:=Zct r
 cases ru
 exact ZoK I (.inl ha) fun t s' I'=>⟨.int kvs.length,H,I',⟨t,rfl⟩,q⟩
end
section
variable {κ:Type} [DecidableEq κ]
end
structure Mf (P:Program) (w:World) (K:PySem.W.Frag) (mg:Str→Option Value) (base:Heap) (k:Nat) (C:Addr) (m:Str) (ps:List Str) (sp:Sp):Prop where
 ex:∃f fd,Zdf P w K mg base CX0 k f fd ps sp∧ZkS K C m f∧ZbH K fd ps []
structure Cf (P:Program) (w:World) (K:PySem.W.Frag) (mg:Str→Option Value) (base:Heap) (k:Nat) (C:Addr) (x:Str) (ps:List Str) (sp:Sp):Prop where
 ex:∃f fd,Zdf P w K mg base CX0 k f fd ps sp∧Mk K C f∧ZbH K fd ps []∧mg x=some (.ref C)
structure ZcU (K:PySem.W.Frag) (C:Addr) (m qual:Str) (st:Stmt) (ps:List Str):Prop where
 ex:∃f fd,Fun K m qual st f fd∧ZkS K C m f∧ZbH K fd ps []
structure ZlO (K:PySem.W.Frag) (mg:Str→Option Value) (C:Addr) (x qual:Str) (st:Stmt) (ps:List Str):Prop where
 ex:∃f fd,Fun K "__init__" qual st f fd∧Mk K C f∧ZbH K fd ps []∧mg x=some (.ref C)
section
variable {P:Program} {w:World} {K:PySem.W.Frag} {mg:Str→Option Value} {base:Heap}
theorem ZcU.mf{C:Addr}{m qual:Str}{st:Stmt}{N ps:List Str}{k:Nat}{sp:Sp}(T:ZcU K C m qual st ps)(S:Zp N ps (Ze st))(len:∀vs H Q E,sp vs H Q E→vs.length=ps.length)
  (hbody:∀ (cdv:Value) (f:Addr) (A:Around) (outer:List Env) (s:Shared) (H:Hp) (vs:List V) (Q:VK) (E:XK),ZaI k (A.deeper (envOfC qual (Ze st) s.heap.objs.size f cdv))→sp vs H Q E →
   ∃t,PSs (Zgz CX0 P w K mg base N qual (Ze st) f cdv A outer s H E).nox (Zl st) t∧t { nx:=fun _ H'=>Q .non H',rt:=Q } (ZcL N vs) H):Mf P w K mg base (k+1) C m ps sp:=by
 obtain⟨f,fd,F,m,b⟩:=T.ex
 exact⟨f,fd,F.ok S len (fun cdv A outer s H vs Q E hr h=>hbody cdv f A outer s H vs Q E hr h),m,b⟩
theorem ZlO.cf{C:Addr}{x qual:Str}{st:Stmt}{N ps:List Str}{k:Nat}{sp:Sp}(T:ZlO K mg C x qual st ps)(S:Zp N ps (Ze st))(len:∀vs H Q E,sp vs H Q E→vs.length=ps.length)
  (hbody:∀ (cdv:Value) (f:Addr) (A:Around) (outer:List Env) (s:Shared) (H:Hp) (vs:List V) (Q:VK) (E:XK),ZaI k (A.deeper (envOfC qual (Ze st) s.heap.objs.size f cdv))→sp vs H Q E →
   ∃t,PSs (Zgz CX0 P w K mg base N qual (Ze st) f cdv A outer s H E).nox (Zl st) t∧t { nx:=fun _ H'=>Q .non H',rt:=Q } (ZcL N vs) H):Cf P w K mg base (k+1) C x ps sp:=by
 obtain⟨f,fd,F,m,b,g⟩:=T.ex
 exact⟨f,fd,F.ok S len (fun cdv A outer s H vs Q E hr h=>hbody cdv f A outer s H vs Q E hr h),m,b,g⟩
end
section
variable {X:Cx} {k j:Nat} {C:Addr} {m x:Str} {ps:List Str} {sp:Sp} {o e:Expr} {es:List Expr} {ta:TE} {t:TA} {p apos pos:Pos} {pl:Sem Bool}
theorem Zcy(F:Mf X.prog X.w X.K X.mg X.base k C m ps sp)(c:Cls X.K C)(hr:ZaI j X.A)(he:PE X o ta)(ha:PA X (e::es) t)(hjk:k≤j:=by decide)
  (hst:starEach (e::es) X.env=(false,eval e X.env)::starEach es X.env:=by rfl) (hpl:(backTo pos (starEach es X.env)).any (·.1)=false:=by rfl)
  (ht:eval (.Call (.Attribute o m apos) (e::es) [] pos) X.env=(do
   let ov ← eval o X.env
   standAt apos.atName
   let (f,first) ← holding [ov] (getMethod ov m pl)
   callWith pos f first (backTo pos (starEach (e::es) X.env)) (backToKw pos (keywordEach [] X.env))):=by rfl) :
  PE X (.Call (.Attribute o m apos) (e::es) [] pos) (ZiS C m sp [] E0 ta t):=by
 obtain⟨f,fd,F,g,b⟩:=F.ex
 exact Zl8 he c g F (hr.mono hjk) b .nil Zi0 ha hst hpl ht
theorem ZaC(F:Mf X.prog X.w X.K X.mg X.base k C m ps sp)(c:Cls X.K C)(hr:ZaI j X.A)(he:PE X o ta)(hjk:k≤j:=by decide)
  (ht:eval (.Call (.Attribute o m apos) [] [] pos) X.env=(do
   let ov ← eval o X.env
   standAt apos.atName
   let (f,first) ← holding [ov] (getMethod ov m pl)
   callWith pos f first (backTo pos (starEach [] X.env)) (backToKw pos (keywordEach [] X.env))):=by rfl) :
  PE X (.Call (.Attribute o m apos) [] [] pos) (ZiS C m sp [] E0 ta ZnK):=by
 obtain⟨f,fd,F,g,b⟩:=F.ex
 exact ZkG he c g F (hr.mono hjk) b .nil Zi0 ht
theorem ZeK(F:Cf X.prog X.w X.K X.mg X.base k C x ps sp)(hr:ZaI j X.A)(ha:PA X (e::es) t)(hjk:k+1≤j:=by decide)(hg:Gl X x:=by rfl)(hdb:(x == ("__debug__" : Str))=false:=by decide)
  (he:starEach (e::es) X.env=(false,eval e X.env)::starEach es X.env:=by rfl) (hpl:(backTo pos (starEach es X.env)).any (·.1)=false:=by rfl) :
  PE X (.Call (.Name x p) (e::es) [] pos) (ZmU C sp [] E0 t):=by
 obtain⟨f,fd,F,g,b,gm⟩:=F.ex
 exact ZlR g F (hr.mono hjk) hg gm b .nil Zi0 ha hdb he hpl
end
section
variable {X:Cx} {pins:List (Addr×Obj)} {σ:St} {H:Hp} {s:Shared} {d:Addr} {o:Obj} {u:HO}
theorem Inv.freeze(I:Inv X pins σ H s)(e:H d=some u)(mu:Mut (some u))(ho:s.heap.get? d=some o):Inv X pins σ (upd H d (.frz o u)) s:=by
 have h:=I.write (x:=d) (e:=d) (o:=.frz o u) (t':=s.toks) (h':=s.heap) (by rw[e];exact mu) (.inl rfl) (fun b v _ q=>q) ⟨o,ho⟩ ?_
 ·exact h
 ·refine⟨ho,(I.hok d u e).stay (fun b v _ q=>q) (fun b q=>?_) (fun b xs q=>?_)⟩
  ·rw[Zc (fun z=>by rw[z,e]at q;cases q;exact mu)];exact q
  ·rw[Zc (fun z=>by rw[z,e]at q;cases q;exact mu)];exact q
theorem Inv.nofrz(I:Inv X pins σ H s)(e:H d=some u)(mu:Mut (some u)):∀o' u',X.H₀ d≠some (.frz o' u'):=fun o' u' z=>by
 have:=I.base.frzs d o' u' z
 rw[e]at this
 cases this
 exact mu
theorem Inv.thaw(I:Inv X pins σ H s)(e:H d=some (.frz o u))(mu:Mut (some u))(n:∀o' u',X.H₀ d≠some (.frz o' u')):Inv X pins σ (upd H d u) s:=by
 have hne:∀b,H b=none→b≠d:=fun b z=>Zb (H:=H) e z |>.symm
 refine⟨I.ok,I.os,I.bare,⟨I.base.keep,I.base.slot,fun b v a1 a2 a3=>?_,I.base.there,fun b xs q=>?_,fun b o' u' q=>?_,fun b ps q=>?_⟩,I.loc,I.cell,?_,fun x c q=>?_,fun p hp=>?_,?_,I.len⟩
 ·have:=I.base.free b v a1 a2 a3
  rw[Zc (hne b this)];exact this
 ·have:=I.base.tups b xs q
  rw[Zc (fun z=>by rw[z,e]at this;cases this)];exact this
 ·have:=I.base.frzs b o' u' q
  rw[Zc (fun z=>by rw[z]at q;exact n o' u' q)];exact this
 ·obtain⟨more,this⟩:=I.base.tbls b ps q
  refine⟨more,?_⟩
  rw[Zc (fun z=>by rw[z,e]at this;cases this)];exact this
 ·rw[Zc (hne _ I.free)];exact I.free
 ·rw[Zc (hne _ (I.freeC x c q))];exact I.freeC x c q
 ·obtain⟨a1,a2,a3⟩:=I.pin p hp
  exact⟨a1,by rw[Zc (hne _ a2)];exact a2,a3⟩
 ·intro b v q
  have own:∀c a,H c=some (.own a)→(upd H d u) c=some (.own a):=fun c a q=>by rw[Zc (fun z=>by rw[z,e]at q;cases q)];exact q
  have tup:∀c xs,H c=some (.tup xs)→(upd H d u) c=some (.tup xs):=fun c xs q=>by rw[Zc (fun z=>by rw[z,e]at q;cases q)];exact q
  by_cases hb:b=d
  ·subst hb
   rw[Zd]at q
   cases q
   obtain⟨_,h2⟩:=(show Z1 X.prog X.w H s.heap b (.frz o u) from I.hok b _ e)
   exact h2.stay (fun c v _ q=>q) (fun c q=>own c b q) tup
  ·rw[Zc hb]at q
   exact(I.hok b v q).stay (fun c v _ q=>q) (fun c q=>own c b q) tup
end
def ZoW(t:TE):TE:=fun σ H Q=>∃d u,H d=some u∧Mut (some u)∧t σ H fun v H'=>∃o,H' d=some (.frz o u)∧Q v (upd H' d u)
theorem ZiY{X:Cx}{e:Expr}{t:TE}(h:PE X e t):PE X e (ZoW t):=by
 intro pins s σ H Q I q
 obtain⟨d,u,e1,mu,q⟩:=q
 have n:=I.nofrz e1 mu
 refine thn (h pins s σ H _ I q) fun v s1 ⟨x,H1,I1,r1,o,e2,q1⟩=>?_
 exact⟨x,_,I1.thaw e2 mu n,r1,q1⟩
theorem ZiO{P:Program}{w:World}{k:Key}{v:Value}(h:(Zx P w).is k v=true):ZA (kV k) v:=by
 rw[ZhD]at h
 rcases Zaf h with⟨i,t,rfl,rfl⟩|⟨x,t,rfl,rfl⟩
 ·exact⟨t,rfl⟩
 ·exact⟨t,rfl⟩
def Zly:List V→Hp→VK→Prop:=fun xs H Q=>∃d kvs,xs=[.ref d]∧H d=some (.dK kvs)∧∀l,H l=none→Q (.ref l) (upd H l (.lst (kvs.map fun kv=>kV kv.1)))
theorem Zjy{P:Program}{w:World}:∀ (kvs:List (Key×V)) (vs:List (Key×Value)) (us:List Value),KV kvs vs→us.length=vs.length→(∀ (j:Nat) (v:Value),us[j]? = some v→∃k x,vs[j]? = some (k,x)∧(Zx P w).is k v=true)→ZB (kvs.map fun kv=>kV kv.1) us:=by
 intro kvs vs us r
 unfold KV at r
 induction r generalizing us with
 | nil =>
  intro hl _
  cases us with
  | nil=>exact .nil
  | cons a b=>simp at hl
 | @cons p q ps qs h t ih =>
  intro hl hp
  cases us with
  | nil=>simp at hl
  | cons a b =>
   obtain⟨k,x,e,hk⟩:=hp 0 a rfl
   have e':q=(k,x):=by simpa using e
   rw[Qg]
   refine .cons ?_ (ih b (by simpa using hl) fun j v hv=>?_)
   ·rw[h.1,e'];exact ZiO hk
   ·simpa using hp (j+1) v (by simpa using hv)
theorem Zif{X:Cx}(hc:X.calm=true):Zay X (.type "list") Zly:=by
 intro pins s σ H xs us Q I r h
 obtain⟨d,kvs,rfl,hd,q⟩:=h
 obtain⟨u,rfl,ru⟩:=Zct r
 cases ru
 obtain⟨z,lo,vs,rel,dd⟩:=(show Z1 X.prog X.w H s.heap d (.dK kvs) from I.hok d _ hd)
 obtain⟨ep,da⟩:=dd.dictAt
 have hl:kvs.length=vs.length:=rel.length
 refine PySem.W.kdl_call (PySem.W.kdl_dict lo) (I.ok.hd hc) da (by omega) fun h' tk acc c hk hD hacc=>?_
 have hv:ZB (kvs.map fun kv=>kV kv.1) acc.toList:=Zjy (P:=X.prog) (w:=X.w) kvs vs acc.toList rel (by rw[Q9];exact hacc.1) fun j v e=>hacc.2 j v (by rw[← Array.getElem?_toList];exact e)
 refine⟨.ref s.heap.objs.size,_,I.laid (a:=s.heap.objs.size) (o:=.lst (kvs.map fun kv=>kV kv.1)) (t':=tk) hk (Qd _) ?_,rfl,q _ (I.hok.fresh (Qd _))⟩
 exact⟨by rw[Qa];exact z,acc.toList,c,hv,by simpa using hD⟩
theorem Inv.dictF{X:Cx}{pins:List (Addr×Obj)}{σ:St}{H:Hp}{s:Shared}{d:Addr}{o:Obj}{kvs:List (Key×V)}{es:Array DictEntry}{ep:Nat}(I:Inv X pins σ H s)(e:H d=some (.frz o (.dK kvs)))(hd:o.data=.dict es ep) :
  ∃vs,KV kvs vs∧s.heap.DictAt (Zx X.prog X.w) d vs ep:=by
 obtain⟨ho,_,_,vs,rel,o',es',ep',h1,h2,h3,h4⟩:=(show Z1 X.prog X.w H s.heap d (.frz o (.dK kvs)) from I.hok d _ e)
 rw[ho]at h1
 cases h1
 rw[hd]at h3
 cases h3
 exact⟨vs,rel,o,es,ho,h2,hd,h4⟩
theorem Zkx{kvs:List (Key×V)}{vs:List (Key×Value)}(r:KV kvs vs):∀ (i:Nat) (k:Key) (x:V),kvs[i]? = some (k,x)→∃u,vs[i]? = some (k,u)∧ZA x u:=by
 unfold KV at r
 induction r with
 | nil=>intro i k x h;simp at h
 | @cons p q ps qs h t ih =>
  intro i k x hx
  cases i with
  | zero =>
   have e:p=(k,x):=by simpa using hx
   refine⟨q.2,?_,?_⟩
   ·have:q=(k,q.2):=by rw[show k=q.1 by rw[← h.1,e]]
    simpa using this
   ·have:=h.2;rw[e]at this;exact this
  | succ i=>simpa using ih i k x (by simpa using hx)
def Itv(d:Addr)(o:Obj)(kvs:List (Key×V)):It :=
 ⟨fun i H=>H d=some (.frz o (.dK kvs))∧i<kvs.length,fun i H v H'=>H'=H∧∃k,kvs[i]? = some (k,v),fun i H=>H d=some (.frz o (.dK kvs))∧kvs.length≤i⟩
def Itk(d:Addr)(o:Obj)(kvs:List (Key×V)):It :=
 ⟨fun i H=>H d=some (.frz o (.dK kvs))∧i<kvs.length,fun i H v H'=>H'=H∧∃k x,kvs[i]? = some (k,x)∧v=kV k,fun i H=>H d=some (.frz o (.dK kvs))∧kvs.length≤i⟩
theorem Zjj{P:Program}{w:World}{K:PySem.W.Frag}{tg:Expr}{d it:Addr}{o:Obj}{kvs:List (Key×V)}{es:Array DictEntry}{ep:Nat}(hd:o.data=.dict es ep):ZhS P w K tg (Itv d o kvs) [it] it (fun i h=>h.IsValIter it d i kvs.length ep) where
 mem:=by simp
 obj:=fun i h st b hb=>by
  have e:b=it:=by simpa using hb
  subst e
  obtain⟨o,e,c,d⟩:=st
  exact⟨o,e,fun v z=>by rw[d]at z;cases z⟩
 keep:=fun i h h' st k=>by
  obtain⟨o,e,r⟩:=st
  exact⟨o,k it (by simp) o e,r⟩
 item:=by
  intro X hP hw hK hc i pins s σ H E I hf st hg
  subst hP hw hK
  obtain⟨f0,f1,f2,f3,f4,f5⟩:=hf it (by simp)
  obtain⟨hfz,hi⟩:=hg
  obtain⟨vs,rel,da⟩:=I.dictF hfz hd
  have hl:kvs.length=vs.length:=rel.length
  obtain⟨u,hu,ru⟩:=Zkx rel i kvs[i].1 kvs[i].2 (Qb hi)
  refine wpAny_pyNext_values_item (by rw[← hl];exact st) da hu fun h' st' sb=>?_
  rw[← hl]at st'
  have I1:Inv X pins σ H { s with heap:=h' }:=I.turned (t':=s.toks) (fun b o hb e=>(sb.2 b hb).trans e) f0 f1 f3 f4 f5
  obtain⟨o1,e1,c1,d1⟩:=id st'
  exact⟨_,rfl,Zlv (s:={ s with heap:=h' }) e1 c1 d1 (by decide) ⟨kvs[i].2,H,I1,ru,⟨rfl,kvs[i].1,Qb hi⟩,st',fun b hb=>(hf b hb).1⟩⟩
 done:=by
  intro X hP hw hK hc i pins s σ H E I hf st hg
  subst hP hw hK
  obtain⟨f0,f1,f2,f3,f4,f5⟩:=hf it (by simp)
  obtain⟨hfz,hi⟩:=hg
  obtain⟨vs,rel,da⟩:=I.dictF hfz hd
  have hl:kvs.length=vs.length:=rel.length
  exact wpAny_pyNext_values_end (I.ok.hd hc) (by rw[← hl];exact st) da (QJ (by omega)) fun h' eb=>⟨rfl,I.turned (t':=s.toks) (fun b o hb e=>eb b o hb e) f0 f1 f3 f4 f5⟩
 self:=fun _ _ _ _ _ st h=>wpAny_pyIter_valiter st h
def iKeys(tl:TE):TI:=fun σ H R=>tl σ H fun x H1=>∃d kvs,x=.ref d∧H1 d=some (.dK kvs)∧∀o,R (Itk d o kvs) (upd H1 d (.frz o (.dK kvs)))
def rSortedD:List V→Hp→VK→Prop:=fun xs H Q=>∃d kvs ns,xs=[.ref d]∧H d=some (.dK kvs)∧kvs.map (·.1)=ns.map Sum.inl∧ns.length<64 ∧
 ∀ (l:Addr) (ns':List Int),H l=none→ns'.Perm ns→ns'.Pairwise (·≤·)→Q (.ref l) (upd H l (.lst (ns'.map V.int)))
def rSumL(K:PySem.W.Frag):List V→Hp→VK→Prop:=fun vs H Q=>∃ (p:Addr) (ns:List Int),vs=[.ref p]∧SqL K H p (ns.map V.int)∧ns.length≤1000∧(∀n∈ns,0≤n∧n≤1000000)∧Q (.int ns.sum) H
def ZoC(tl:TE):TI:=fun σ H R=>tl σ H fun x H1=>∃d kvs,x=.ref d∧H1 d=some (.dK kvs)∧∀o,R (Itv d o kvs) (upd H1 d (.frz o (.dK kvs)))
theorem Zma{X:Cx}{tg o:Expr}{to:TE}{apos cpos:Pos}(ho:PE X o to)(hbase:attributeBase o "values" X.env (eval o X.env)=eval o X.env:=by rfl)(hline:(apos.endLine == cpos.line)=true:=by rfl) :
  PI X tg (.Call (.Attribute o "values" apos) [] [] cpos) (ZoC to):=by
 intro pins s σ H R I h
 refine wpAny_Call_method0_late hbase hline (thn (ho pins s σ H _ I h) fun v s1 ⟨x,H1,I1,r1,q1⟩=>?_)
 obtain⟨d,kvs,e,hd,q⟩:=q1
 subst e
 cases r1
 obtain⟨z,lo,vs,rel,ob,es,ep,h1,h2,h3,h4⟩:=(show Z1 X.prog X.w H1 s1.heap d (.dK kvs) from I1.hok d _ hd)
 have hlen:kvs.length=vs.length:=rel.length
 have I2:=I1.freeze hd True.intro h1
 have dd:s1.heap.DictOf (Zx X.prog X.w) d vs:=⟨ob,es,ep,h1,h2,h3,h4⟩
 refine⟨"dict", "dict.values",Qau,PySem.F.slot_dict_values,PySem.F.type_dict_values,dd.typeIs,fun a e=>?_,?_⟩
 ·cases e;exact⟨ob,h1,h2.2.1⟩
 refine Calls.callWith_builtin rfl (PySem.evalArgs_none ?_)
 refine call_meetsIn PySem.F.slot_dict_values dd.typeIs PySem.F.entry_dict_values (PySem.F.args_dict_values_1 _) (meets_dict_values (Zx X.prog X.w) d lo) ⟨⟨vs,dd⟩,?_⟩
 have hv:(s1.heap.push { cls:=.type "dict_values",data:=.fields #[.ref d] }).IsValuesView s1.heap.objs.size d:=⟨_,Qn _ rfl,rfl,rfl⟩
 have da:(s1.heap.push { cls:=.type "dict_values",data:=.fields #[.ref d] }).DictAt (Zx X.prog X.w) d vs ep:=⟨ob,es,Qc _ h1,h2,h3,h4⟩
 refine wpAny_pyIter_values (s:={ s1 with heap:=s1.heap.push { cls:=.type "dict_values",data:=.fields #[.ref d] } }) hv da ?_
 rw[← hlen]
 have I3:Inv X pins σ (upd H1 d (.frz ob (.dK kvs))) { s1 with heap:=s1.heap.push { cls:=.type "dict_values",data:=.fields #[.ref d] } }:=I2.kept (t':=s1.toks) fun b o e=>Qc _ e
 refine⟨_,[_],_,Itv d ob kvs,upd H1 d (.frz ob (.dK kvs)),rfl,I3.kept (t':=s1.toks) fun b o e=>Qc _ e,Zjj h3,⟨_,Qn _ rfl,rfl,rfl⟩,fun b hb=>?_,q ob⟩
 have e:=Ql.mp hb
 rw[e]
 exact I3.fpOk (Qd _) (I3.hok.fresh (Qd _))
def Iti(d:Addr)(o:Obj)(kvs:List (Key×V)):It :=
 ⟨fun i H=>H d=some (.frz o (.dK kvs))∧i<kvs.length,
  fun i H v H'=>∃p k x,H p=none∧v=.ref p∧kvs[i]? = some (k,x)∧H'=upd H p (.tup [kV k,x]),
  fun i H=>H d=some (.frz o (.dK kvs))∧kvs.length≤i⟩
theorem ZhH{P:Program}{w:World}{K:PySem.W.Frag}{elts:List Expr}{x1:Nat}{tpos:Pos}{d it:Addr}{o:Obj}{kvs:List (Key×V)}{es:Array DictEntry}{ep:Nat}(hd:o.data=.dict es ep) :
  ZhS P w K (.Tuple elts x1 tpos) (Iti d o kvs) [it] it (fun i h=>∃ok ov,IsItemIter h it d i kvs.length ep ok ov) where
 mem:=by simp
 obj:=fun i h st b hb=>by
  have e:b=it:=by simpa using hb
  subst e
  obtain⟨ok,ov,he⟩:=st
  exact⟨_,he,fun v z=>by cases z⟩
 keep:=fun i h h' st k=>by
  obtain⟨ok,ov,he⟩:=st
  exact⟨ok,ov,k it (by simp) _ he⟩
 item:=by
  intro X hP hw hK hc i pins s σ H E I hf st hg
  subst hP hw hK
  obtain⟨ok,ov,he⟩:=st
  obtain⟨hfz,hi⟩:=hg
  obtain⟨vs,rel,da⟩:=I.dictF hfz hd
  have hl:kvs.length=vs.length:=rel.length
  obtain⟨u,hu,ru⟩:=Zkx rel i kvs[i].1 kvs[i].2 (Qb hi)
  refine wpAny_pyNext_items_item (by rw[← hl];exact he) da hu fun key h' hkey a1 a2 a3 a4=>?_
  rw[← hl]at a1
  have lt:∀ {b:Addr} {o:Obj},s.heap.get? b=some o→s.heap.objs.size≠b:=fun q=>QU (Qk q)
  have hes:s.heap.objs.size≠it:=lt he
  refine⟨_,rfl,wpAny_letOwnedTupleGo_items a1 fun h'' he'' hs''=>?_⟩
  have hs':Heap.SameBut it h' h'':=hs''
  have I2:Inv X pins σ (upd H s.heap.objs.size (.tup [kV kvs[i].1,kvs[i].2])) { s with heap:=h'',toks:=s.toks }:=by
   refine I.zipped (fp:=[it]) (u:=key) (v:=u) hf (ZiO hkey) ru (hs'.extBut _ _ hes a2) (fun b hb=>?_) fun c o hc q=>?_
   ·have e:=Ql.mp hb
    subst e
    exact⟨_,he''⟩
   ·have hc':c≠it:=fun z=>hc (by rw[z];simp)
    exact hs'.extBut _ _ hc' (a4 c o hc' q)
  refine⟨.ref s.heap.objs.size,_,I2,rfl,⟨s.heap.objs.size,kvs[i].1,kvs[i].2,I.fresh,rfl,Qb hi,rfl⟩,⟨_,_,he''⟩,fun b hb=>?_⟩
  have e:=Ql.mp hb
  subst e
  rw[Zc hes.symm]
  exact(hf _ hb).1
 done:=by
  intro X hP hw hK hc i pins s σ H E I hf st hg
  subst hP hw hK
  obtain⟨ok,ov,he⟩:=st
  obtain⟨f0,f1,f2,f3,f4,f5⟩:=hf it (by simp)
  obtain⟨hfz,hi⟩:=hg
  obtain⟨vs,rel,da⟩:=I.dictF hfz hd
  have hl:kvs.length=vs.length:=rel.length
  exact wpAny_pyNext_items_end (I.ok.hd hc) (by rw[← hl];exact he) da (QJ (by omega)) fun h' eb=>⟨rfl,I.turned (t':=s.toks) (fun b o hb e=>eb b o hb e) f0 f1 f3 f4 f5⟩
 self:=fun _ _ _ _ _ st h=>by obtain⟨ok,ov,he⟩:=st;exact PySem.W.kcp_self he h
def Zm7(tl:TE):TI:=fun σ H R=>tl σ H fun x H1=>∃d kvs,x=.ref d∧H1 d=some (.dK kvs)∧∀o,R (Iti d o kvs) (upd H1 d (.frz o (.dK kvs)))
theorem Zkj{X:Cx}{elts:List Expr}{x1:Nat}{tpos:Pos}{o:Expr}{to:TE}{apos cpos:Pos}(ho:PE X o to)(hbase:attributeBase o "items" X.env (eval o X.env)=eval o X.env:=by rfl)(hline:(apos.endLine == cpos.line)=true:=by rfl) :
  PI X (.Tuple elts x1 tpos) (.Call (.Attribute o "items" apos) [] [] cpos) (Zm7 to):=by
 intro pins s σ H R I h
 refine wpAny_Call_method0_late hbase hline (thn (ho pins s σ H _ I h) fun v s1 ⟨x,H1,I1,r1,q1⟩=>?_)
 obtain⟨d,kvs,e,hd,q⟩:=q1
 subst e
 cases r1
 obtain⟨z,lo,vs,rel,ob,es,ep,h1,h2,h3,h4⟩:=(show Z1 X.prog X.w H1 s1.heap d (.dK kvs) from I1.hok d _ hd)
 have hlen:kvs.length=vs.length:=rel.length
 have I2:=I1.freeze hd True.intro h1
 have dd:s1.heap.DictOf (Zx X.prog X.w) d vs:=⟨ob,es,ep,h1,h2,h3,h4⟩
 refine⟨"dict", "dict.items",Qau,PySem.F.slot_dict_items,PySem.F.type_dict_items,dd.typeIs,fun a e=>?_,?_⟩
 ·cases e;exact⟨ob,h1,h2.2.1⟩
 refine Calls.callWith_builtin rfl (PySem.evalArgs_none ?_)
 refine call_meetsIn PySem.F.slot_dict_items dd.typeIs PySem.F.entry_dict_items (PySem.F.args_dict_items_1 _) (meets_dict_items (Zx X.prog X.w) d lo) ⟨⟨vs,dd⟩,?_⟩
 have hv:(s1.heap.push { cls:=.type "dict_items",data:=.fields #[.ref d] }).IsItemsView s1.heap.objs.size d:=⟨_,Qn _ rfl,rfl,rfl⟩
 have da:(s1.heap.push { cls:=.type "dict_items",data:=.fields #[.ref d] }).DictAt (Zx X.prog X.w) d vs ep:=⟨ob,es,Qc _ h1,h2,h3,h4⟩
 refine wpAny_pyIter_items (s:={ s1 with heap:=s1.heap.push { cls:=.type "dict_items",data:=.fields #[.ref d] } }) hv da ?_
 rw[← hlen]
 have I3:Inv X pins σ (upd H1 d (.frz ob (.dK kvs))) { s1 with heap:=s1.heap.push { cls:=.type "dict_items",data:=.fields #[.ref d] } }:=I2.kept (t':=s1.toks) fun b o e=>Qc _ e
 refine⟨_,[_],_,Iti d ob kvs,upd H1 d (.frz ob (.dK kvs)),rfl,I3.kept (t':=s1.toks) fun b o e=>Qc _ e,ZhH h3,⟨_,_,Qn _ rfl⟩,fun b hb=>?_,q ob⟩
 have e:=Ql.mp hb
 rw[e]
 exact I3.fpOk (Qd _) (I3.hok.fresh (Qd _))
theorem Zmt{X:Cx}{pins:List (Addr×Obj)}{s:Shared}{σ:St}{H:Hp}{d:Addr}{kvs:List (Key×V)}{k:Key}{v:V}{ky u:Value}{Q:Hp→Prop}(I:Inv X pins σ H s)(hH:H d=some (.dK kvs))(hz:kvs.length<sizeLine)(rk:ZA (kV k) ky)(rv:ZA v u)
  (q:Q (upd H d (.dK (ZbD kvs k v)))):wpAny (model X.prog X.w) X.A (dictSet d ky u) (fun _ s'=>∃H',Inv X pins σ H' s'∧Q H') X.xe s:=by
 obtain⟨_,hd,vs,rel,dd⟩:=ZmP I.hok hH
 refine wpAny_dictSet_pairs (knd:=Zx X.prog X.w) (k:=k) (Zhg rk) dd (fun h' dd' hs=>?_) (by rw[← rel.length];omega)
 refine⟨_,?_,q⟩
 obtain⟨o,ho,_⟩:=Heap.dictOf_iff.mp dd'
 exact ZgB I (by rw[hH];exact True.intro) hs ⟨o,ho⟩ (ZkT (QG (Zc0 kvs k v) (by omega)) hd (rel.put k rv) dd')
def Ziu(J:It)(D:Addr)(k:Nat)(σ:St)(H1:Hp)(g:TG)(tc:TT)(tk te:TE)(Q:VK):Prop :=
 ∃W:Nat→Nat→List (Key×V)→St→Hp→Prop,(∃m,W 0 m [] (σ++List.replicate k none) (upd H1 D (.dK []))) ∧
  ∀i m ys σ2 H2,W i m ys σ2 H2→(J.stop i H2∧Q (.ref D) H2) ∨
   (J.go i H2∧∃N:List (Key×V)→St→Hp→Prop,(∀ys' σ' H',N ys' σ' H'→∃m',m'<m∧W (i+1) m' ys' σ' H')∧∀x H3,J.yld i H2 x H3→g x σ2 H3 fun σ4 H4=>tc σ4 H4 fun b H5 =>
    if b=true then tk σ4 H5 fun kv H6=>te σ4 H6 fun y H7=>∃k:Key,kv=kV k∧H7 D=some (.dK ys)∧ys.length<sizeLine∧N (ZbD ys k y) σ4 (upd H7 D (.dK (ZbD ys k y))) else N ys σ4 H5)
def ZkC(n:Nat)(wi:TI)(g:TG)(tc:TT)(tk te:TE):TE:=fun σ H Q=>wi σ H fun J H1=>∀D,H1 D=none→Ziu J D n σ H1 g tc tk te Q
section
variable {X:Cx} {N N':List Str} {o c:Scope}
theorem Zjr{kx vx tg iter:Expr}{ifs:List Expr}{pos pos':Pos}{wi:TI}{g:TG}{tc:TT}{tk te:TE}{use:Option (Value→Sem Unit)}{QQ:Value→Shared→Prop}(S:Z7 N N' o c)(hN:X.N=N)(ho:X.env.scope=o)(hc:X.calm=true)
  (hi:PI X tg iter wi) (hg:∀C s H fp,PG (Z9 X c N' C s H fp) tg g) (ht:∀C s H fp,PTs (Z9 X c N' C s H fp) ifs tc) (hk:∀C s H fp,PE (Z9 X c N' C s H fp) kx tk) (he:∀C s H fp,PE (Z9 X c N' C s H fp) vx te)
  (hs:∀x,foldedSetIterable iter X.env x=pure x) {pins:List (Addr×Obj)} {s:Shared} {σ:St} {H:Hp} {Q:VK} (I:Inv X pins σ H s) (h:ZkC (N'.length-N.length) wi g tc tk te σ H Q)
  (post:∀ (D C:Addr) (s5:Shared) (H5:Hp) (m:Str→Option Value),Inv X pins σ H5 s5→H5 C=none→s5.heap.Ns C m→C≠X.env.locals→X.s₀.heap.objs.size≤C→(∀x a,X.env.cells.lookup x=some a→a≠C)→(∀p∈X.pn++pins,p.1≠C) →
   Q (.ref D) H5→compPost (model X.prog X.w) X.A X.xe use QQ (.ref D) C (.ok .next) s5) :
  wpAny (model X.prog X.w) X.A (comprehension (.DictComp kx vx [⟨tg,iter,ifs,0⟩] c pos) c X.env pos' newDict false (eval iter X.env) use) QQ X.xe s:=by
 have hclos:closureFor c X.env=pure (Zal X.env.cells c.names []):=Zdk fun y hy hf=>by
  refine I.ok.has y.1 ?_
  show X.env.scope.names.lookup y.1=_∨X.env.scope.names.lookup y.1=_
  rw[ho];exact(S.free y hy hf).2
 refine wpAny_comprehension_free (use:=use) rfl hs hclos S.kind S.loc (thn (hi pins s σ H _ I h) fun v s1 h1=>thn h1 fun itv s2 h2=>?_)
 obtain⟨it,fp,tn,J,H2,e,I2,T,st2,f2,hR⟩:=h2
 subst e
 have hD:H2 s2.heap.objs.size=none:=I2.fresh
 have I3:Inv X pins σ (upd H2 s2.heap.objs.size (.dK [])) { s2 with heap:=s2.heap.push { cls:=.type "dict",data:=.dict #[] } } :=
  I2.laid (t':=s2.toks) (fun _ _ q=>Qc _ q) (Qd _) (ZgM _ (Nat.lt_trans (by decide) (show mainGlobals<s2.heap.objs.size from(I2.mod.glob.keeps I2.bk).lt)))
 have fpl:∀b∈fp,b<s2.heap.objs.size:=fun b hb=>by
  obtain⟨ob,e,_⟩:=T.obj 0 _ st2 b hb
  exact Qk e
 refine wpAny_newObj_type (wpAny_newFunctionEnv S.nocell (by intro y hy;simp at hy) (fun h₁ hns₁ hsb₁=>?_) S.kind)
 have e3:∃s3:Shared,s3={ s2 with heap:=s2.heap.push { cls:=.type "dict",data:=.dict #[] } }:=⟨_,rfl⟩
 obtain⟨s3,hs3⟩:=e3
 have e3:s3.heap=s2.heap.push { cls:=.type "dict",data:=.dict #[] }:=by rw[hs3]
 have sz3:s3.heap.objs.size=s2.heap.objs.size+1:=by rw[e3,Q0]
 have fpl3:∀b∈fp,b<s3.heap.objs.size:=fun b hb=>Qt (fpl b hb) (by rw[sz3];exact QaF _)
 have f3:∀b∈fp,ZdN X pins (upd H2 s2.heap.objs.size (.dK [])) b:=fun b hb=>⟨by rw[Zc (Qu (fpl b hb))];exact(f2 b hb).1,(f2 b hb).2⟩
 have st3:tn 0 s3.heap:=T.keep 0 _ _ st2 fun b _ ob e=>by rw[e3];exact Qc _ e
 rw[← hs3]at I3
 show codeAny (model X.prog X.w) X.A (.compStart _ 0 (.ref it) (.ref s2.heap.objs.size) (compEnvC c (Zal X.env.cells c.names []) (s2.heap.push { cls:=.type "dict",data:=.dict #[] }).objs.size X.env))
  (compPost (model X.prog X.w) X.A X.xe use QQ (.ref s2.heap.objs.size) (s2.heap.push { cls:=.type "dict",data:=.dict #[] }).objs.size)
  { s2 with heap:=h₁,toks:=s2.toks+([]:List (Str×Value)).length }
 have hns:h₁.Ns s3.heap.objs.size (fun x=>([]:List (Str×Value)).reverse.lookup x):=by rw[e3];exact hns₁
 have hk1:∀b ob,s3.heap.get? b=some ob→h₁.get? b=some ob:=fun b ob e=>by
  rw[e3]at e
  exact hsb₁.extBut b ob (Qu (Qk e)) (Qc _ e)
 rw[← e3]
 have es4:({ s2 with heap:=h₁,toks:=s2.toks+([]:List (Str×Value)).length }:Shared)={ s3 with heap:=h₁,toks:=s2.toks }:=by rw[hs3];rfl
 rw[es4]
 obtain⟨W,⟨m0,w0⟩,turn⟩:=hR s2.heap.objs.size hD
 have I4:=ZgW (tk:=s2.toks) S hN ho I3 f3 fpl3 hns hk1
 have st4:tn 0 h₁:=T.keep 0 _ _ st3 fun b _ ob e=>hk1 b ob e
 generalize hX:Z9 X c N' s3.heap.objs.size s3 (upd H2 s2.heap.objs.size (.dK [])) fp=Y at I4
 have Yp:Y.prog=X.prog:=by rw[← hX];rfl
 have Yw:Y.w=X.w:=by rw[← hX];rfl
 have YK:Y.K=X.K:=by rw[← hX];rfl
 have Yc:Y.calm=true:=by rw[← hX];exact hc
 have YA:Y.A=X.A:=by rw[← hX];rfl
 have Yenv:Y.env=compEnvC c (Zal X.env.cells c.names []) s3.heap.objs.size X.env:=by rw[← hX];rfl
 have Yl:Y.env.locals=s3.heap.objs.size:=by rw[Yenv];rfl
 have Yxe:Y.xe=fun _ _=>False:=by rw[← hX];rfl
 have hg':=hg s3.heap.objs.size s3 (upd H2 s2.heap.objs.size (.dK [])) fp
 have ht':=ht s3.heap.objs.size s3 (upd H2 s2.heap.objs.size (.dK [])) fp
 have hk':=hk s3.heap.objs.size s3 (upd H2 s2.heap.objs.size (.dK [])) fp
 have he':=he s3.heap.objs.size s3 (upd H2 s2.heap.objs.size (.dK [])) fp
 rw[hX]at hg' ht' hk' he'
 have stat:∀ {H':Hp},(∀b∈fp,H' b=none)→∀b∈fp,ZdN Y [] H' b:=fun {H'} hn b hb=>by
  obtain⟨_,q1,q2,q3,q4,_⟩:=f3 b hb
  have z1:=I4.ok.exf b (by rw[← hX];exact hb)
  refine⟨hn b hb,z1.1,I4.ok.exfs b (by rw[← hX];exact hb),.inl (by rw[← hX];exact hb),z1.2,fun p hp=>?_⟩
  have hp':p∈([]:List (Addr×Obj)):=by
   have:Y.pn=[]:=by rw[← hX];rfl
   rw[this]at hp;exact hp
  cases hp'
 have fin:∀ (s5:Shared) (σ5:St) (H5:Hp),Inv Y [] σ5 H5 s5→Q (.ref s2.heap.objs.size) H5→compPost (model X.prog X.w) X.A X.xe use QQ (.ref s2.heap.objs.size) s3.heap.objs.size (.ok .next) s5:=fun s5 σ5 H5 I5 q=>by
  obtain⟨m,hn,_⟩:=id I5.loc
  rw[Yl]at hn
  have hCn:H5 s3.heap.objs.size=none:=by have:=I5.free;rw[Yl]at this;exact this
  have un:Un (frs X.stack) fp (upd H2 s2.heap.objs.size (.dK [])) H5 s3.heap s5.heap:=by
   have:=I5.base
   rw[← hX]at this
   exact this
  have os5:s5.os=s3.os:=by have:=I5.os;rw[← hX]at this;exact this
  have hok5:HOk X.prog X.w H5 s5.heap:=by
   have:=I5.hok
   rw[Yp,Yw]at this
   exact this
  refine post _ _ s5 H5 m (I3.call' (s':=s5) (ch:=fp) os5 un hok5 I5.bare fun b hb=>?_) hCn hn (QU I3.lt) I3.sz (fun x a e=>?_) (fun p hp=>?_) q
  ·obtain⟨_,q1,_,q3,q4,q5⟩:=f3 b hb
   exact⟨q3,q1,q4,q5⟩
  ·obtain⟨v,ob,e',_⟩:=I3.cell x a e
   exact Qu (Qk e')
  ·exact Qu (Qk (I3.pin p hp).1)
 have loop:codeAny (model X.prog X.w) X.A (.compLoop (.DictComp kx vx [⟨tg,iter,ifs,0⟩] c pos) 0 (.ref it) (.ref s2.heap.objs.size) (compEnvC c (Zal X.env.cells c.names []) s3.heap.objs.size X.env))
   (compPost (model X.prog X.w) X.A X.xe use QQ (.ref s2.heap.objs.size) s3.heap.objs.size) { s3 with heap:=h₁,toks:=s2.toks }:=by
  rw[← Yenv,← YA]
  refine Zfl (E:=fun _ _=>False) (fun n s'=>∃i ys σ' H',Inv Y [] σ' H' s'∧tn i s'.heap∧(∀b∈fp,H' b=none)∧W i n ys σ' H') (fun _ _ z=>z) ?_ m0
   ⟨0,[],_,_,I4,st4,fun b hb=>(f3 b hb).1,?_⟩
  ·rintro n s5 ⟨i,ys,σ5,H5,I5,st5,fr5,w5⟩
   rcases turn i n ys σ5 H5 w5 with⟨stop,qn⟩|⟨go,Nn,hNn,step⟩
   ·refine thn (T.done Y Yp Yw YK Yc i [] s5 σ5 H5 _ I5 (stat fr5) st5 stop) fun r s6 ⟨hr,I6⟩=>?_
    subst hr
    have fq:=fin s6 σ5 H5 I6 qn
    rw[← YA]at fq
    exact fq
   ·refine thn (T.item Y Yp Yw YK Yc i [] s5 σ5 H5 _ I5 (stat fr5) st5 go) fun r s6 ⟨u,hr,h6⟩=>?_
    subst hr
    refine thn h6 fun _ s7 ⟨x,H7,I7,r7,y7,st7,fr7⟩=>?_
    have I7':=I7.pinned (stat fr7) (T.obj _ _ st7)
    have back:∀ {σ9:St} {H9:Hp} {s9:Shared},Inv Y ([]++Zej fp s7.heap) σ9 H9 s9→Inv Y [] σ9 H9 s9∧tn (i+1) s9.heap∧∀b∈fp,H9 b=none:=fun {σ9 H9 s9} I9=>by
     refine⟨I9.unpinned,T.keep _ _ _ st7 fun b hb ob e=>(I9.pin (b,ob) (Qo _ (Qo _ (Zbc hb e)))).1,fun b hb=>?_⟩
     obtain⟨ob,e,d⟩:=T.obj _ _ st7 b hb
     exact(I9.pin (b,ob) (Qo _ (Qo _ (Zbc hb e)))).2.1
    have P1:=hg' _ s7 σ5 H7 x u _ I7' r7 (step x H7 y7)
    rw[Yp,Yw,Yxe]at P1
    refine thn P1 fun _ s8 ⟨σ8,H8,I8,q8⟩=>?_
    have P2:=ht' _ s8 σ8 H8 _ I8 q8
    rw[Yp,Yw,Yxe]at P2
    refine thn P2 fun ok s9 ⟨H9,I9,q9⟩=>?_
    cases ok with
    | false =>
     rw[if_neg Qi]at q9
     rw[if_neg Qi]
     obtain⟨b1,b2,b3⟩:=back I9
     obtain⟨m',hm',w9⟩:=hNn _ _ _ q9
     exact⟨m',hm',i+1,ys,σ8,H9,b1,b2,b3,w9⟩
    | true =>
     rw[if_pos rfl]at q9
     rw[if_pos rfl]
     have P3:=hk' _ s9 σ8 H9 _ I9 q9
     rw[Yp,Yw,Yxe]at P3
     refine thn P3 fun kv s10 ⟨vk,H10,I10,r10,q10⟩=>?_
     have P4:=he' _ s10 σ8 H10 _ I10 q10
     rw[Yp,Yw,Yxe]at P4
     refine thn P4 fun y s11 ⟨vy,H11,I11,r11,kk,eb,hDl,hsz,q11⟩=>?_
     subst eb
     have P5:=Zmt (X:=Y) I11 hDl hsz r10 r11 q11
     rw[Yp,Yw,Yxe]at P5
     refine thn P5 fun _ s12 ⟨H12,I12,q12⟩=>?_
     obtain⟨b1,b2,b3⟩:=back I12
     obtain⟨m',hm',w12⟩:=hNn _ _ _ q12
     exact⟨m',hm',i+1,ZbD ys kk vy,σ8,H12,b1,b2,b3,w12⟩
  ·exact w0
 have lp:=T.self X.A 0 { s3 with heap:=h₁,toks:=s2.toks } (fun it' s'=>codeAny (model X.prog X.w) X.A (.compLoop (.DictComp kx vx [⟨tg,iter,ifs,0⟩] c pos) 0 it' (.ref s2.heap.objs.size) (compEnvC c (Zal X.env.cells c.names []) s3.heap.objs.size X.env))
   (compPost (model X.prog X.w) X.A X.xe use QQ (.ref s2.heap.objs.size) s3.heap.objs.size) s') (fun _ _=>False) st4 loop
 exact codeAny_compStart_dict loop (wpAny_mono lp (fun _ _ z=>z) fun _ _ z=>z.elim)
theorem Zkq{kx vx tg iter:Expr}{ifs:List Expr}{pos:Pos}{wi:TI}{g:TG}{tc:TT}{tk te:TE}(S:Z7 N N' o c)(hN:X.N=N)(ho:X.env.scope=o)(hc:X.calm=true)
  (hi:PI X tg iter wi) (hg:∀C s H fp,PG (Z9 X c N' C s H fp) tg g) (ht:∀C s H fp,PTs (Z9 X c N' C s H fp) ifs tc) (hk:∀C s H fp,PE (Z9 X c N' C s H fp) kx tk) (he:∀C s H fp,PE (Z9 X c N' C s H fp) vx te)
  (hs:∀x,foldedSetIterable iter X.env x=pure x:=by intro _;rfl) :
  PE X (.DictComp kx vx [⟨tg,iter,ifs,0⟩] c pos) (ZkC (N'.length-N.length) wi g tc tk te):=by
 intro pins s σ H Q I h
 show wpAny _ _ (comprehension (.DictComp kx vx [⟨tg,iter,ifs,0⟩] c pos) c X.env _ newDict false (eval iter X.env)) _ _ _
 refine Zjr (use:=none) S hN ho hc hi hg ht hk he hs I h fun D C s5 H5 m I5 hCn hn n1 n2 n3 n4 q=>⟨m,hn,fun h' hsb=>?_⟩
 exact⟨.ref D,H5,I5.let hCn n1 n2 n3 n4 hsb,rfl,q⟩
end
section
variable {X:Cx}
def rIxK:R2:=fun x y H Q=>∃d kvs k v,x=.ref d∧y=kV k∧H d=some (.dK kvs)∧Za1 kvs k=some v∧Q v H
end
section
variable {prog:Program} {w:World} {A:Around} {R:Result→Shared→Prop} {I:Addr} {fp wr:List Addr} {G:Array GenState→Array GenState→Prop} {n:Nat} {P:Nat→Value→Prop} {St:Nat→Shared→Prop} {K:Type} [DecidableEq K] {knd:KeyKind prog w K}
end
section
variable {prog:Program} {w:World} {A:Around} {E:Value→Shared→Prop} {s:Shared} {K:Type} [DecidableEq K] {knd:KeyKind prog w K}
end
def rDictP(K:PySem.W.Frag):List V→Hp→VK→Prop:=fun xs H Q=>∃ (a:Addr) (ts:List (Addr×Key×V)),xs=[.ref a]∧SqL K H a (ts.map fun t=>V.ref t.1)∧(∀t∈ts,H t.1=some (.tup [kV t.2.1,t.2.2]))∧ts.length≤1000 ∧
 ∀D,H D=none→Q (.ref D) (upd H D (.dK (ZhV [] (ts.map (·.2)))))
def rInG:R2:=fun y x H Q=>∃a o,x=.ref a∧Zbq H a y o∧Q (.bl o.isSome) H
def rNotInG:R2:=fun y x H Q=>∃a o,x=.ref a∧Zbq H a y o∧Q (.bl (!o.isSome)) H
def ZpD:R2:=fun x y H Q=>∃a v,x=.ref a∧Zbq H a y (some v)∧Q v H
section
variable {X:Cx} {k:Nat}
def Zoj:Zju:=fun o i v H Q=>∃a H',o=.ref a∧Zea H a i v H'∧Q H'
theorem Zj7(hr:ZaI k X.A):Znh X Zoj:=by
 intro pins s σ H o i v ov iv u Q I ro ri rv h
 obtain⟨a,H',rfl,g,q⟩:=h
 cases ro
 exact Zjt (ZkU hr) I g ri rv fun s4 I4=>⟨H',I4,q⟩
theorem ZhX{prog:Program}{w:World}{A:Around}{E:Value→Shared→Prop}{s:Shared}{value slice:Expr}{o i:Value}{T id:String}{Q:Value→Shared→Prop}(hT:s.TypeIs o T)
  (hl:typeLookup (.type T) "__getitem__" = pure (some (.builtin id))) (hs:subscripted slice false o i=operate [o,i] (getItem o i)) (h:wpAny (model prog w) A (getItem o i) Q E s) :
  wpAny (model prog w) A (subscriptTail value slice o i) Q E s:=by
 unfold subscriptTail
 refine wpAny_bind ?_
 rw[getitemInPython_of_ne hT.not_modules]
 refine wpAny_bind (wpAny_specialOf hT hl ?_)
 have fin:wpAny (model prog w) A (subscripted slice false o i) (fun r s₃=>wpAny (model prog w) A (letTemporaryGo value o r >>= fun _=>pure r) Q E s₃) E s:=by
  rw[hs]
  exact wpAny_operating (wpAny_mono h (fun r s₃ h₃=>wpAny_bind (wpAny_letTemporaryGo (wpAny_pure h₃))) fun _ _ x=>x)
 first
  | exact wpAny_pure (wpAny_bind fin)
  | exact wpAny_bind (wpAny_pure (wpAny_bind fin))
  | exact wpAny_bind fin
theorem ixG(hr:ZaI k X.A):IxR X ZpD:=by
 intro value slice pins s σ H x y v u Q I rx ry h hs
 obtain⟨a,z,rfl,g,q⟩:=h
 cases rx
 exact ZhX (Zhn I g) PySem.F.slot_dict_getitem.lookup hs (Zjo (ZkU hr) I g ry fun w' s' I' rw'=>⟨z,H,I',rw',q⟩)
def rEqE(neg:Bool):R2:=fun x y H Q=>∃a b kvs,x=.ref a∧y=.ref b∧H a=some (.dK kvs)∧H b=some (.dK [])∧Q (.bl (if neg then !kvs.isEmpty else kvs.isEmpty)) H
theorem Zo9:Zay X (.builtin "len") (fun xs H Q=>∃a kvs,xs=[V.ref a]∧H a=some (.dK kvs)∧Q (.int kvs.length) H):=Zjp
theorem Zow(hc:X.calm=true:=by rfl):Zay X (.type "list") Zly:=Zif hc
end
mutual
inductive DH (H:Hp):V→PyData→Prop where
 | non:DH H .non .none
 | bl (b:Bool):DH H (.bl b) (.bool b)
 | int (i:Int):DH H (.int i) (.int i)
 | str (s:Str):DH H (.str s) (.str s)
 | lst {a:Addr} {xs:List V} {ds:List PyData}:H a=some (.lst xs)→DHs H xs ds→DH H (.ref a) (.list ds)
 | tup {a:Addr} {xs:List V} {ds:List PyData}:H a=some (.tup xs)→DHs H xs ds→DH H (.ref a) (.tuple ds)
inductive DHs (H:Hp):List V→List PyData→Prop where
 | nil:DHs H [] []
 | cons {x:V} {d:PyData} {xs:List V} {ds:List PyData}:DH H x d→DHs H xs ds→DHs H (x::xs) (d::ds)
end
mutual
theorem DH.mono{H H':Hp}(s:Zu H H'):∀ {x:V} {d:PyData},DH H x d→DH H' x d
 | _,_,.non=>.non
 | _,_,.bl b=>.bl b
 | _,_,.int i=>.int i
 | _,_,.str z=>.str z
 | _,_,.lst h hs=>.lst (s _ _ h) (DHs.mono s hs)
 | _,_,.tup h hs=>.tup (s _ _ h) (DHs.mono s hs)
theorem DHs.mono{H H':Hp}(s:Zu H H'):∀ {xs:List V} {ds:List PyData},DHs H xs ds→DHs H' xs ds
 | _,_,.nil=>.nil
 | _,_,.cons h hs=>.cons (DH.mono s h) (DHs.mono s hs)
end
mutual
theorem DH.dv{K:PySem.W.Frag}{H:Hp}:∀ {x:V} {d:PyData},DH H x d→DV K H x d
 | _,_,.non=>.non
 | _,_,.bl b=>.bl b
 | _,_,.int i=>.int i
 | _,_,.str z=>.str z
 | _,_,.lst h hs=>.lst (SqL.of h) (DHs.dv hs)
 | _,_,.tup h hs=>.tup (SqT.of h) (DHs.dv hs)
theorem DHs.dv{K:PySem.W.Frag}{H:Hp}:∀ {xs:List V} {ds:List PyData},DHs H xs ds→DVs K H xs ds
 | _,_,.nil=>.nil
 | _,_,.cons h hs=>.cons (DH.dv h) (DHs.dv hs)
end
def tyD:PyData→String
 | .none => "NoneType"
 | .bool _ => "bool"
 | .int _ => "int"
 | .str _ => "str"
 | .tuple _ => "tuple"
 | _ => "list"
def isIntD:PyData→Bool
 | .int _=>true
 | _=>false
def isBoolD:PyData→Bool
 | .bool _=>true
 | _=>false
def isLstD:PyData→Bool
 | .list _=>true
 | _=>false
def isTupD:PyData→Bool
 | .tuple _=>true
 | _=>false
def isStrD:PyData→Bool
 | .str _=>true
 | _=>false
section
open PySem.W
end
theorem Zg5{kvs:List (Key×V)}{k:Key}{v:V}(h:Za1 kvs k=some v):(k,v)∈kvs:=by
 unfold Za1 at h
 obtain⟨p,hp,rfl⟩:=Qax.mp h
 have h1:=List.find?_some hp
 have h2:=List.mem_of_find?_eq_some hp
 have:p.1=k:=by simpa using h1
 rw[← this];exact h2
theorem Zhq{kvs:List (Key×V)}(hn:(kvs.map (·.1)).Nodup){k:Key}{v:V}(h:(k,v)∈kvs):Za1 kvs k=some v:=by
 induction kvs with
 | nil=>cases h
 | cons p r ih =>
  obtain⟨n1,n2⟩:=QN.mp (by simpa using hn:(p.1::r.map (·.1)).Nodup)
  rcases QA.mp h with rfl|h
  ·exact ZcR rfl
  ·rw[ZcJ fun e=>n1 (e ▸ Qj (f:=(·.1)) h)]
   exact ih n2 h
def tOrK(K:PySem.W.Frag)(ta tb:TE):TE:=fun σ H Q=>ta σ H fun x H1=>∃k,ZpA K x H1 k∧if k=true then Q x H1 else tb σ H1 Q
theorem Zmz{d:Addr}{o:Obj}{kvs:List (Key×V)}{k:Nat}{D:Addr}{σ:L2.St}{H1:Hp}{g:TG}{tc:TT}{te:TE}{Q:VK}(Pv:Nat→List V→L2.St→Hp→Prop)(h0:Pv 0 [] (σ++List.replicate k none) (upd H1 D (.lst [])))
  (hl:∀i ys σ H,Pv i ys σ H→H d=some (.frz o (.dK kvs)))
  (hs:∀i k x ys σ H,kvs[i]? = some (k,x)→Pv i ys σ H→g x σ H fun σ4 H4=>tc σ4 H4 fun b H5=>if b=true then te σ4 H5 fun y H6=>H6 D=some (.lst ys)∧ys.length<sizeLine∧Pv (i+1) (ys++[y]) σ4 (upd H6 D (.lst (ys++[y]))) else Pv (i+1) ys σ4 H5)
  (hd:∀ys σ H,Pv kvs.length ys σ H→Q (.ref D) H):ZeL (Itv d o kvs) D k σ H1 g tc te Q:=by
 refine⟨fun i m ys σ H=>m=kvs.length-i∧i≤kvs.length∧Pv i ys σ H,⟨kvs.length,by simp,Qr _,h0⟩,?_⟩
 rintro i m ys σ H ⟨rfl,hi,p⟩
 have q1:=hl i ys σ H p
 by_cases hlt:i<kvs.length
 ·refine .inr ⟨⟨q1,hlt⟩,Pv (i+1),fun ys' σ' H' p'=>⟨kvs.length-(i+1),by omega,rfl,hlt,p'⟩,fun x H' y=>?_⟩
  obtain⟨rfl,k',e⟩:=y
  exact hs i k' x ys σ _ e p
 ·have e:i=kvs.length:=by omega
  exact .inl ⟨⟨q1,by omega⟩,hd ys σ H (e ▸ p)⟩
def off(p:Addr)(H:Hp):Hp:=fun b=>if b=p then none else H b
section
variable {prog:Program} {w:World} {A:Around} {R:Result→Shared→Prop} {I:Addr} {fp wr:List Addr} {G:Array GenState→Array GenState→Prop} {n:Nat} {P:Nat→Value→Prop} {St:Nat→Shared→Prop} {K:Type} [DecidableEq K] {knd:KeyKind prog w K}
end
def rDPop:V→List V→Hp→VK→Prop:=fun x vs H Q=>∃a kvs k v,x=.ref a∧vs=[kV k]∧H a=some (.dK kvs)∧Za1 kvs k=some v∧Q v (upd H a (.dK (Zir kvs k)))
def rDUpd(K:PySem.W.Frag):V→List V→Hp→VK→Prop:=fun x vs H Q=>∃ (D a:Addr) (kvs:List (Key×V)) (ts:List (Addr×Key×V)),x=.ref D∧vs=[.ref a]∧H D=some (.dK kvs)∧H a=some (.lst (ts.map fun t=>V.ref t.1))∧(∀t∈ts,H t.1=some (.tup [kV t.2.1,t.2.2]))∧ts.length≤1000∧kvs.length≤100000 ∧
 Q .non (upd H D (.dK (ZhV kvs (ts.map (·.2)))))
theorem ZlJ{X:Cx}{s:Stmt}:PS X s (fun _ _ _=>False):=fun pins s' σ H D I h=>h.elim
def pairsAt(ts:List (Addr×Key×V))(l:Addr)(H:Hp):Hp:=fun b=>if b=l then some (.lst (ts.map fun t=>V.ref t.1)) else
 match ts.find? fun t=>decide (t.1=b) with
 | some t=>some (.tup [kV t.2.1,t.2.2])
 | none=>H b
def tLstItems(to:TE):TE:=fun σ H Q=>to σ H fun x H1=>∃d kvs,x=.ref d∧H1 d=some (.dK kvs) ∧
 ∀ (l:Addr) (ts:List (Addr×Key×V)) (H2:Hp),H1 l=none→ts.map (·.2)=kvs→(∀t∈ts,H1 t.1=none∧H2 t.1=some (.tup [kV t.2.1,t.2.2]))→(∀b o,H1 b=some o→H2 b=some o)→H2 l=some (.lst (ts.map fun t=>V.ref t.1))→Q (.ref l) H2
theorem Znl{X:Cx}{k:Nat}{o e:Expr}{td ty:TE}{apos cpos:Pos}(hr:ZaI k X.A)(ho:PE X o td)(he:PE X e ty)(hb:attributeBase o "get" X.env (eval o X.env)=eval o X.env:=by rfl)
  (hl:(apos.endLine == cpos.line)=true:=by rfl) (ht:backTo cpos (starEach [e] X.env)=[(false,eval e X.env)]:=by rfl):PE X (.Call (.Attribute o "get" apos) [e] [] cpos) (Zk1 td ty):=by
 refine Zk6 (ZkU hr) ho he ⟨hb,?_,hl,ht⟩
 rw[ht];rfl
section
variable {prog:Program} {w:World} {A:Around} {E:Value→Shared→Prop} {s:Shared} {l:Addr} {xs:Array (Int×Tok)}
end
def rMinQ(K:PySem.W.Frag):List V→Hp→VK→Prop:=fun vs H Q=>∃ (p:Addr) (ns:List Int),vs=[.ref p]∧SqT K H p (ns.map V.int)∧0<ns.length∧∀M,M∈ns→(∀a∈ns,M≤a)→Q (.int M) H
section
variable {X:Cx}
end
section
variable {X:Cx}
end
def tThawS(t:TS):TS:=fun D σ H=>∃d u,H d=some u∧Mut (some u)∧t ⟨fun σ' H'=>∃o,H' d=some (.frz o u)∧D.nx σ' (upd H' d u),fun _ _=>False,fun _ _=>False,fun _ _=>False⟩ σ H
def tCut(t u:TS):TS:=fun D σ H=>∃M:St→Hp→Prop,t { D with nx:=M } σ H∧∀σ' H',M σ' H'→u D σ' H'
theorem Zmr{d:Addr}{o:Obj}{kvs:List (Key×V)}{k:Nat}{D:Addr}{σ:L2.St}{H1:Hp}{g:TG}{tc:TT}{tk te:TE}{Q:VK}(Pv:Nat→List (Key×V)→L2.St→Hp→Prop)(h0:Pv 0 [] (σ++List.replicate k none) (upd H1 D (.dK [])))
  (hl:∀i ys σ H,Pv i ys σ H→H d=some (.frz o (.dK kvs)))
  (hs:∀i k x ys σ H p,kvs[i]? = some (k,x)→Pv i ys σ H→H p=none→g (.ref p) σ (upd H p (.tup [kV k,x])) fun σ4 H4=>tc σ4 H4 fun b H5=>if b=true then tk σ4 H5 fun kv H6=>te σ4 H6 fun y H7=>∃k:Key,kv=kV k∧H7 D=some (.dK ys)∧ys.length<sizeLine∧Pv (i+1) (ZbD ys k y) σ4 (upd H7 D (.dK (ZbD ys k y))) else Pv (i+1) ys σ4 H5)
  (hd:∀ys σ H,Pv kvs.length ys σ H→Q (.ref D) H):Ziu (Iti d o kvs) D k σ H1 g tc tk te Q:=by
 refine⟨fun i m ys σ H=>m=kvs.length-i∧i≤kvs.length∧Pv i ys σ H,⟨kvs.length,by simp,Qr _,h0⟩,?_⟩
 rintro i m ys σ H ⟨rfl,hi,p⟩
 have q1:=hl i ys σ H p
 by_cases hlt:i<kvs.length
 ·refine .inr ⟨⟨q1,hlt⟩,Pv (i+1),fun ys' σ' H' p'=>⟨kvs.length-(i+1),by omega,rfl,hlt,p'⟩,fun x H' y=>?_⟩
  obtain⟨r,k',x',hr,rfl,e,rfl⟩:=y
  exact hs i k' x' ys σ H r e p hr
 ·have e:i=kvs.length:=by omega
  exact .inl ⟨⟨q1,by omega⟩,hd ys σ H (e ▸ p)⟩
section
variable {prog:Program} {w:World} {A:Around} {E:Value→Shared→Prop} {s:Shared} {K:Type} [DecidableEq K] {knd:KeyKind prog w K}
theorem Zgi{o:Addr}{Q:Value→Shared→Prop}(ht:s.TypeIs (.ref o) "dict")(hlt:o<s.heap.objs.size)
  (h:∀E':Value→Shared→Prop,wpAny (model prog w) A.in1.in1 (Builtin.Dict.mergeDict "dict.__init__" s.heap.objs.size o) (fun _ s'=>Q (.ref s.heap.objs.size) s') E' { s with heap:=s.heap.push { cls:=.type "dict",data:=.dict #[] } }) :
  wpAny (model prog w) A (call (.type "dict") [.ref o]) Q E s:=by
 refine callType_codes (Q₁:=fun obj s₁=>obj=.ref s.heap.objs.size∧s₁={ s with heap:=s.heap.push { cls:=.type "dict",data:=.dict #[] } }) F.kt_called_dict (F.kt_typeCall_dict_1 _) F.entry_dict_init (kt_code_dict_new _ ⟨rfl,rfl⟩) ?_
 rintro obj s₁ ⟨rfl,rfl⟩
 have hnew:(s.heap.push { cls:=.type "dict",data:=.dict #[] }).DictOf (intKind prog w) s.heap.objs.size []:=Heap.DictOf.new s.heap
 have ht':({ s with heap:=s.heap.push { cls:=.type "dict",data:=.dict #[] } }:Shared).TypeIs (.ref o) "dict":=by
  obtain⟨ob,h1,h2⟩:=ht
  exact⟨ob,Qc _ h1,h2⟩
 refine⟨hnew.typeIs,F.args_dict_init_2 _ _,?_⟩
 unfold Builtin.«dict.__init__»
 refine wpAny_bind ?_
 unfold Builtin.Dict.selfAndRest
 refine wpAny_bind (wpAny_notOrdered_dict hnew.typeIs ?_)
 show wpAny _ _ (pure (s.heap.objs.size,[Value.ref o])) _ _ _
 refine wpAny_pure ?_
 show wpAny _ _ (Builtin.Dict.updateFrom "dict.__init__" s.heap.objs.size (.ref o) [] .none) _ _ _
 unfold Builtin.Dict.updateFrom
 refine wpAny_bind (wpAny_typeOf (T := "dict") ht' ?_)
 rw[if_neg (by decide)]
 refine wpAny_bind ?_
 unfold Builtin.Dict.merge
 refine wpAny_bind ?_
 unfold Builtin.Dict.readDirectly
 refine wpAny_bind (wpAny_isInstance (b:=true) ht' rfl ?_)
 rw[if_neg (by decide)]
 refine wpAny_bind (wpAny_specialOf (r:=some (.builtin "dict.__iter__")) ht' rfl ?_)
 refine wpAny_pure ?_
 rw[if_pos (by decide)]
 refine wpAny_bind (wpAny_pure ?_)
 refine thn (h _) fun _ s' q=>?_
 refine wpAny_bind ?_
 unfold Builtin.Dict.addKeywords
 refine wpAny_bind ?_
 rw[List.forIn_nil]
 refine wpAny_pure (wpAny_pure ?_)
 exact wpAny_pure ⟨rfl,q⟩
end
def rDictC:List V→Hp→VK→Prop:=fun xs H Q=>∃ (a:Addr) (kvs:List (Key×V)),xs=[.ref a]∧H a=some (.dK kvs)∧∀D,H D=none→Q (.ref D) (upd H D (.dK kvs))
theorem ZeV{α β:Type}[DecidableEq β](f:α→β)(c:β):∀l:List α,(l.map f).Nodup→(l.filter fun x=>f x == c).length≤1
 | [],_=>Qr _
 | x::r,h=>by
  rw[Qg,QN]at h
  rw[List.filter_cons]
  split
  ·rename_i e
   have e':f x=c:=by simpa using e
   have:r.filter (fun x=>f x == c)=[]:=List.filter_eq_nil_iff.mpr fun y hy z=>h.1 (by rw[e',← (show f y=c by simpa using z)];exact Qj hy)
   rw[this];exact Qd _
  ·exact ZeV f c r h.2
section
variable {prog:Program} {w:World} {A:Around} {E:Value→Shared→Prop} {s:Shared} {K:Type} [DecidableEq K] {knd:HeapKind prog w K}
theorem Zgn{id:String}{o:Addr}{oo:Obj}{es:Array DictEntry}{ep:Nat}{xs:List (K×Addr×Value)}{Q:Array DictEntry→Shared→Prop}(h1:s.heap.get? o=some oo)(hdat:oo.data=.dict es ep)(hes:es.toList=xs.map (entryOfKey knd))(hh:(xs.map fun x=>knd.hash x.1).Nodup)(ht:∀x∈xs,s.TypeIs (.ref x.2.1) "tuple")(q:Q es s) :
  wpAny (model prog w) A (Builtin.Dict.entriesForEmpty id o) Q E s:=by
 unfold Builtin.Dict.entriesForEmpty
 refine wpAny_bind (wpAny_dictEntries h1 hdat ?_)
 refine wpAny_bind (wpAny_forIn_array' _ (fun rest _ s'=>s'=s∧∀e∈rest,e∈es.toList) _ ?_ ?_ es _ ⟨rfl,fun e he=>he⟩)
 ·rintro e rest b s' ⟨rfl,hm⟩
  have he:e∈xs.map (entryOfKey knd):=by rw[← hes];exact hm e (by simp)
  obtain⟨x,hx,rfl⟩:=QE.mp he
  refine wpAny_bind ?_
  show wpAny _ _ (do let r ← specialOf (.ref x.2.1) (Str.ofString "__eq__");pure (r == some (.builtin "object.__eq__"))) _ _ _
  refine wpAny_bind (wpAny_specialOf (T := "tuple") (r:=some (.builtin "tuple.__eq__")) (ht x hx) rfl ?_)
  refine wpAny_pure ?_
  rw[if_pos (by decide),if_neg]
  ·exact wpAny_pure ⟨rfl,fun e' he'=>hm e' (Qm _ he')⟩
  ·have hn:(es.toList.map fun e=>e.hash).Nodup:=by rw[hes,QF];exact hh
   have:=ZeV (fun e:DictEntry=>e.hash) (entryOfKey knd x).hash es.toList hn
   rw[← Q9,Array.toList_filter]
   omega
 ·rintro b s' ⟨rfl,_⟩
  exact wpAny_pure q
theorem ZhI{nm:String}{d o:Addr}{xs:List (K×Addr×Value)}{Q:Unit→Shared→Prop}(hne:d≠o)(hs:(o == sysModules)=false)(hd:s.heap.get? d=some { cls:=.type "dict",data:=.dict #[] })(ho:s.heap.DictOfH knd o xs)(hn:xs.length≤sizeLine)(hh:(xs.map fun x=>knd.hash x.1).Nodup)(ht:∀x∈xs,s.TypeIs (.ref x.2.1) "tuple")
  (h:∀h',h'.DictOfH knd d xs→Heap.SameBut d s.heap h'→Q () { s with heap:=h' }):wpAny (model prog w) A (Builtin.Dict.mergeDict nm d o) Q E s:=by
 obtain⟨oo,es,ep,h1,hx,hdat,hes,his,hnd⟩:=ho
 unfold Builtin.Dict.mergeDict
 rw[if_neg (by simpa using hne)]
 refine wpAny_bind ?_
 unfold Builtin.Dict.showsAll
 rw[if_neg (by rw[hs];decide)]
 refine wpAny_pure ?_
 refine wpAny_bind (wpAny_dictEntries h1 hdat ?_)
 by_cases hx0:xs=[]
 ·subst hx0
  have he0:es = #[]:=by
   have:es.toList=[]:=by rw[hes];rfl
   exact Array.toList_eq_nil_iff.mp this
  subst he0
  have q0:=h s.heap ⟨_,#[],0,hd,⟨rfl,rfl,rfl⟩,rfl,rfl,fun x hx=>(by cases hx),hnd⟩ ⟨rfl,fun b _=>rfl⟩
  rw[if_neg (by simp)]
  refine wpAny_bind (wpAny_dictEpoch h1 hdat ?_)
  refine wpAny_bind (wpAny_dictEntries h1 hdat ?_)
  refine wpAny_bind ?_
  rw[Std.Legacy.Range.forIn_eq_forIn_range']
  show wpAny _ _ (forIn ([]:List Nat) PUnit.unit _) _ _ _
  rw[List.forIn_nil]
  exact wpAny_pure (wpAny_pure q0)
 ·have hes0:¬ es.all (fun e=>(keyPart e.key).isSome)=true:=fun z=>by
   obtain⟨x,r,rfl⟩:=List.exists_cons_of_ne_nil hx0
   rw[← Array.all_toList,hes,Qg,List.all_cons]at z
   cases z
  rw[if_pos (by rw[Qay.mpr hes0,Bool.and_false];rfl)]
  refine wpAny_bind (wpAny_dictEntries hd rfl ?_)
  rw[if_pos (by rfl)]
  refine wpAny_bind (Zgn h1 hdat hes hh ht ?_)
  have hsz:es.size=xs.length:=by rw[← Q9,hes,Qa]
  have hpos:0<xs.length:=List.length_pos_iff.mpr hx0
  rw[if_pos (by rw[show es.isEmpty=false from(by rw[Array.isEmpty_eq_false_iff];exact fun z=>by rw[z]at hsz;exact absurd hsz (by show ¬ 0=_;omega))];rfl)]
  refine wpAny_bind (wpAny_updateDictKeysTo hd rfl ?_ (by show es.size≤_;omega))
  refine wpAny_pure ?_
  have sb:Heap.SameBut d s.heap (s.heap.update d (Obj.mapDictKeys fun _=>es)):=Heap.SameBut.update _ _ _
  refine h _ ⟨_,es,1,Heap.get?_update_self _ hd rfl,⟨rfl,rfl,rfl⟩,rfl,hes,fun x hx=>knd.keeps (his x hx) hd rfl sb,hnd⟩ sb
end
theorem KT.same{H H':Hp}(k:∀b u,H b=some u→H' b=some u):∀ {kvs:List (List Key×V)} {xs:List (List Key×Addr×Value)},KT H kvs xs→KT H' kvs xs
 | _,_,.nil=>.nil
 | _,_,.cons ⟨a,b,c⟩ r=>.cons ⟨a,k _ _ b,c⟩ (KT.same k r)
theorem KT.keys{H:Hp}:∀ {kvs:List (List Key×V)} {xs:List (List Key×Addr×Value)},KT H kvs xs→kvs.map (·.1)=xs.map (·.1)
 | _,_,.nil=>rfl
 | _,_,.cons ⟨a,_,_⟩ r=>by rw[Qg,Qg,KT.keys r,a]
def Znk:List V→Hp→VK→Prop:=fun xs H Q=>∃ (a:Addr) (kvs:List (List Key×V)),xs=[.ref a]∧H a=some (.dT kvs)∧(∀ (P:Program) (w:World),∀x∈kvs.map (·.1),∀y∈kvs.map (·.1),(tupleKind (Zx P w)).hash x=(tupleKind (Zx P w)).hash y→x=y)∧∀D,H D=none→Q (.ref D) (upd H D (.dT kvs))
theorem ZhK{X:Cx}:Zay X (.type "dict") Znk:=by
 intro pins s σ H xs us Q I r h
 obtain⟨a,kvs,rfl,hS,hh,q⟩:=h
 obtain⟨u,rfl,ru⟩:=Zct r
 cases ru
 obtain⟨z,hsm,ys,rel,dd⟩:=Zm1 I.hok hS
 have hlt:a<s.heap.objs.size:=by obtain⟨ob,es,ep,h1,_⟩:=dd;exact Qk h1
 have hf:H s.heap.objs.size=none:=I.hok.fresh (Qd _)
 have mono:∀x∈ys,(tupleKind (Zx X.prog X.w)).is s.heap x.1 x.2.1→(tupleKind (Zx X.prog X.w)).is (s.heap.push { cls:=.type "dict",data:=.dict #[] }) x.1 x.2.1:=by
  rintro x _ ⟨o,its,n,h1,r⟩
  exact⟨o,its,n,Qc _ h1,r⟩
 have dd':(s.heap.push { cls:=.type "dict",data:=.dict #[] }).DictOfH (tupleKind (Zx X.prog X.w)) a ys:=by
  obtain⟨ob,es,ep,h1,h2,h3,h4,h5,h6⟩:=dd
  exact⟨ob,es,ep,Qc _ h1,h2,h3,h4,fun x hx=>mono x hx (h5 x hx),h6⟩
 have hl:ys.length=kvs.length:=by have:=congrArg List.length rel.keys;rw[Qa,Qa]at this;exact this.symm
 refine Zgi (A:=X.A) dd.typeIs hlt fun E'=>?_
 refine ZhI (knd:=tupleKind (Zx X.prog X.w)) (QU hlt) hsm (Qn _ rfl) dd' (by omega) ?_ (fun x hx=>?_) fun h' hd hsb=>?_
 ·have hi:=hh X.prog X.w
  rw[rel.keys]at hi
  obtain⟨_,_,_,_,_,_,_,_,hnd⟩:=dd'
  rw[show (ys.map fun x=>(tupleKind (Zx X.prog X.w)).hash x.1)=(ys.map (·.1)).map (tupleKind (Zx X.prog X.w)).hash by rw[QF];rfl]
  exact List.pairwise_map.mpr (List.Pairwise.imp_of_mem (fun ha hb h e=>h (hi _ ha _ hb e)) hnd)
 ·obtain⟨_,_,_,_,_,_,_,h5,_⟩:=dd'
  obtain⟨o,its,n,h1,h2,_⟩:=h5 x hx
  exact⟨o,h1,h2⟩
 ·have hk:∀b ob,s.heap.get? b=some ob→h'.get? b=some ob:=fun b ob hb=>by
   rw[hsb.2 b (Qu (Qk hb))];exact Qc _ hb
  have hS2:=rel.same (H':=upd H s.heap.objs.size (.dT kvs)) fun b u hb=>by rw[Zc (Zb hb hf)];exact hb
  refine⟨.ref s.heap.objs.size,_,I.laid (a:=s.heap.objs.size) (o:=.dT kvs) (t':=s.toks) hk (Qd _) ?_,rfl,q _ hf⟩
  obtain⟨ob,es,ep,h1,h2,h3,h4,h5,h6⟩:=hd
  exact⟨z,beq_eq_false_iff_ne.mpr fun y=>QY _ (y ▸ I.big),ys,hS2,ob,es,ep,h1,h2,h3,h4,h6⟩
def ZmV(a b:Nat):Int:=reduceHash (Builtin.Tuple.tupleHashOf [hashInt (a:Int),hashInt (b:Int)])
def Zgy:List (Nat×Nat):=(List.range 36).flatMap fun b=>(List.range b).map fun a=>(a,b)
def apart:List Int→Bool
 | []=>true
 | x::r=>r.all (fun y=>x != y)&&apart r
theorem ZgF:∀l:List Int,apart l=true→l.Nodup
 | [],_=>.nil
 | x::r,h=>by
  unfold apart at h
  rw[Q5,Qam]at h
  exact List.nodup_cons.mpr ⟨fun hx=>by have:=h.1 x hx;simp at this,ZgF r h.2⟩
theorem Zhl:apart (Zgy.map fun p=>ZmV p.1 p.2)=true:=by ac_rfl
theorem Zip{α β:Type}(f:α→β):∀l:List α,(l.map f).Nodup→∀x∈l,∀y∈l,f x=f y→x=y
 | [],_,_,h,_,_,_=>by cases h
 | a::r,nd,x,hx,y,hy,e=>by
  rw[Qg,QN]at nd
  rcases QA.mp hx with h1|h1
  ·rcases QA.mp hy with h2|h2
   ·rw[h1,h2]
   ·exact absurd (by rw[← h1,e];exact Qj h2) nd.1
  ·rcases QA.mp hy with h2|h2
   ·exact absurd (by rw[← h2,← e];exact Qj h1) nd.1
   ·exact Zip f r nd.2 x h1 y h2 e
theorem ZjC{P:Program}{w:World}{a b c d:Int}(h:0≤a∧a<b∧b<36)(h':0≤c∧c<d∧d<36)(e:(tupleKind (Zx P w)).hash [.inl a,.inl b]=(tupleKind (Zx P w)).hash [.inl c,.inl d]):a=c∧b=d:=by
 obtain⟨a,rfl⟩:∃n:Nat,a=n:=⟨a.toNat,by omega⟩
 obtain⟨b,rfl⟩:∃n:Nat,b=n:=⟨b.toNat,by omega⟩
 obtain⟨c,rfl⟩:∃n:Nat,c=n:=⟨c.toNat,by omega⟩
 obtain⟨d,rfl⟩:∃n:Nat,d=n:=⟨d.toNat,by omega⟩
 have mem:∀a b:Nat,a<b→b<36→(a,b)∈Zgy:=fun a b h1 h2=>List.mem_flatMap.mpr ⟨b,Q7.mpr h2,List.mem_map.mpr ⟨a,Q7.mpr h1,rfl⟩⟩
 have:=Zip (fun p:Nat×Nat=>ZmV p.1 p.2) Zgy (ZgF _ Zhl) (a,b) (mem a b (by omega) (by omega)) (c,d) (mem c d (by omega) (by omega)) e
 injection this with e1 e2
 exact⟨by rw[e1],by rw[e2]⟩
end L2
set_option maxHeartbeats 9000000
namespace My
open PySem L2 PyProof.Rows
abbrev Ztl:=@List.tail Stmt
abbrev Zt2(x:List Stmt):=Ztl (Ztl x)
abbrev Zt4(x:List Stmt):=Zt2 (Zt2 x)
abbrev Zt8(x:List Stmt):=Zt4 (Zt4 x)
abbrev Zt16(x:List Stmt):=Zt8 (Zt8 x)
abbrev Zt32(x:List Stmt):=Zt16 (Zt16 x)
local macro_rules|`(‹$i:num›)=>`(@pv _ $i _ _ (by rfl) (Or.inl rfl) (by decide) (by decide))
local macro_rules|`(tactic|trivial)=>`(tactic|first|exact .inl rfl|exact .inr rfl|decide|exact Nat.le_refl _|omega)
local macro_rules
|`(#[Xns,$a,$b,$c])=>`(PySem.W.nsIn $a mainGlobals $b=some (some (.ref $c)))
|`(#[Xfi,$a,$b,$c,$d])=>`(PySem.W.findIn $a (.ref $b) $c=some (some (.ref $d)))
|`(#[Xlk,$z,$a,$b,$c,$d,$e,$f,$g,$h,$i,$j,$k,$l,$m])=>`(($z).lookup $a=some ⟨$b,$c,.func (PySem.W.fnOf $d $e (Zn $f) (Zl $f) (Ze $f) .none $g $h $i $j $k $l),$m⟩)
|`(#[Xci,$a,$b,$c])=>`(PySem.W.codeIn $a $b $c=true)
|`(#[Xki,$a,$b])=>`(PySem.W.keepIn $a (.ref $b)=true)
|`(#[Xif,$a,$b])=>`(PySem.W.isFn $a (.ref $b)=true)
|`(#[Zg,$a,$b])=>`(@Zg _ _ _ _ _ $a $b)
|`(#[Zy,$a,$b,$c,$d])=>`(@Zy _ _ $a _ _ _ _ $b rfl $c $d (by rfl) (by trivial))
|`(#[Zab,$a,$b,$c])=>`(@Zab _ _ _ _ _ _ _ _ $a $b $c)
|`(#[Zh])=>`(@Zh _ _ _ _)
|`(#[Zi,$a])=>`(@Zi _ _ _ $a)
|`(#[Zr,$a])=>`(@Zr _ _ _ _ $a)
|`(#[Zbm,$a,$b,$c])=>`(@Zbm _ _ _ _ _ _ _ _ $a $b $c)
|`(#[Zt,$a,$b,$c,$d])=>`(@Zt _ _ _ _ _ _ _ _ $a $b $c $d)
|`(#[Zo,$a,$b,$c,$d,$e])=>`(@Zo _ _ _ _ _ _ _ _ _ $a $b $c $d $e (by decide) (by decide) (by rfl) (by rfl))
|`(#[Za,$a,$b])=>`(@Za _ _ _ _ _ $a $b (by rfl))
|`(#[Zf])=>`(@Zf _)
|`(#[ZN,$a,$b,$c])=>`(@ZN _ _ _ _ _ _ _ $a $b $c (fun _ _=>rfl))
|`(#[ZaX,$a])=>`(@ZaX _ _ _ _ $a)
|`(#[Zch,$a,$b,$c,$d])=>`(@Zch _ _ _ _ _ _ _ _ _ $a (by rfl) $b $c $d (by decide) (by decide) (by rfl) (by rfl))
|`(#[Zc6,$a,$b,$c,$d])=>`(@Zc6 _ _ _ _ _ _ _ _ $a $b $c $d)
|`(#[Za9,$a,$b])=>`(@Za9 _ _ _ _ _ _ $a $b (by rfl) (by rfl) (by rfl))
|`(#[ZdD,$a,$b,$c])=>`(@ZdD _ _ _ _ _ _ _ $a $b $c (by intro _;rfl))
|`(#[Zaw,$a,$b,$c])=>`(@Zaw _ _ _ _ _ _ _ _ $a $b $c)
|`(#[ZC,$a,$b,$c,$d])=>`(@ZC _ _ _ _ _ _ _ _ _ _ _ $a $b $c (by trivial) $d (by decide) (by rfl) (by rfl))
|`(#[Za3])=>`(@Za3 _ _ _ _)
|`(#[Zbe,$a,$b,$c,$d,$e])=>`(@Zbe _ _ _ _ _ _ _ _ _ _ _ _ _ _ $a rfl rfl rfl $b $c $d $e (by intro _;rfl))
|`(#[Zbw,$a,$b])=>`(@Zbw _ _ _ _ _ _ rfl $a $b (by rfl))
|`(#[pv,$a,$b])=>`(@pv _ $a _ _ (by rfl) $b (by decide) (by decide))
|`(#[cg,$a,$b])=>`(@cg _ _ _ _ _ _ _ _ _ _ _ $a $b rfl (by ac_rfl) (by rfl))
|`(#[cv,$a,$b])=>`(@cv _ _ _ _ _ _ _ _ _ _ _ $a $b rfl (by ac_rfl) (by rfl) (by decide) (by decide))
|`(#[Zdm,$a,$b,$c,$d,$e,$f])=>`(@Zdm _ _ _ _ _ _ _ _ _ _ _ _ $a $b $c $d $e $f (by rfl) (by rfl) (by rfl) (by rfl) (by rfl))
|`(#[ZdA,$a,$b])=>`(@ZdA _ _ _ _ _ _ _ $a $b)
|`(#[Zdz,$a])=>`(@Zdz _ _ _ $a (by intro _;rfl))
|`(#[ZaP,$a])=>`(@ZaP _ _ _ _ _ $a)
|`(#[Zb9,$a,$b])=>`(@Zb9 _ _ _ _ $a $b (by rfl) (by decide) (by decide))
|`(#[gT,$a,$b,$c])=>`(@gT _ $a _ _ _ $b _ $c (by rfl) (by rfl) (by rfl) (by rfl))
|`(#[Zz,$a,$b])=>`(@Zz _ _ _ _ _ $a $b (by rfl))
|`(#[cw,$a,$b])=>`(@cw _ _ _ _ _ _ _ _ _ _ _ $a $b rfl (by ac_rfl) (by rfl) (by decide) (by decide))
|`(#[Zaj])=>`(@Zaj _ _ _)
|`(#[ZcI,$a,$b,$c,$d])=>`(@ZcI _ _ _ _ _ _ _ _ $a rfl $b $c $d (by intro _;rfl))
|`(#[ZL,$a,$b])=>`(@ZL _ _ $a _ $b rfl (Or.inl rfl) (by trivial))
|`(#[ZaG,$a])=>`(@ZaG _ _ _ _ $a (by rfl))
|`(#[Zcg,$a,$b,$c,$d])=>`(@Zcg _ _ _ _ _ _ _ _ _ _ $a $b $c $d)
|`(#[ZH,$a])=>`(@ZH _ _ _ _ _ $a (by rfl))
|`(#[ZaC,$a,$b,$c,$d])=>`(@ZaC _ _ _ _ _ _ _ _ _ _ _ _ $a $b $c $d (by trivial) (by rfl))
|`(#[ZaA,$a,$b])=>`(@ZaA _ _ _ _ _ _ _ _ $a $b (by rfl))
|`(#[Zcy,$a,$b,$c,$d,$e])=>`(@Zcy _ _ _ _ _ _ _ _ _ _ _ _ _ _ _ $a $b $c $d $e (by trivial) (by rfl) (by rfl) (by rfl))
|`(#[ZeK,$a,$b,$c])=>`(@ZeK _ _ _ _ _ _ _ _ _ _ _ _ $a $b $c (by trivial) (by rfl) (by decide) (by rfl) (by rfl))
|`(#[iL,$a,$b])=>`(@iL _ $a _ _ _ $b (by rfl))
theorem xw4{α0:Type _}{α1:Type _}{α2:Type _}{α3:Type _}{p:α0→α1→α2→α3→Prop}(a0:α0)(a1:α1)(a2:α2)(a3:α3)(h:p a0 a1 a2 a3):∃a0 a1 a2 a3,p a0 a1 a2 a3:=⟨a0,a1,a2,a3,h⟩
theorem xw5{α0:Type _}{α1:Type _}{α2:Type _}{α3:Type _}{α4:Type _}{p:α0→α1→α2→α3→α4→Prop}(a0:α0)(a1:α1)(a2:α2)(a3:α3)(a4:α4)(h:p a0 a1 a2 a3 a4):∃a0 a1 a2 a3 a4,p a0 a1 a2 a3 a4:=⟨a0,a1,a2,a3,a4,h⟩
theorem xw8{α0:Type _}{α1:Type _}{α2:Type _}{α3:Type _}{α4:Type _}{α5:Type _}{α6:Type _}{α7:Type _}{p:α0→α1→α2→α3→α4→α5→α6→α7→Prop}(a0:α0)(a1:α1)(a2:α2)(a3:α3)(a4:α4)(a5:α5)(a6:α6)(a7:α7)(h:p a0 a1 a2 a3 a4 a5 a6 a7):∃a0 a1 a2 a3 a4 a5 a6 a7,p a0 a1 a2 a3 a4 a5 a6 a7:=⟨a0,a1,a2,a3,a4,a5,a6,a7,h⟩
theorem xw9{α0:Type _}{α1:Type _}{α2:Type _}{α3:Type _}{α4:Type _}{α5:Type _}{α6:Type _}{α7:Type _}{α8:Type _}{p:α0→α1→α2→α3→α4→α5→α6→α7→α8→Prop}(a0:α0)(a1:α1)(a2:α2)(a3:α3)(a4:α4)(a5:α5)(a6:α6)(a7:α7)(a8:α8)(h:p a0 a1 a2 a3 a4 a5 a6 a7 a8):∃a0 a1 a2 a3 a4 a5 a6 a7 a8,p a0 a1 a2 a3 a4 a5 a6 a7 a8:=⟨a0,a1,a2,a3,a4,a5,a6,a7,a8,h⟩
theorem Zpw{α0:Type _}{α1:Type _}{α2:Type _}{α3:Type _}{α4:Type _}{α5:Type _}{α6:Type _}{α7:Type _}{α8:Type _}{α9:Type _}{p:α0→α1→α2→α3→α4→α5→α6→α7→α8→α9→Prop}(a0:α0)(a1:α1)(a2:α2)(a3:α3)(a4:α4)(a5:α5)(a6:α6)(a7:α7)(a8:α8)(a9:α9)(h:p a0 a1 a2 a3 a4 a5 a6 a7 a8 a9):∃a0 a1 a2 a3 a4 a5 a6 a7 a8 a9,p a0 a1 a2 a3 a4 a5 a6 a7 a8 a9:=⟨a0,a1,a2,a3,a4,a5,a6,a7,a8,a9,h⟩
theorem ZpG{α0:Type _}{α1:Type _}{α2:Type _}{α3:Type _}{α4:Type _}{α5:Type _}{α6:Type _}{α7:Type _}{α8:Type _}{α9:Type _}{α10:Type _}{p:α0→α1→α2→α3→α4→α5→α6→α7→α8→α9→α10→Prop}(a0:α0)(a1:α1)(a2:α2)(a3:α3)(a4:α4)(a5:α5)(a6:α6)(a7:α7)(a8:α8)(a9:α9)(a10:α10)(h:p a0 a1 a2 a3 a4 a5 a6 a7 a8 a9 a10):∃a0 a1 a2 a3 a4 a5 a6 a7 a8 a9 a10,p a0 a1 a2 a3 a4 a5 a6 a7 a8 a9 a10:=⟨a0,a1,a2,a3,a4,a5,a6,a7,a8,a9,a10,h⟩
def hdS:List Stmt→Stmt
 | a::_=>a
 | []=>.Pass ⟨0,0,0,0⟩
abbrev Zad:List Stmt:=PySem.Challenge.pw_mergetree_k62_whole_asked_by_pieces.main.body
abbrev ZlD:Stmt:=hdS (Zt4 (Ztl Zad))
abbrev Zfk:Stmt:=hdS (Zt4 (Zt2 Zad))
abbrev ZeA:Stmt:=hdS (Zt16 (Ztl Zad))
abbrev ZZ:Stmt:=hdS (Zt16 (Zt2 Zad))
abbrev Zo6:Stmt:=hdS Zad
abbrev Zce:Stmt:=hdS (Zt2 Zad)
abbrev Zb7:Stmt:=hdS (Zt2 (Ztl Zad))
abbrev ZcF:Stmt:=hdS (Zt8 Zad)
abbrev ZcT:Stmt:=hdS (Zt8 (Ztl Zad))
abbrev ZaS:Stmt:=hdS (Zt8 (Zt2 Zad))
abbrev ZaU:Stmt:=hdS (Zt8 (Zt2 (Ztl Zad)))
abbrev Zbh:Stmt:=hdS (Zt8 (Zt4 Zad))
abbrev ZaK:Stmt:=hdS (Zt8 (Zt4 (Zt2 Zad)))
abbrev ZbW:Stmt:=hdS (Zt8 (Zt4 (Zt2 (Ztl Zad))))
abbrev ZaD:Stmt:=hdS (Zt16 (Zt2 (Ztl Zad)))
abbrev ZaV:Stmt:=hdS (Zt16 (Zt4 Zad))
abbrev ZbC:Stmt:=hdS (Zt16 (Zt4 (Zt2 Zad)))
abbrev Zav:Stmt:=hdS (Zt16 (Zt4 (Zt2 (Ztl Zad))))
abbrev ZbY:Stmt:=hdS (Zt16 (Zt8 Zad))
abbrev ZaY:Stmt:=hdS (Zt16 (Zt8 (Ztl Zad)))
abbrev ZcP:Stmt:=hdS (Zt16 (Zt8 (Zt2 (Ztl Zad))))
abbrev Zci:Stmt:=hdS (Zt16 (Zt8 (Zt4 Zad)))
abbrev Zb0:Stmt:=hdS (Zt16 (Zt8 (Zt4 (Ztl Zad))))
abbrev Zbb:Stmt:=hdS (Zt16 (Zt8 (Zt4 (Zt2 Zad))))
abbrev ZbX:Stmt:=hdS (Zt16 (Zt8 (Zt4 (Zt2 (Ztl Zad)))))
abbrev Zb4:Stmt:=hdS (Zt32 Zad)
abbrev ZcM:Stmt:=hdS (Zt32 (Ztl Zad))
abbrev Zck:Stmt:=hdS (Zt32 (Zt2 Zad))
abbrev Zbz:Stmt:=hdS (Zt32 (Zt2 (Ztl Zad)))
abbrev Zbv:Stmt:=hdS (Zt32 (Zt4 Zad))
abbrev Zbk:Stmt:=hdS (Zt32 (Zt4 (Ztl Zad)))
abbrev ZbJ:Stmt:=hdS (Zt32 (Zt4 (Zt2 Zad)))
abbrev Zia:Stmt:=ZR Zfk 0
abbrev ZaN:Stmt:=ZR ZeA 0
abbrev Zap:Stmt:=ZR ZeA 1
abbrev ZaB:Stmt:=ZR ZeA 2
abbrev ZaM:Stmt:=ZR ZeA 3
abbrev Zj3:Stmt:=ZR ZeA 4
abbrev Zar:Stmt:=ZR ZZ 0
abbrev Zaa:Stmt:=ZR ZZ 1
abbrev Zat:Stmt:=ZR ZZ 2
abbrev ZW:Stmt:=ZR ZZ 3
abbrev Zag:Stmt:=ZR ZZ 4
abbrev Zlr:Stmt:=ZR ZZ 5
abbrev ZP:Stmt:=ZR ZZ 6
abbrev Zah:Stmt:=ZR ZZ 7
abbrev Zae:Stmt:=ZR ZZ 8
abbrev Zi9:Stmt:=ZR ZZ 9
abbrev Ziq:Stmt:=ZR ZZ 10
abbrev ZlC:Stmt:=ZR ZZ 11
abbrev Zj2:Stmt:=ZR ZZ 12
abbrev ZV:Stmt:=ZR ZZ 13
abbrev Zaq:Stmt:=ZR ZZ 14
abbrev ZT:Stmt:=ZR ZZ 15
abbrev ZK:Stmt:=ZR ZZ 16
abbrev Zao:Stmt:=ZR ZZ 17
theorem ZgO:Zp ["_law_cell", "_law_k", "_law_m"] ["_law_cell", "_law_k"] (Ze ZcP):=⟨rfl,rfl,rfl,by ac_rfl,rfl,by ac_rfl,by ac_rfl⟩
theorem Zf4:Zp ["_law_script", "_law_k", "_law_cell"] ["_law_script", "_law_k"] (Ze Zci):=⟨rfl,rfl,rfl,by ac_rfl,rfl,by ac_rfl,by ac_rfl⟩
theorem ZfM:Zp ["_law_left_here", "_law_many_here", "_law_digit"] ["_law_left_here", "_law_many_here"] (Ze Zb0):=⟨rfl,rfl,rfl,by ac_rfl,rfl,by ac_rfl,by ac_rfl⟩
theorem Ze1:Zp ["_law_left_here", "_law_some"] ["_law_left_here"] (Ze Zbb):=⟨rfl,rfl,rfl,by ac_rfl,rfl,by ac_rfl,by ac_rfl⟩
theorem ZhC:Zp ["_law_left_here", "_law_stems_here", "_law_tail"] ["_law_left_here", "_law_stems_here"] (Ze ZbX):=⟨rfl,rfl,rfl,by ac_rfl,rfl,by ac_rfl,by ac_rfl⟩
theorem ZbU:Zp ["one", "other", "far", "at"] ["one", "other", "far"] (Ze ZaU):=⟨rfl,rfl,rfl,by ac_rfl,rfl,by ac_rfl,by ac_rfl⟩
theorem Zkv:Zp ["one", "other"] ["one", "other"] (Ze ZcF):=⟨rfl,rfl,rfl,by ac_rfl,rfl,by ac_rfl,by ac_rfl⟩
theorem ZfC:Zp ["_law_found", "_law_due"] ["_law_found", "_law_due"] (Ze Zbv):=⟨rfl,rfl,rfl,by ac_rfl,rfl,by ac_rfl,by ac_rfl⟩
theorem Zcd:Zp ["_law_left_here", "_law_stems_here", "_law_most", "_law_found", "_law_k", "_law_key_here"] ["_law_left_here", "_law_stems_here", "_law_most"] (Ze Zb4):=⟨rfl,rfl,rfl,by ac_rfl,rfl,by ac_rfl,by ac_rfl⟩
theorem Zdb:Zp ["row", "told", "place", "key"] ["row"] (Ze ZbW):=⟨rfl,rfl,rfl,by ac_rfl,rfl,by ac_rfl,by ac_rfl⟩
theorem Zg0:Zp ["one", "other", "at"] ["one", "other", "at"] (Ze Zbh):=⟨rfl,rfl,rfl,by ac_rfl,rfl,by ac_rfl,by ac_rfl⟩
theorem Zka:Zp ["one", "other"] ["one", "other"] (Ze ZcT):=⟨rfl,rfl,rfl,by ac_rfl,rfl,by ac_rfl,by ac_rfl⟩
theorem Zdn:Zp ["one", "other", "far", "at"] ["one", "other", "far"] (Ze ZaS):=⟨rfl,rfl,rfl,by ac_rfl,rfl,by ac_rfl,by ac_rfl⟩
theorem ZcH:Zp ["keys", "place"] ["keys"] (Ze ZaK):=⟨rfl,rfl,rfl,by ac_rfl,rfl,by ac_rfl,by ac_rfl⟩
theorem ZfW:Zp ["numbers", "middle"] ["numbers"] (Ze Zce):=⟨rfl,rfl,rfl,by ac_rfl,rfl,by ac_rfl,by ac_rfl⟩
theorem ZfU:Zp ["_law_left_here", "_law_way"] ["_law_left_here"] (Ze Zck):=⟨rfl,rfl,rfl,by ac_rfl,rfl,by ac_rfl,by ac_rfl⟩
theorem Zga:Zp ["self"] ["self"] (Ze ZaB):=⟨rfl,rfl,rfl,by ac_rfl,rfl,by ac_rfl,by ac_rfl⟩
theorem Zg2:Zp ["self"] ["self"] (Ze ZaM):=⟨rfl,rfl,rfl,by ac_rfl,rfl,by ac_rfl,by ac_rfl⟩
theorem ZhA:Zp ["self", "keys"] ["self", "keys"] (Ze ZaN):=⟨rfl,rfl,rfl,by ac_rfl,rfl,by ac_rfl,by ac_rfl⟩
theorem ZbV:Zp ["self", "rows", "number", "keys"] ["self", "rows"] (Ze Zar):=⟨rfl,rfl,rfl,by ac_rfl,rfl,by ac_rfl,by ac_rfl⟩
theorem Zcv:Zp ["self", "row"] ["self"] (Ze Zaa):=⟨rfl,rfl,rfl,by ac_rfl,rfl,by ac_rfl,by ac_rfl⟩
theorem Zfi:Zp ["self"] ["self"] (Ze Zag):=⟨rfl,rfl,rfl,by ac_rfl,rfl,by ac_rfl,by ac_rfl⟩
theorem Zdr:Zp ["self"] ["self"] (Ze ZP):=⟨rfl,rfl,rfl,by ac_rfl,rfl,by ac_rfl,by ac_rfl⟩
theorem ZeZ:Zp ["self"] ["self"] (Ze Zah):=⟨rfl,rfl,rfl,by ac_rfl,rfl,by ac_rfl,by ac_rfl⟩
theorem ZdW:Zp ["self"] ["self"] (Ze ZV):=⟨rfl,rfl,rfl,by ac_rfl,rfl,by ac_rfl,by ac_rfl⟩
theorem Z2:Zp ["self", "numbers", "first_side", "other_side", "one", "other", "winner", "loser", "far"] ["self", "numbers"] (Ze Zaq):=⟨rfl,rfl,rfl,by ac_rfl,rfl,by ac_rfl,by ac_rfl⟩
theorem Zbd:Zp ["self", "one", "other", "far", "order", "alike_far", "seen"] ["self", "one", "other", "far"] (Ze Zao):=⟨rfl,rfl,rfl,by ac_rfl,rfl,by ac_rfl,by ac_rfl⟩
theorem Zcw:Zp ["number", "keys", "place"] ["number", "keys"] (Ze ZaD):=⟨rfl,rfl,rfl,by ac_rfl,rfl,by ac_rfl,by ac_rfl⟩
theorem Zj9:Zp ["_law_left_here", "_law_stems_here", "_law_most"] ["_law_left_here", "_law_stems_here", "_law_most"] (Ze ZcM):=⟨rfl,rfl,rfl,by ac_rfl,rfl,by ac_rfl,by ac_rfl⟩
theorem Zd6:Zp ["_law_left_here", "_law_stems_here", "_law_most"] ["_law_left_here"] (Ze Zbz):=⟨rfl,rfl,rfl,by ac_rfl,rfl,by ac_rfl,by ac_rfl⟩
theorem Zdi:Zp ["self", "thing"] ["self"] (Ze Zat):=⟨rfl,rfl,rfl,by ac_rfl,rfl,by ac_rfl,by ac_rfl⟩
theorem ZbR:Zp ["self", "many", "things"] ["self", "many"] (Ze ZW):=⟨rfl,rfl,rfl,by ac_rfl,rfl,by ac_rfl,by ac_rfl⟩
theorem Zam:Zp ["self", "number", "row", "comer", "meeting"] ["self", "number"] (Ze ZT):=⟨rfl,rfl,rfl,by ac_rfl,rfl,by ac_rfl,by ac_rfl⟩
theorem Zac:Zp ["self", "meeting", "comer", "stayer", "winner", "loser", "far"] ["self", "meeting", "comer"] (Ze ZK):=⟨rfl,rfl,rfl,by ac_rfl,rfl,by ac_rfl,by ac_rfl⟩
theorem Zan:Zp ["numbers", "n", "matches", "least", "greatest", "others"] ["numbers", "n"] (Ze ZaV):=⟨rfl,rfl,rfl,by ac_rfl,rfl,by ac_rfl,by ac_rfl⟩
theorem Za8:Zp ["numbers", "n", "others", "side", "first", "rest"] ["numbers", "n"] (Ze Zb7):=⟨rfl,rfl,rfl,by ac_rfl,rfl,by ac_rfl,by ac_rfl⟩
theorem Zdo:Zp ["self", "other"] ["self"] (Ze Zap):=⟨rfl,rfl,rfl,by ac_rfl,rfl,by ac_rfl,by ac_rfl⟩
theorem Zdp:Zp ["self", "other"] ["self"] (Ze Zae):=⟨rfl,rfl,rfl,by ac_rfl,rfl,by ac_rfl,by ac_rfl⟩
theorem ZfZ:Zp ["rows", "merge"] ["rows"] (Ze ZbY):=⟨rfl,rfl,rfl,by ac_rfl,rfl,by ac_rfl,by ac_rfl⟩
theorem Zhf:Zp ["rows"] ["rows"] (Ze ZaY):=⟨rfl,rfl,rfl,by ac_rfl,rfl,by ac_rfl,by ac_rfl⟩
theorem ZjK:Zp ["rows"] ["rows"] (Ze ZbC):=⟨rfl,rfl,rfl,by ac_rfl,rfl,by ac_rfl,by ac_rfl⟩
theorem Zfc:Zp ["rows"] ["rows"] (Ze Zav):=⟨rfl,rfl,rfl,by ac_rfl,rfl,by ac_rfl,by ac_rfl⟩
theorem Zbj:Zp ["_law_left_here", "_law_merge", "_law_found", "_law_turn", "_law_way"] ["_law_left_here", "_law_merge"] (Ze Zbk):=⟨rfl,rfl,rfl,by ac_rfl,rfl,by ac_rfl,by ac_rfl⟩
theorem Zcn:Zp ["_law_script", "_law_k", "_law_left_here", "_law_rows_here", "_law_found", "_law_took", "_law_keys_here", "_law_cut", "_law_both"] ["_law_script"] (Ze ZbJ):=⟨rfl,rfl,rfl,by ac_rfl,rfl,by ac_rfl,by ac_rfl⟩
def ZmG:Scope:={ kind:=.function,names:=[(Str.ofString ".0",.«local»),(Str.ofString "_law_k",.«local»),(Str.ofString "_law_pick",.globalImplicit),(Str.ofString "_law_left_here",.free),(Str.ofString "_law_some",.free)],isGenerator:=false,isCoroutine:=false,more:=[] }
theorem ZkE:Z7 ["_law_left_here", "_law_some"] ["_law_left_here", "_law_some", "_law_k"] (Ze Zbb) ZmG:=⟨rfl,rfl,by ac_rfl,by ac_rfl,by ac_rfl,by decide,by ac_rfl,by ac_rfl⟩
def ZoD:Scope:={ kind:=.function,names:=[(Str.ofString ".0",.«local»),(Str.ofString "_law_k",.«local»),(Str.ofString "_law_pick",.globalImplicit),(Str.ofString "_law_left_here",.cell),(Str.ofString "_law_some",.cell)],isGenerator:=false,isCoroutine:=false,more:=[] }
def Zmh:Scope:={ kind:=.function,names:=[(Str.ofString ".0",.«local»),(Str.ofString "_law_k",.«local»),(Str.ofString "_law_pick",.globalImplicit),(Str.ofString "_law_left_here",.free)],isGenerator:=false,isCoroutine:=false,more:=[] }
theorem Zmq:Z7 ["_law_left_here", "_law_stems_here", "_law_tail"] ["_law_left_here", "_law_stems_here", "_law_tail", "_law_k"] (Ze ZbX) Zmh:=⟨rfl,rfl,by ac_rfl,by ac_rfl,by ac_rfl,by decide,by ac_rfl,by ac_rfl⟩
def ZoI:Scope:={ kind:=.function,names:=[(Str.ofString ".0",.«local»),(Str.ofString "_law_k",.«local»),(Str.ofString "_law_pick",.globalImplicit),(Str.ofString "_law_left_here",.cell)],isGenerator:=false,isCoroutine:=false,more:=[] }
def Zmm:Scope:={ kind:=.function,names:=[(Str.ofString ".0",.«local»),(Str.ofString "_law_one",.«local»),(Str.ofString "_law_other",.«local»),(Str.ofString "_law_same",.globalImplicit)],isGenerator:=false,isCoroutine:=false,more:=[] }
theorem Zjw:Z7 ["_law_found", "_law_due"] ["_law_found", "_law_due", "_law_one", "_law_other"] (Ze Zbv) Zmm:=⟨rfl,rfl,by ac_rfl,by ac_rfl,by ac_rfl,by decide,by ac_rfl,by ac_rfl⟩
def Zo3:Scope:={ kind:=.function,names:=[(Str.ofString ".0",.«local»),(Str.ofString "_law_one",.«local»),(Str.ofString "_law_other",.«local»),(Str.ofString "_law_same",.globalImplicit)],isGenerator:=false,isCoroutine:=false,more:=[] }
def Zmc:Scope:={ kind:=.function,names:=[(Str.ofString ".0",.«local»),(Str.ofString "row",.«local»)],isGenerator:=false,isCoroutine:=false,more:=[] }
theorem ZnW:Z7 ["self"] ["self", "row"] (Ze Zag) Zmc:=⟨rfl,rfl,by ac_rfl,by ac_rfl,by ac_rfl,by decide,by ac_rfl,by ac_rfl⟩
def ZoR:Scope:={ kind:=.function,names:=[(Str.ofString ".0",.«local»),(Str.ofString "row",.«local»)],isGenerator:=false,isCoroutine:=false,more:=[] }
def ZlM:Scope:={ kind:=.function,names:=[(Str.ofString ".0",.«local»),(Str.ofString "_law_k",.«local»),(Str.ofString "_law_row",.globalImplicit),(Str.ofString "_law_left_here",.free),(Str.ofString "_law_most",.free),(Str.ofString "_law_stems_here",.free)],isGenerator:=false,isCoroutine:=false,more:=[] }
theorem Zjf:Z7 ["_law_left_here", "_law_stems_here", "_law_most"] ["_law_left_here", "_law_stems_here", "_law_most", "_law_k"] (Ze Zbz) ZlM:=⟨rfl,rfl,by ac_rfl,by ac_rfl,by ac_rfl,by decide,by ac_rfl,by ac_rfl⟩
def Zot:Scope:={ kind:=.function,names:=[(Str.ofString ".0",.«local»),(Str.ofString "_law_k",.«local»),(Str.ofString "_law_row",.globalImplicit),(Str.ofString "_law_left_here",.cell),(Str.ofString "_law_most",.cell),(Str.ofString "_law_stems_here",.cell)],isGenerator:=false,isCoroutine:=false,more:=[] }
def Zmy:Scope:={ kind:=.function,names:=[(Str.ofString ".0",.«local»),(Str.ofString "number",.«local»),(Str.ofString "row",.«local»)],isGenerator:=false,isCoroutine:=false,more:=[] }
theorem Zlt:Z7 ["self", "other"] ["self", "other", "number", "row"] (Ze Zae) Zmy:=⟨rfl,rfl,by ac_rfl,by ac_rfl,by ac_rfl,by decide,by ac_rfl,by ac_rfl⟩
def Zou:Scope:={ kind:=.function,names:=[(Str.ofString ".0",.«local»),(Str.ofString "number",.«local»),(Str.ofString "row",.«local»)],isGenerator:=false,isCoroutine:=false,more:=[] }
def Zmj:Scope:={ kind:=.function,names:=[(Str.ofString ".0",.«local»),(Str.ofString "row",.«local»),(Str.ofString "len",.globalImplicit)],isGenerator:=false,isCoroutine:=false,more:=[] }
theorem Zmb:Z7 ["rows"] ["rows", "row"] (Ze ZaY) Zmj:=⟨rfl,rfl,by ac_rfl,by ac_rfl,by ac_rfl,by decide,by ac_rfl,by ac_rfl⟩
def Zop:Scope:={ kind:=.function,names:=[(Str.ofString ".0",.«local»),(Str.ofString "row",.«local»),(Str.ofString "len",.globalImplicit)],isGenerator:=false,isCoroutine:=false,more:=[] }
def ZlV:Scope:={ kind:=.function,names:=[(Str.ofString ".0",.«local»),(Str.ofString "row",.«local»),(Str.ofString "place",.«local»),(Str.ofString "key",.«local»)],isGenerator:=false,isCoroutine:=false,more:=[] }
theorem ZjN:Z7 ["rows"] ["rows", "row", "place", "key"] (Ze ZbC) ZlV:=⟨rfl,rfl,by ac_rfl,by ac_rfl,by ac_rfl,by decide,by ac_rfl,by ac_rfl⟩
def Zoy:Scope:={ kind:=.function,names:=[(Str.ofString ".0",.«local»),(Str.ofString "row",.«local»),(Str.ofString "place",.«local»),(Str.ofString "key",.«local»)],isGenerator:=false,isCoroutine:=false,more:=[] }
def ZlG:Scope:={ kind:=.function,names:=[(Str.ofString ".0",.«local»),(Str.ofString "row",.«local»),(Str.ofString "place",.«local»),(Str.ofString "key",.«local»)],isGenerator:=false,isCoroutine:=false,more:=[] }
theorem ZkP:Z7 ["rows"] ["rows", "row", "place", "key"] (Ze Zav) ZlG:=⟨rfl,rfl,by ac_rfl,by ac_rfl,by ac_rfl,by decide,by ac_rfl,by ac_rfl⟩
def ZoS:Scope:={ kind:=.function,names:=[(Str.ofString ".0",.«local»),(Str.ofString "row",.«local»),(Str.ofString "place",.«local»),(Str.ofString "key",.«local»)],isGenerator:=false,isCoroutine:=false,more:=[] }
def Zmu:Scope:={ kind:=.function,names:=[(Str.ofString ".0",.«local»),(Str.ofString "_law_thing",.«local»)],isGenerator:=false,isCoroutine:=false,more:=[] }
theorem ZnA:Z7 ["_law_script", "_law_k", "_law_left_here", "_law_rows_here", "_law_found", "_law_took", "_law_keys_here", "_law_cut", "_law_both"] ["_law_script", "_law_k", "_law_left_here", "_law_rows_here", "_law_found", "_law_took", "_law_keys_here", "_law_cut", "_law_both", "_law_thing"] (Ze ZbJ) Zmu:=⟨rfl,rfl,by ac_rfl,by ac_rfl,by ac_rfl,by decide,by ac_rfl,by ac_rfl⟩
def Zoz:Scope:={ kind:=.function,names:=[(Str.ofString ".0",.«local»),(Str.ofString "_law_thing",.«local»)],isGenerator:=false,isCoroutine:=false,more:=[] }
def Zkk:Scope:={ kind:=.function,names:=[(Str.ofString ".0",.«local»),(Str.ofString "_law_thing",.«local»)],isGenerator:=false,isCoroutine:=false,more:=[] }
theorem Zj5:Z7 ["_law_script", "_law_k", "_law_left_here", "_law_rows_here", "_law_found", "_law_took", "_law_keys_here", "_law_cut", "_law_both"] ["_law_script", "_law_k", "_law_left_here", "_law_rows_here", "_law_found", "_law_took", "_law_keys_here", "_law_cut", "_law_both", "_law_thing"] (Ze ZbJ) Zkk:=⟨rfl,rfl,by ac_rfl,by ac_rfl,by ac_rfl,by decide,by ac_rfl,by ac_rfl⟩
def Zn9:Scope:={ kind:=.function,names:=[(Str.ofString ".0",.«local»),(Str.ofString "_law_thing",.«local»)],isGenerator:=false,isCoroutine:=false,more:=[] }
structure Bt (mg:Str→Option Value):Prop where
 n_abs:mg "abs" = none
 n_all:mg "all" = none
 n_bool:mg "bool" = none
 n_dict:mg "dict" = none
 n_enumerate:mg "enumerate" = none
 n_int:mg "int" = none
 n_isinstance:mg "isinstance" = none
 n_len:mg "len" = none
 n_list:mg "list" = none
 n_max:mg "max" = none
 n_min:mg "min" = none
 n_range:mg "range" = none
 n_sorted:mg "sorted" = none
 n_str:mg "str" = none
 n_sum:mg "sum" = none
 n_tuple:mg "tuple" = none
 n_zip:mg "zip" = none
structure Zak (K:PySem.W.Frag) (mg:Str→Option Value) (cRow:Addr) (cMerge:Addr):Prop where
 b:Bt mg
 t_halves:Top K mg "halves" Zce ["numbers"]
 t_way_up:Top K mg "way_up" Zb7 ["numbers", "n"]
 t_alike:Top K mg "alike" ZcF ["one", "other"]
 t_liken:Top K mg "liken" ZcT ["one", "other"]
 t_liken_from:Top K mg "liken_from" ZaS ["one", "other", "far"]
 t_alike_from:Top K mg "alike_from" ZaU ["one", "other", "far"]
 t_order_at:Top K mg "order_at" Zbh ["one", "other", "at"]
 t_first_break:Top K mg "first_break" ZaK ["keys"]
 t_alikes:Top K mg "alikes" ZbW ["row"]
 t_refuse_break:Top K mg "refuse_break" ZaD ["number", "keys"]
 t_matches_up:Top K mg "matches_up" ZaV ["numbers", "n"]
 t_merged:Top K mg "merged" ZbC ["rows"]
 t_merged_keys:Top K mg "merged_keys" Zav ["rows"]
 t_counts:Top K mg "counts" ZbY ["rows"]
 t_how_many:Top K mg "how_many" ZaY ["rows"]
 t_l_mix:Top K mg "_law_mix" ZcP ["_law_cell", "_law_k"]
 t_l_left:Top K mg "_law_left" Zci ["_law_script", "_law_k"]
 t_l_pick:Top K mg "_law_pick" Zb0 ["_law_left_here", "_law_many_here"]
 t_l_stems:Top K mg "_law_stems" Zbb ["_law_left_here"]
 t_l_key:Top K mg "_law_key" ZbX ["_law_left_here", "_law_stems_here"]
 t_l_keys:Top K mg "_law_keys" Zb4 ["_law_left_here", "_law_stems_here", "_law_most"]
 t_l_row:Top K mg "_law_row" ZcM ["_law_left_here", "_law_stems_here", "_law_most"]
 t_l_many:Top K mg "_law_many" Zck ["_law_left_here"]
 t_l_rows:Top K mg "_law_rows" Zbz ["_law_left_here"]
 t_l_same:Top K mg "_law_same" Zbv ["_law_found", "_law_due"]
 t_l_pieces:Top K mg "_law_pieces" Zbk ["_law_left_here", "_law_merge"]
 t_Row_init:ZlO K mg cRow "Row" "Row.__init__" ZaN ["self", "keys"]
 t_Row_copied:ZcU K cRow "copied" "Row.copied" Zap ["self"]
 t_Row_to_go:ZcU K cRow "to_go" "Row.to_go" ZaB ["self"]
 t_Row_head:ZcU K cRow "head" "Row.head" ZaM ["self"]
 t_Merge_init:ZlO K mg cMerge "Merge" "Merge.__init__" Zar ["self", "rows"]
 t_Merge_coming:ZcU K cMerge "coming" "Merge.coming" Zaa ["self"]
 t_Merge_take:ZcU K cMerge "take" "Merge.take" Zat ["self"]
 t_Merge_take_few:ZcU K cMerge "take_few" "Merge.take_few" ZW ["self", "many"]
 t_Merge_left:ZcU K cMerge "left" "Merge.left" Zag ["self"]
 t_Merge_likenings:ZcU K cMerge "likenings" "Merge.likenings" ZP ["self"]
 t_Merge_looks:ZcU K cMerge "looks" "Merge.looks" Zah ["self"]
 t_Merge_twin:ZcU K cMerge "twin" "Merge.twin" Zae ["self"]
 t_Merge_play_all:ZcU K cMerge "play_all" "Merge.play_all" ZV ["self"]
 t_Merge_play:ZcU K cMerge "play" "Merge.play" Zaq ["self", "numbers"]
 t_Merge_send_out:ZcU K cMerge "send_out" "Merge.send_out" ZT ["self", "number"]
 t_Merge_play_again:ZcU K cMerge "play_again" "Merge.play_again" ZK ["self", "meeting", "comer"]
 t_Merge_meet:ZcU K cMerge "meet" "Merge.meet" Zao ["self", "one", "other", "far"]
 cl_Row:Cls K cRow
 na_Row_all_keys:ZaR K cRow "all_keys"
 na_Row_fars:ZaR K cRow "fars"
 na_Row_gone:ZaR K cRow "gone"
 cl_Merge:Cls K cMerge
 na_Merge_best:ZaR K cMerge "best"
 na_Merge_likened:ZaR K cMerge "likened"
 na_Merge_looked:ZaR K cMerge "looked"
 na_Merge_next_number:ZaR K cMerge "next_number"
 na_Merge_rows:ZaR K cMerge "rows"
 na_Merge_stays:ZaR K cMerge "stays"
def Zau(H:Hp)(p:Addr)(c:Int):Prop:=∃a b:Int,H p=some (.lst [.int a,.int b,.int c])∧0≤c
def But(p:Addr)(H H':Hp):Prop:=∀b o,H b=some o→b≠p→H' b=some o
theorem But.trans{p:Addr}{H H1 H2:Hp}(a:But p H H1)(b:But p H1 H2):But p H H2:=fun c o h n=>b c o (a c o h n) n
theorem But.same{p:Addr}{H H1:Hp}(a:Zu H H1):But p H H1:=fun c o h _=>a c o h
theorem Zj{H:Hp}{p:Addr}(h:H p=none)(o:HO):Zu H (upd H p o):=fun b u q=>by rw[Zc (Zb q h)];exact q
theorem Zcs{n:Nat}(h:n≤1000):n≤sizeLine:=Nat.le_of_lt (ZY h)
def Zlg:Sp:=fun vs H Q _=>∃a k:Int,vs=[.int a,.int k] ∧ -(2 ^ 62)<k∧k<2 ^ 62∧∀r:Int,0≤r→r<2000000000→Q (.int r) H
def Zlf(K:PySem.W.Frag):Sp:=fun vs H Q _=>∃ (a:Addr) (ns:List Int) (k:Int),vs=[.ref a,.int k]∧SqL K H a (ns.map V.int)∧ns.length≤63∧0≤k∧k<100 ∧
 ∀ (p:Addr) (H':Hp),H p=none→Zau H' p 0→Zu H H'→Q (.ref p) H'
def Zc1:Sp:=fun vs H Q _=>∃ (p:Addr) (c m:Int),vs=[.ref p,.int m]∧Zau H p c∧c<2 ^ 60∧0<m∧m<1000000 ∧
 ∀ (r:Int) (H':Hp),0≤r→r<m→Zau H' p (c+1)→But p H H'→Q (.int r) H'
theorem ZnN{ns:List Int}{k:Int}(h0:0≤k)(h:k<(ns.length:Int)):∃v:Int,atI (ns.map V.int) k=some (.int v):=by
 have hk:k.toNat<ns.length:=by omega
 have ek:k=((k.toNat:Nat):Int):=by omega
 have q:atI (ns.map V.int) ((k.toNat:Nat):Int)=some (.int ns[k.toNat]):=Zaz (by rw[Qs,Qb hk]<;>rfl)
 rw[← ek]at q
 exact⟨_,q⟩
theorem ZhQ{ss:List Str}{k:Int}(h0:0≤k)(h:k<(ss.length:Int)):∃s∈ss,atI (ss.map V.str) k=some (.str s):=by
 have hk:k.toNat<ss.length:=by omega
 have ek:k=((k.toNat:Nat):Int):=by omega
 have q:atI (ss.map V.str) ((k.toNat:Nat):Int)=some (.str ss[k.toNat]):=Zaz (by rw[Qs,Qb hk]<;>rfl)
 rw[← ek]at q
 exact⟨_,Q6 hk,q⟩
theorem ZmM(b:Bool):-(2 ^ 64)<(if b=true then (1:Int) else 0)∧(if b=true then (1:Int) else 0)<2 ^ 64:=by cases b<;>decide
theorem ZdM{z:Str}{k:Int}(h0:0≤k)(h:k<(z.length:Int)):∃c:Nat,z.cps.toList[k.toNat]? = some c∧atI z.cps.toList k=some c:=by
 have hl:z.cps.toList.length=z.length:=by simp[Str.length]
 have hk:k.toNat<z.cps.toList.length:=by omega
 have ek:k=((k.toNat:Nat):Int):=by omega
 have q:atI z.cps.toList ((k.toNat:Nat):Int)=some z.cps.toList[k.toNat]:=Zaz (Qb hk)
 rw[← ek]at q
 exact⟨_,Qb hk,q⟩
theorem ZkR(sep:Str)(ys:List Str):(Txt.join sep ys).length≤(ys.map (·.length)).sum+ys.length*sep.length:=by
 have e:Txt.join sep ys=Str.join sep ys:=by simpa using join_plain_closes sep ys
 rw[e]
 exact StrLaws.join_length_le sep ys
theorem ZgN:∀ss:List Str,(∀s∈ss,s.length≤1)→(ss.map (·.length)).sum≤ss.length
 | [],_=>Qd _
 | s::r,h=>by
  have h1:=h s QW
  have h2:=ZgN r fun x hx=>h x (Qm _ hx)
  rw[Qg,QZ,QI]
  omega
def lcp:List Nat→List Nat→Nat
 | a::r,b::s=>if a=b then lcp r s+1 else 0
 | _,_=>0
theorem Zez:∀ (x y:List Nat),lcp x y≤x.length∧lcp x y≤y.length
 | [],_=>⟨Qr _,Qr _⟩
 | _::_,[]=>⟨Qr _,Qr _⟩
 | a::r,b::s=>by
  have h:=Zez r s
  unfold lcp
  split
  ·exact⟨Nat.succ_le_succ h.1,Nat.succ_le_succ h.2⟩
  ·exact⟨Qr _,Qr _⟩
theorem ZbK:∀ (x y:List Nat),lcp x y=lcp y x
 | [],[]=>rfl
 | [],_::_=>rfl
 | _::_,[]=>rfl
 | a::r,b::s=>by
  unfold lcp
  by_cases h:a=b
  ·rw[if_pos h,if_pos h.symm,ZbK r s]
  ·rw[if_neg h,if_neg fun e=>h e.symm]
theorem Zhh:∀x:List Nat,lcp x x=x.length
 | []=>rfl
 | a::r=>by unfold lcp;rw[if_pos rfl,Zhh r];rfl
theorem Zdd(x:List Nat):lcp x []=0:=by cases x<;>rfl
theorem lcp_nil'(x:List Nat):lcp [] x=0:=by cases x<;>rfl
theorem Zlc:∀ (x y:List Nat) (k:Nat),k≤lcp x y→∀a,x[k]? = some a→y[k]? = some a→k+1≤lcp x y
 | [],_,k,_,a,h,_=>by simp at h
 | _::_,[],k,_,a,_,h=>by simp at h
 | a::r,b::s,0,_,c,h1,h2=>by
  simp at h1 h2
  unfold lcp
  rw[if_pos (by rw[h1,h2])]
  omega
 | a::r,b::s,k+1,h,c,h1,h2=>by
  unfold lcp at h ⊢
  by_cases e:a=b
  ·rw[if_pos e]at h ⊢
   have:=Zlc r s k (by omega) c (by simpa using h1) (by simpa using h2)
   omega
  ·rw[if_neg e]at h;omega
theorem ZkI:∀ (x y:List Nat) (k:Nat),k<lcp x y→x[k]? = y[k]?
 | [],_,k,h=>by unfold lcp at h;omega
 | _::_,[],k,h=>by unfold lcp at h;omega
 | a::r,b::s,0,h=>by
  unfold lcp at h
  by_cases e:a=b
  ·simp[e]
  ·rw[if_neg e]at h;omega
 | a::r,b::s,k+1,h=>by
  unfold lcp at h
  by_cases e:a=b
  ·rw[if_pos e]at h
   simpa using ZkI r s k (by omega)
  ·rw[if_neg e]at h;omega
theorem Zgo(x y:List Nat)(k:Nat)(h:k≤lcp x y)(n:x.length≤k∨y.length≤k∨∃a b,x[k]? = some a∧y[k]? = some b∧a≠b):lcp x y=k:=by
 have l:=Zez x y
 rcases n with n|n|⟨a,b,h1,h2,ne⟩
 ·omega
 ·omega
 ·by_cases q:k<lcp x y
  ·have:=ZkI x y k q
   rw[h1,h2]at this
   exact absurd (Qh this) ne
  ·omega
theorem Zek:∀ (x y z:List Nat),(lcp x y≤lcp x z∧lcp y z=lcp x y)∨(lcp x y≤lcp y z∧lcp x z=lcp x y)∨(lcp x z≤lcp x y∧lcp y z=lcp x z)
 | [],y,z=>.inr (.inl ⟨by rw[lcp_nil'];exact Qr _,by rw[lcp_nil',lcp_nil']⟩)
 | x,[],z=>.inl ⟨by rw[Zdd];exact Qr _,by rw[Zdd,lcp_nil']⟩
 | x,y,[]=>.inr (.inr ⟨by rw[Zdd];exact Qr _,by rw[Zdd,Zdd]⟩)
 | a::r,b::s,c::t=>by
  have ih:=Zek r s t
  unfold lcp
  by_cases h1:a=b
  ·by_cases h2:b=c
   ·rw[if_pos h1,if_pos h2,if_pos (h1.trans h2)]
    omega
   ·rw[if_pos h1,if_neg h2,if_neg fun e=>h2 (h1.symm.trans e)]
    omega
  ·rw[if_neg h1]
   by_cases h2:b=c
   ·rw[if_pos h2,if_neg fun e=>h1 (e.trans h2.symm)]
    omega
   ·rw[if_neg h2]
    omega
abbrev cds(z:Str):List Nat:=z.cps.toList
def AZ(z:Str):Prop:=∀c∈cds z,97≤c∧c≤122
theorem Zme(x y:Str):cds (x++y)=cds x++cds y:=by
 show (x++y).cps.toList=_
 rw[PySem.Str.cps_append]
 simp
theorem AZ.app{x y:Str}(a:AZ x)(b:AZ y):AZ (x++y):=fun c h=>by
 rw[Zme]at h
 exact(Qq.mp h).elim (a c) (b c)
theorem AZ.nil:AZ "":=by unfold AZ cds;ac_rfl
theorem AZ.join:∀ys:List Str,(∀s∈ys,AZ s)→AZ (Str.join "" ys)
 | [],_=>fun c h=>by cases (show c∈([]:List Nat) from h)
 | [x],h=>h x (by simp)
 | x::y::r,h=>((h x (by simp)).app AZ.nil).app (AZ.join (y::r) fun s hs=>h s (Qm _ hs))
theorem AZ.joinT(ys:List Str)(h:∀s∈ys,AZ s):AZ (Txt.join "" ys):=by
 have e:Txt.join "" ys=Str.join "" ys:=by simpa using join_plain_closes "" ys
 rw[e]
 exact AZ.join ys h
theorem AZ.one{z:Str}(a:AZ z){k:Nat}{c:Nat}(h:z.cps.toList[k]? = some c):AZ ⟨#[c]⟩:=fun d hd=>by
 have e:d=c:=by simpa using hd
 rw[e]
 exact a c (Qy h)
theorem AZ.ok{z:Str}(a:AZ z):PyData.strOk z=true:=by
 unfold PyData.strOk
 rw[Array.all_eq_true]
 intro i hi
 have:=a z.cps[i] (by simp)
 exact decide_eq_true (by omega)
theorem ZnS:AZ "ababcz":=by unfold AZ cds;ac_rfl
def Zex:Sp:=fun vs H Q _=>∃x y:Str,vs=[.str x,.str y]∧x.length≤1000∧y.length≤1000∧Q (.int (lcp (cds x) (cds y))) H
def ZbQ:Sp:=fun vs H Q _=>∃ (x y:Str) (far:Nat),vs=[.str x,.str y,.int far]∧x.length≤1000∧y.length≤1000∧far≤lcp (cds x) (cds y)∧Q (.int (lcp (cds x) (cds y))) H
def IsD(H:Hp):Nat→V→V→Prop
 | 0,_,_=>False
 | n+1,x,y=>(x=y∧(x=.non∨(∃b,x=.bl b)∨(∃i,x=.int i)∨∃s,x=.str s)) ∨
   (∃ (p q:Addr) (xs ys:List V),x=.ref p∧y=.ref q∧((H p=some (.lst xs)∧H q=some (.lst ys))∨(H p=some (.tup xs)∧H q=some (.tup ys)))∧xs.length=ys.length∧xs.length≤1000∧∀ (i:Nat) (x y:V),xs[i]? = some x→ys[i]? = some y→IsD H n x y)
theorem IsD.mono{H H':Hp}(s:Zu H H'):∀ {n:Nat} {x y:V},IsD H n x y→IsD H' n x y
 | 0,_,_,h=>h.elim
 | n+1,x,y,h=>by
  rcases h with h|⟨p,q,xs,ys,e1,e2,h,hl,hz,hi⟩
  ·exact .inl h
  ·refine .inr ⟨p,q,xs,ys,e1,e2,?_,hl,hz,fun i x y a b=>(hi i x y a b).mono s⟩
   rcases h with⟨a,b⟩|⟨a,b⟩
   ·exact .inl ⟨s _ _ a,s _ _ b⟩
   ·exact .inr ⟨s _ _ a,s _ _ b⟩
def ZkX(n:Nat):Sp:=fun vs H Q _=>∃x y:V,vs=[x,y]∧IsD H n x y∧∀H',Zu H H'→Q (.bl true) H'
section
variable (K:PySem.W.Frag)
open PySem.W
theorem ZjE:kitAny K (.type "int") (["list", "tuple"].map Value.type)=some false:=by unfold kitAny kitOne kitCls;rfl
theorem ZkD:kitAny K (.type "bool") (["list", "tuple"].map Value.type)=some false:=by unfold kitAny kitOne kitCls;rfl
theorem ZjD:kitAny K (.type "str") (["list", "tuple"].map Value.type)=some false:=by unfold kitAny kitOne kitCls;rfl
theorem Zji:kitAny K (.type "NoneType") (["list", "tuple"].map Value.type)=some false:=by unfold kitAny kitOne kitCls;rfl
theorem Zjq:kitAny K (.type "list") (["list", "tuple"].map Value.type)=some true:=by unfold kitAny kitOne kitCls;rfl
theorem Zi8:kitAny K (.type "tuple") (["list", "tuple"].map Value.type)=some true:=by unfold kitAny kitOne kitCls;rfl
theorem ZfD:kitOne K (.type "list") (.type "list")=some true:=by unfold kitOne kitCls;rfl
theorem ZfO:kitOne K (.type "list") (.type "tuple")=some false:=by unfold kitOne kitCls;rfl
theorem Zf3:kitOne K (.type "tuple") (.type "list")=some false:=by unfold kitOne kitCls;rfl
theorem Zfu:kitOne K (.type "tuple") (.type "tuple")=some true:=by unfold kitOne kitCls;rfl
theorem Zjg:kitOne K (.type "int") (.type "str")=some false:=by unfold kitOne kitCls;rfl
theorem ZgG:kitOne K (.type "int") (.type "bool")=some false:=by unfold kitOne kitCls;rfl
theorem Zjm:kitOne K (.type "int") (.type "int")=some true:=by unfold kitOne kitCls;rfl
theorem Zd8:kitOne K (.type "str") (.type "str")=some true:=by unfold kitOne kitCls;rfl
theorem ZfA:kitOne K (.type "NoneType") (.type "str")=some false:=by unfold kitOne kitCls;rfl
theorem Zk3:kitOne K (.type "bool") (.type "str")=some false:=by unfold kitOne kitCls;rfl
theorem ZiW:kitOne K (.type "bool") (.type "bool")=some true:=by unfold kitOne kitCls;rfl
end
section
variable {P:Program} {w:World} {K:PySem.W.Frag} {mg:Str→Option Value} {base:Heap} {cRow cMerge:Addr}
theorem Zng(T:Zak K mg cRow cMerge):Df P w K mg base 1 "_law_mix" ["_law_cell", "_law_k"] Zlg:=by
 refine T.t_l_mix.df ZgO (fun vs H Q E h=>?_) (fun cdv f A outer s H vs Q E hr h=>?_)
 ·obtain⟨a,k,rfl,_⟩:=h
  rfl
 obtain⟨a,k,rfl,k1,k2,q⟩:=h
 refine⟨_,#[Zg,#[Zy,2,ZgO.nd,(Or.inl rfl),#[Zab,ZeN,#[Zab,Zeb,#[Zab,Zbp,#[Zab,Zbp,#[Zab,ZeN,‹0›,#[Zh]],#[Zab,Zeb,#[Zab,Zeb,‹1›,‹1›],#[Zh]]],#[Zh]],#[Zh]],#[Zh]]],#[Zi,#[Zr,#[Zab,ZeN,#[Zab,Zeb,‹2›,‹2›],#[Zh]]]]],?_⟩
 refine⟨_,rfl,_,_,rfl,rfl,(by show (0:Int)<_;decide),_,rfl,_,rfl,_,_,rfl,rfl,.inl ⟨by omega,by omega⟩,_,_,rfl,rfl,.inr ⟨by decide,by decide⟩,_,_,rfl,rfl,_,_,rfl,rfl,_,_,rfl,rfl,.inr ⟨by decide,by decide⟩,_,_,rfl,rfl,(by show (0:Int)<_;decide),?_⟩
 have m0:=Int.emod_nonneg ((a % 2147483629+k*k*7919+11)*48271) (show (2147483647:Int)≠0 by decide)
 have m1:=Qat ((a % 2147483629+k*k*7919+11)*48271) (show (0:Int)<2147483647 by decide)
 refine⟨_,rfl,_,rfl,_,_,rfl,rfl,.inl ⟨by omega,by omega⟩,_,_,rfl,rfl,(by show (0:Int)<_;decide),?_⟩
 exact q _ (Int.emod_nonneg _ (by decide)) (Int.lt_trans (Qat _ (by decide)) (by decide))
theorem Zl1(T:Zak K mg cRow cMerge):Df P w K mg base 1 "_law_left" ["_law_script", "_law_k"] (Zlf K):=by
 refine T.t_l_left.df Zf4 (fun vs H Q E h=>?_) (fun cdv f A outer s H vs Q E hr h=>?_)
 ·obtain⟨a,ns,k,rfl,_⟩:=h
  rfl
 obtain⟨a,ns,k,rfl,hS,h63,k0,k1,q⟩:=h
 refine⟨_,#[Zg,#[Zy,2,Zf4.nd,(Or.inl rfl),#[Zbm,#[Zt,Ze0,‹1›,#[Zo,(Zdq K),(by rfl),T.b.n_len,QC,#[Za,‹0›,#[Zf]]],(Zw _)],#[ZN,(ixL K),‹0›,‹1›],#[Zh]]],#[Zi,#[Zr,#[ZaX,#[Za,#[Zab,Zeb,#[Zo,Zhc,(by rfl),T.b.n_abs,boot_abs,#[Za,‹2›,#[Zf]]],#[Zch,Zi5,T.b.n_int,boot_int,#[Za,#[Zc6,Zof,#[Zo,Zhc,(by rfl),T.b.n_abs,boot_abs,#[Za,‹2›,#[Zf]]],#[Zab,Zm3,#[Zh],#[Zh]],(Zw _)],#[Zf]]]],#[Za,#[Zab,Zbp,‹2›,#[Zab,Zeb,#[Zh],‹1›]],#[Za,#[Zh],#[Zf]]]]]]]],?_⟩
 have hl:(ns.map V.int).length=ns.length:=Qa _
 have pw:Zov 10 18:=⟨by decide,by decide,by decide⟩
 refine⟨_,rfl,_,rfl,a,_,rfl,.inl hS,_,_,rfl,rfl,_,rfl,?_⟩
 refine Zbt (fun c=>?_) (fun c=>?_)
 ·have c':k<(((ns.map V.int).length:Nat):Int):=of_decide_eq_true c
  rw[hl]at c'
  obtain⟨v,hv⟩:=ZnN (ns:=ns) k0 c'
  refine⟨_,rfl,_,rfl,xw4 a _ _ _ ⟨rfl,rfl,hS,hv,?_⟩⟩
  refine⟨_,rfl,_,rfl,_,rfl,_,rfl,_,_,rfl,rfl,pw,_,_,rfl,rfl,.inr ⟨_,rfl,_,_,rfl,rfl,.inr (ZmM _),_,rfl,_,rfl,_,_,rfl,rfl,.inl ⟨by decide,by decide⟩,_,_,rfl,rfl,(by show 3≤sizeLine;decide),fun p hp=>?_⟩⟩
  exact q p _ hp ⟨_,_,Zd,Int.le_refl _⟩ (Zj hp _)
 ·refine⟨_,rfl,_,rfl,_,rfl,_,rfl,_,_,rfl,rfl,pw,_,_,rfl,rfl,.inr ⟨_,rfl,_,_,rfl,rfl,.inr (ZmM _),_,rfl,_,rfl,_,_,rfl,rfl,.inl ⟨by decide,by decide⟩,_,_,rfl,rfl,(by show 3≤sizeLine;decide),fun p hp=>?_⟩⟩
  exact q p _ hp ⟨_,_,Zd,Int.le_refl _⟩ (Zj hp _)
theorem Zl7(T:Zak K mg cRow cMerge)(f_l_mix:Df P w K mg base 1 "_law_mix" ["_law_cell", "_law_k"] Zlg):Df P w K mg base 2 "_law_pick" ["_law_left_here", "_law_many_here"] Zc1:=by
 refine T.t_l_pick.df ZfM (fun vs H Q E h=>?_) (fun cdv f A outer s H vs Q E hr h=>?_)
 ·obtain⟨p,c,m,rfl,_⟩:=h
  rfl
 obtain⟨p,c,m,rfl,⟨a,b,hp,c0⟩,c1,m0,m1,q⟩:=h
 refine⟨_,#[Zg,#[Za9,#[Zab,Zbp,#[ZN,(ixL K),‹0›,#[Zh]],#[Zh]],#[ZdD,‹0›,#[Zh],ZgP]],#[Zg,#[Zaw,#[Zt,Zhk,#[ZN,(ixL K),‹0›,#[Zh]],#[Zh],(Zw _)],#[Zg,#[Zy,2,ZfM.nd,(Or.inl rfl),#[Zab,ZeN,#[ZN,(ixL K),‹0›,#[Zh]],‹1›]],#[Zg,#[Za9,#[Zab,Zgm,#[ZN,(ixL K),‹0›,#[Zh]],‹1›],#[ZdD,‹0›,#[Zh],ZgP]],#[Zi,#[Zr,‹2›]]]],(@ZS _)],#[Zi,#[Zr,#[Zab,ZeN,#[Zab,Zgm,#[ZC,f_l_mix,hr,#[Za,#[ZC,f_l_mix,hr,#[Za,#[ZN,(ixL K),‹0›,#[Zh]],#[Za,#[ZN,(ixL K),‹0›,#[Zh]],#[Zf]]],(by rfl)],#[Za,#[Zab,Zbp,#[ZN,(ixL K),‹0›,#[Zh]],#[Zh]],#[Zf]]],(by rfl)],#[Zh]],‹1›]]]]],?_⟩
 have u1:(upd H p (.lst [.int a,.int b,.int (c+1)])) p=some (.lst [.int a,.int b,.int (c+1)]):=Zd
 refine⟨_,rfl,xw4 p _ _ _ ⟨rfl,rfl,SqL.of hp,rfl,_,_,rfl,rfl,_,rfl,p,_,_,2,rfl,rfl,hp,rfl,?_⟩⟩
 refine⟨_,rfl,xw4 p _ _ _ ⟨rfl,rfl,SqL.of u1,rfl,_,_,rfl,rfl,_,rfl,?_⟩⟩
 refine Zbt (fun d=>?_) (fun d=>?_)
 ·refine⟨_,rfl,xw4 p _ _ _ ⟨rfl,rfl,SqL.of u1,rfl,_,rfl,_,_,rfl,rfl,m0,?_⟩⟩
  refine⟨_,rfl,xw4 p _ _ _ ⟨rfl,rfl,SqL.of u1,rfl,_,rfl,_,_,rfl,rfl,⟨m0,by omega⟩,_,rfl,p,_,_,0,rfl,rfl,u1,rfl,?_⟩⟩
  refine⟨_,rfl,?_⟩
  refine q _ _ (Int.emod_nonneg _ (by omega)) (Qat _ m0) ⟨a / m,b,Zd,by omega⟩ fun e o h n=>?_
  rw[Zc n,Zc n]
  exact h
 ·refine⟨_,rfl,xw4 p _ _ _ ⟨rfl,rfl,SqL.of u1,rfl,_,rfl,xw4 p _ _ _ ⟨rfl,rfl,SqL.of u1,rfl,_,_,rfl,by omega,by omega,fun r r0 r1=>?_⟩⟩⟩
  refine⟨_,rfl,xw4 p _ _ _ ⟨rfl,rfl,SqL.of u1,rfl,_,_,rfl,rfl,_,_,rfl,by omega,by omega,fun r' r0' r1'=>?_⟩⟩
  refine⟨_,_,rfl,rfl,⟨by decide,by decide⟩,_,rfl,_,_,rfl,rfl,m0,?_⟩
  refine q _ _ (Int.emod_nonneg _ (by omega)) (Qat _ m0) ⟨a,b,Zd,by omega⟩ fun e o h n=>?_
  rw[Zc n]
  exact h
def Zbg:List Str:=["", "a", "ab", "aba", "abab", "b", "zebra", "aaaaaaaa", "knowswho", "z", "abababababab",Txt.mul "a" 24]
theorem Zg4:∀s∈Zbg,s.length≤24:=by ac_rfl
theorem Zh6:∀s∈Zbg,AZ s:=by unfold AZ cds;ac_rfl
def Zgv:Sp:=fun vs H Q _=>∃ (p:Addr) (c:Int),vs=[.ref p]∧Zau H p c∧c<2 ^ 50 ∧
 ∀ (l:Addr) (ss:List Str) (c':Int) (H':Hp),H l=none→H' l=some (.lst (ss.map V.str))→1≤ss.length→ss.length≤4→(∀s∈ss,s.length≤24∧AZ s)→Zau H' p c'→c≤c'→c'≤c+5→But p H H'→Q (.ref l) H'
def Zke:Sp:=fun vs H Q _=>∃ (p l:Addr) (c:Int) (ss:List Str),vs=[.ref p,.ref l]∧Zau H p c∧c<2 ^ 50∧H l=some (.lst (ss.map V.str))∧1≤ss.length∧ss.length≤4∧(∀s∈ss,s.length≤24∧AZ s) ∧
 ∀ (z:Str) (c':Int) (H':Hp),z.length≤28→AZ z→Zau H' p c'→c≤c'→c'≤c+6→But p H H'→Q (.str z) H'
theorem Zkw(T:Zak K mg cRow cMerge)(f_l_pick:Df P w K mg base 2 "_law_pick" ["_law_left_here", "_law_many_here"] Zc1):Df P w K mg base 3 "_law_stems" ["_law_left_here"] Zgv:=by
 refine T.t_l_stems.df Ze1 (fun vs H Q E h=>?_) (fun cdv f A outer s H vs Q E hr h=>?_)
 ·obtain⟨p,c,rfl,_⟩:=h
  rfl
 obtain⟨p,c,rfl,hL,c1,q⟩:=h
 refine⟨_,#[Zg,#[Zy,1,Ze1.nd,(Or.inr rfl),#[ZaX,#[Za,#[Za3],#[Za,#[Za3],#[Za,#[Za3],#[Za,#[Za3],#[Za,#[Za3],#[Za,#[Za3],#[Za,#[Za3],#[Za,#[Za3],#[Za,#[Za3],#[Za,#[Za3],#[Za,#[Za3],#[Za,#[Zab,Zl4,#[Za3],#[Zh]],#[Zf]]]]]]]]]]]]]]],#[Zi,#[Zr,#[Zbe,ZkE,#[Zbw,T.b.n_range,#[Za,#[Zab,Zbp,#[Zh],#[ZC,f_l_pick,hr,#[Za,#[pv,0,(Or.inr (Or.inl rfl))],#[Za,#[Zh],#[Zf]]],(by rfl)]],#[Zf]]],(fun _ _ _ _=>#[cg,2,ZkE]),(fun _ _ _ _=>(@Za5 _)),(fun _ _ _ _=>#[ZN,(ixL K),#[cv,1,ZkE],#[ZC,f_l_pick,hr,#[Za,#[cv,0,ZkE],#[Za,#[Zh],#[Zf]]],(Zb1 ZkE rfl (by ac_rfl))]])]]]],?_⟩
 refine⟨_,_,rfl,rfl,by decide,by decide,by decide,(by show 12≤sizeLine;decide),fun l hl=>?_⟩
 have npl:p≠l:=by obtain⟨a,b,hp,_⟩:=hL;exact Zb hp hl
 have hL1:Zau (upd H l (.lst (Zbg.map V.str))) p c:=by obtain⟨a,b,hp,c0⟩:=hL;exact⟨a,b,by rw[Zc npl];exact hp,c0⟩
 refine⟨_,rfl,p,c,_,rfl,hL1,by omega,by decide,by decide,fun r H1 r0 r1 L1 B1=>?_⟩
 refine⟨_,_,rfl,rfl,_,rfl,by omega,by omega,fun D hD=>?_⟩
 have c0:0≤c:=by obtain⟨a,b,hp,c0⟩:=hL;exact c0
 have h1l:H1 l=some (.lst (Zbg.map V.str)):=B1 l _ Zd npl.symm
 have npD:p≠D:=by obtain⟨a,b,hp,_⟩:=L1;exact Zb hp hD
 have nlD:l≠D:=Zb h1l hD
 refine Zdt (fun i ys σ H2=>∃ (ss:List Str) (v:Option V) (c2:Int),σ=[some (.ref p),some (.ref l),v]∧ys=ss.map V.str∧ss.length=i∧(∀s∈ss,s.length≤24∧AZ s)∧Zau H2 p c2∧c+1≤c2∧c2≤c+1+i ∧
   H2 l=some (.lst (Zbg.map V.str))∧H2 D=some (.lst ys)∧But p H H2) ?_ ?_ ?_
 ·refine⟨[],none,c+1,rfl,rfl,rfl,(fun s hs=>by cases hs),?_,by omega,by omega,?_,Zd,?_⟩
  ·obtain⟨a,b,hp,q0⟩:=L1
   exact⟨a,b,by rw[Zc npD];exact hp,q0⟩
  ·rw[Zc nlD];exact h1l
  ·intro b o e n
   have e1:(upd H l (.lst (Zbg.map V.str))) b=some o:=by rw[Zc (Zb e hl)];exact e
   have e2:=B1 b o e1 n
   rw[Zc (Zb e2 hD)]
   exact e2
 ·rintro i ys σ H2 hi ⟨ss,v,c2,rfl,rfl,hn,hs,L2',b1,b2,hl2,hD2,B2⟩
  refine⟨_,rfl,_,rfl,p,c2,_,rfl,L2',by omega,by decide,by decide,fun r' H3 r0' r1' L3 B3=>?_⟩
  obtain⟨s,hs1,hs2⟩:=ZhQ (ss:=Zbg) r0' r1'
  have hD3:H3 D=some (.lst (ss.map V.str)):=B3 D _ hD2 npD.symm
  have hl3:H3 l=some (.lst (Zbg.map V.str)):=B3 l _ hl2 npl.symm
  refine(xw4 l _ _ _ ⟨rfl,rfl,SqL.of hl3,hs2,hD3,(by rw[Qa,hn];exact ZY (by omega)),ss++[s],_,c2+1,rfl,?_,?_,?_,?_,by omega,by omega,?_,Zd,?_⟩)
  ·rw[Qe];rfl
  ·rw[Qp,hn];rfl
  ·intro x hx
   rcases Qq.mp hx with hx|hx
   ·exact hs x hx
   ·rw[Ql.mp hx];exact⟨Zg4 s hs1,Zh6 s hs1⟩
  ·obtain⟨a,b,hp,q0⟩:=L3
   exact⟨a,b,by rw[Zc npD];exact hp,q0⟩
  ·rw[Zc nlD];exact hl3
  ·intro b o e n
   have e2:=B3 b o (B2 b o e n) n
   have e3:H D=none:=by
    cases w':H D with
    | none=>rfl
    | some u =>
     have nDp:D≠p:=npD.symm
     have z1:(upd H l (.lst (Zbg.map V.str))) D=some u:=by rw[Zc nlD.symm];exact w'
     rw[B1 D u z1 nDp]at hD
     cases hD
   rw[Zc (Zb e e3)]
   exact e2
 ·rintro ys σ H2 ⟨ss,v,c2,rfl,rfl,hn,hs,L2',b1,b2,hl2,hD2,B2⟩
  have e3:H D=none:=by
   cases w':H D with
   | none=>rfl
   | some u =>
    have z1:(upd H l (.lst (Zbg.map V.str))) D=some u:=by rw[Zc nlD.symm];exact w'
    rw[B1 D u z1 npD.symm]at hD
    cases hD
  exact q D ss c2 H2 e3 hD2 (by omega) (by omega) hs L2' (by omega) (by omega) B2
theorem ZnF(T:Zak K mg cRow cMerge)(f_l_pick:Df P w K mg base 2 "_law_pick" ["_law_left_here", "_law_many_here"] Zc1):Df P w K mg base 3 "_law_key" ["_law_left_here", "_law_stems_here"] Zke:=by
 refine T.t_l_key.df ZhC (fun vs H Q E h=>?_) (fun cdv f A outer s H vs Q E hr h=>?_)
 ·obtain⟨p,l,c,ss,rfl,_⟩:=h
  rfl
 obtain⟨p,l,c,ss,rfl,hL,c1,hl,n1,n4,h24,q⟩:=h
 refine⟨_,#[Zg,#[Zy,2,ZhC.nd,(Or.inl rfl),#[Zdm,PySem.F.plainAttrs_str,PySem.F.slot_str_join,PySem.F.type_str_join,(Zos K),#[Za3],#[Za,#[Zbe,Zmq,#[Zbw,T.b.n_range,#[Za,#[ZC,f_l_pick,hr,#[Za,#[pv,0,(Or.inr (Or.inl rfl))],#[Za,#[Zh],#[Zf]]],(by rfl)],#[Zf]]],(fun _ _ _ _=>#[cg,3,Zmq]),(fun _ _ _ _=>(@Za5 _)),(fun _ _ _ _=>#[ZN,Ze8,#[Za3],#[ZC,f_l_pick,hr,#[Za,#[cv,0,Zmq],#[Za,#[Zh],#[Zf]]],(Zb1 Zmq rfl (by ac_rfl))]])],#[Zf]]]],#[Zi,#[Zr,#[Zab,Zh4,#[ZN,(ixL K),‹1›,#[ZC,f_l_pick,hr,#[Za,#[pv,0,(Or.inr (Or.inl rfl))],#[Za,#[Zo,(Zdq K),(by rfl),T.b.n_len,QC,#[Za,‹1›,#[Zf]]],#[Zf]]],(by rfl)]],‹2›]]]],?_⟩
 have c0:0≤c:=by obtain⟨a,b,hp,c0⟩:=hL;exact c0
 have npl:p≠l:=by
  obtain⟨a,b,hp,_⟩:=hL
  refine ZkQ hp hl fun e=>?_
  have e1:=congrArg List.length (HO.lst.inj e)
  cases ss with
  | nil=>cases e1
  | cons x r=>exact absurd (HO.lst.inj e) (by intro z;cases z)
 refine⟨rfl,_,rfl,p,c,_,rfl,hL,by omega,by decide,by decide,fun r H1 r0 r1 L1 B1=>?_⟩
 refine⟨_,rfl,by omega,by omega,fun D hD=>?_⟩
 have npD:p≠D:=by obtain⟨a,b,hp,_⟩:=L1;exact Zb hp hD
 have h1l:=B1 l _ hl npl.symm
 have nlD:l≠D:=Zb h1l hD
 have hDn:H D=none:=by
  cases w':H D with
  | none=>rfl
  | some u=>rw[B1 D u w' npD.symm]at hD;cases hD
 refine Zdt (fun i ys σ H2=>∃ (ts:List Str) (v:Option V) (c2:Int),σ=[some (.ref p),some (.ref l),none,v]∧ys=ts.map V.str∧ts.length=i∧(∀s∈ts,s.length≤1∧AZ s)∧Zau H2 p c2∧c+1≤c2∧c2≤c+1+i ∧
   H2 D=some (.lst ys)∧But p H H2) ?_ ?_ ?_
 ·refine⟨[],none,c+1,rfl,rfl,rfl,(fun s hs=>by cases hs),?_,by omega,by omega,Zd,?_⟩
  ·obtain⟨a,b,hp,q0⟩:=L1
   exact⟨a,b,by rw[Zc npD];exact hp,q0⟩
  ·intro b o e n
   rw[Zc (Zb e hDn)]
   exact B1 b o e n
 ·rintro i ys σ H2 hi ⟨ts,v,c2,rfl,rfl,hn,hs,L2',b1,b2,hD2,B2⟩
  refine⟨_,rfl,p,c2,_,rfl,L2',by omega,by decide,by decide,fun r' H3 r0' r1' L3 B3=>?_⟩
  obtain⟨ch,hcm,hch⟩:=ZdM (z := "ababcz") r0' r1'
  have hD3:H3 D=some (.lst (ts.map V.str)):=B3 D _ hD2 npD.symm
  refine⟨_,_,_,rfl,rfl,(by ac_rfl),hch,hD3,(by rw[Qa,hn];exact ZY (by omega)),ts++[⟨#[ch]⟩],_,c2+1,rfl,?_,?_,?_,?_,by omega,by omega,Zd,?_⟩
  ·rw[Qe];rfl
  ·rw[Qp,hn];rfl
  ·intro x hx
   rcases Qq.mp hx with hx|hx
   ·exact hs x hx
   ·rw[Ql.mp hx];exact⟨Qd 1,ZnS.one hcm⟩
  ·obtain⟨a,b,hp,q0⟩:=L3
   exact⟨a,b,by rw[Zc npD];exact hp,q0⟩
  ·intro b o e n
   rw[Zc (Zb e hDn)]
   exact B3 b o (B2 b o e n) n
 ·rintro ys σ H2 ⟨ts,v,c2,rfl,rfl,hn,hs,L2',b1,b2,hD2,B2⟩
  have hsum:=ZgN ts fun s h=>(hs s h).1
  have hjl:=ZkR "" ts
  have e0:("" : Str).length=0:=by ac_rfl
  rw[e0]at hjl
  have hl2:=B2 l _ hl npl.symm
  refine⟨_,D,ts,rfl,rfl,SqL.of hD2,(by rw[e0];omega),?_⟩
  have hlen:(((ss.map V.str).length:Nat):Int)=(ss.length:Int):=by rw[Qa]
  refine⟨_,rfl,_,rfl,_,rfl,l,_,rfl,.inl (SqL.of hl2),p,c2,_,rfl,L2',by omega,by omega,by omega,fun r' H3 r0' r1' L3 B3=>?_⟩
  obtain⟨st,hs1,hs2⟩:=ZhQ (ss:=ss) r0' (by omega)
  have hst:=(h24 st hs1).1
  refine(xw4 l _ _ _ ⟨rfl,rfl,SqL.of (B3 l _ hl2 npl.symm),hs2,_,rfl,_,_,rfl,rfl,Zcs (by omega),?_⟩)
  refine q _ (c2+1) H3 ?_ ((h24 st hs1).2.app (AZ.joinT ts fun s h=>(hs s h).2)) L3 (by omega) (by omega) (B2.trans B3)
  rw[PySem.Str.length_append]
  omega
theorem Zfm(T:Zak K mg cRow cMerge):Df P w K mg base 1 "alike_from" ["one", "other", "far"] ZbQ:=by
 refine T.t_alike_from.df ZbU (fun vs H Q E h=>?_) (fun cdv f A outer s H vs Q E hr h=>?_)
 ·obtain⟨x,y,far,rfl,_⟩:=h
  rfl
 obtain⟨x,y,far,rfl,hx,hy,hf,q⟩:=h
 refine⟨_,#[Zg,#[Zy,3,ZbU.nd,(Or.inl rfl),‹2›],#[Zg,(@Ze5 _ _ _ _ _ _ PassesOwn.never (@PW.pt _ _ _ #[ZdA,#[Zt,Ze0,‹3›,#[Zo,ZaO,(by rfl),T.b.n_len,QC,#[Za,‹0›,#[Zf]]],(Zw _)],#[ZdA,#[Zt,Ze0,‹3›,#[Zo,ZaO,(by rfl),T.b.n_len,QC,#[Za,‹1›,#[Zf]]],(Zw _)],(@Zc4 _ _ _ _ #[Zt,Zbo,#[ZN,Ze8,‹0›,‹3›],#[ZN,Ze8,‹1›,‹3›],(Zw _)])]]) #[Zi,(@Znd _ _ 3 _ _ _ _ _ _ ZbU.nd rfl (Or.inl rfl) #[Zh] ZnY (by trivial))]),#[Zi,#[Zr,‹3›]]]],?_⟩
 refine⟨_,rfl,?_⟩
 have lx:(cds x).length=x.length:=by simp[Str.length]
 have ly:(cds y).length=y.length:=by simp[Str.length]
 have ll:=Zez (cds x) (cds y)
 refine⟨fun m σ H2=>∃k:Nat,σ=[some (.str x),some (.str y),some (.int far),some (.int k)]∧H2=H∧k≤lcp (cds x) (cds y)∧m=lcp (cds x) (cds y)-k,⟨_,far,rfl,rfl,hf,rfl⟩,?_⟩
 rintro m σ H2 ⟨k,rfl,rfl,hk,rfl⟩
 refine⟨_,rfl,_,rfl,x,rfl,Zcs hx,_,_,rfl,rfl,_,rfl,?_⟩
 refine Zbt (fun d1=>?_) (fun d1=>?_)
 ·have d1':(k:Int)<(x.length:Int):=of_decide_eq_true d1
  refine⟨_,rfl,_,rfl,y,rfl,Zcs hy,_,_,rfl,rfl,_,rfl,?_⟩
  refine Zbt (fun d2=>?_) (fun d2=>?_)
  ·have d2':(k:Int)<(y.length:Int):=of_decide_eq_true d2
   obtain⟨a,ha,ha'⟩:=ZdM (z:=x) (k:=k) (by omega) d1'
   obtain⟨b,hb,hb'⟩:=ZdM (z:=y) (k:=k) (by omega) d2'
   rw[Int.toNat_natCast]at ha hb
   refine⟨_,rfl,_,rfl,x,_,a,rfl,rfl,Zcs hx,ha',_,rfl,_,rfl,y,_,b,rfl,rfl,Zcs hy,hb',rfl,_,rfl,?_⟩
   refine Zbt (fun d3=>?_) (fun d3=>?_)
   ·have d3':a=b:=by
     have:=of_decide_eq_true d3
     injection this with e
     injection e with e
     simpa using e
    subst d3'
    have:=Zlc _ _ k hk a ha hb
    refine⟨fun σ' H'=>σ'=[some (.str x),some (.str y),some (.int far),some (.int ((k+1:Nat):Int))]∧H'=H2,fun σ' H' ⟨e1,e2⟩=>⟨_,?_,k+1,e1,e2,this,rfl⟩,?_⟩
    ·omega
    ·exact⟨_,rfl,_,_,rfl,rfl,rfl,rfl⟩
   ·refine⟨_,rfl,?_⟩
    have e:=Zgo _ _ k hk (.inr (.inr ⟨a,b,ha,hb,fun e=>d3 (by subst e;exact decide_eq_true rfl)⟩))
    rw[e]at q
    exact q
  ·refine Zb5 ⟨_,rfl,?_⟩
   have d2':¬ (k:Int)<(y.length:Int):=of_decide_eq_false (Qay.mpr d2)
   have e:=Zgo _ _ k hk (.inr (.inl (by omega)))
   rw[e]at q
   exact q
 ·refine Zb5 ⟨_,rfl,?_⟩
  have d1':¬ (k:Int)<(x.length:Int):=of_decide_eq_false (Qay.mpr d1)
  have e:=Zgo _ _ k hk (.inl (by omega))
  rw[e]at q
  exact q
theorem Zkb(T:Zak K mg cRow cMerge)(f_alike_from:Df P w K mg base 1 "alike_from" ["one", "other", "far"] ZbQ):Df P w K mg base 2 "alike" ["one", "other"] Zex:=by
 refine T.t_alike.df Zkv (fun vs H Q E h=>?_) (fun cdv f A outer s H vs Q E hr h=>?_)
 ·obtain⟨x,y,rfl,_⟩:=h
  rfl
 obtain⟨x,y,rfl,hx,hy,q⟩:=h
 refine⟨_,#[Zi,#[Zr,#[ZC,f_alike_from,hr,#[Za,‹0›,#[Za,‹1›,#[Za,#[Zh],#[Zf]]]],(by rfl)]]],?_⟩
 exact⟨_,rfl,_,rfl,x,y,0,rfl,hx,hy,Qr _,q⟩
theorem ZdT{c A B:Prop}[Decidable c](hc:c)(h:A):if decide c=true then A else B:=by
 rw[if_pos (decide_eq_true hc)]
 exact h
theorem Zcu{c A B:Prop}[Decidable c](hc:¬ c)(h:B):if decide c=true then A else B:=by
 rw[if_neg (by rw[decide_eq_false hc];exact Qi)]
 exact h
theorem ZiR(T:Zak K mg cRow cMerge):∀n:Nat,Df P w K mg base (n+1) "_law_same" ["_law_found", "_law_due"] (ZkX n)
 | 0=>by
  refine T.t_l_same.df ZfC (fun vs H Q E h=>?_) (fun cdv f A outer s H vs Q E hr h=>?_)
  ·obtain⟨x,y,rfl,_⟩:=h
   rfl
  obtain⟨x,y,rfl,h,_⟩:=h
  exact h.elim
 | n+1=>by
  have f_l_same:=ZiR T n
  refine T.t_l_same.df ZfC (fun vs H Q E h=>?_) (fun cdv f A outer s H vs Q E hr h=>?_)
  ·obtain⟨x,y,rfl,_⟩:=h
   rfl
  obtain⟨x,y,rfl,hD,q⟩:=h
  refine⟨_,#[Zg,#[Zaw,#[Zdz,#[Zo,(Zo5 K),(by rfl),T.b.n_isinstance,boot_isinstance,#[Za,‹1›,#[Za,#[ZaP,#[Za,#[Zb9,T.b.n_list,boot_list],#[Za,#[Zb9,T.b.n_tuple,boot_tuple],#[Zf]]]],#[Zf]]]]],#[Zg,#[Zaw,(@PW.pt _ _ _ (@ZiB _ _ _ _ _ _ _ #[Zt,ZmX,#[Zo,(ZeX K),(by rfl),T.b.n_isinstance,boot_isinstance,#[Za,‹0›,#[Za,#[Zb9,T.b.n_list,boot_list],#[Zf]]]],#[Zo,(ZeX K),(by rfl),T.b.n_isinstance,boot_isinstance,#[Za,‹1›,#[Za,#[Zb9,T.b.n_list,boot_list],#[Zf]]]],(Zw _)] (@Zgw _ _ _ _ #[Zt,ZmX,#[Zo,(ZeX K),(by rfl),T.b.n_isinstance,boot_isinstance,#[Za,‹0›,#[Za,#[Zb9,T.b.n_tuple,boot_tuple],#[Zf]]]],#[Zo,(ZeX K),(by rfl),T.b.n_isinstance,boot_isinstance,#[Za,‹1›,#[Za,#[Zb9,T.b.n_tuple,boot_tuple],#[Zf]]]],(Zw _)]))),#[Zi,#[Zr,(@ZhB _ _ _ _)]],(@ZS _)],#[Zi,#[Zr,(@ZeB _ _ _ _ _ _ _ #[Zc6,Zbo,#[Zo,(Zdq K),(by rfl),T.b.n_len,QC,#[Za,‹0›,#[Zf]]],#[Zo,(Zdq K),(by rfl),T.b.n_len,QC,#[Za,‹1›,#[Zf]]],(Zw _)] (@ZgA _ _ _ _ _ #[Zo,(Zpi K),(by rfl),T.b.n_all,boot_all,#[Za,#[Zbe,Zjw,(@iZ _ K _ _ _ _ _ _ _ _ T.b.n_zip #[Za,‹0›,#[Za,‹1›,#[Zf]]] (by rfl) (by rfl) (by rfl) (by rfl)),(fun _ _ _ _=>#[gT,K,2,#[Zz,#[cg,2,Zjw],#[Zz,#[cg,3,Zjw],(@ZaW _)]]]),(fun _ _ _ _=>(@Za5 _)),(fun _ _ _ _=>#[ZC,f_l_same,hr,#[Za,#[cw,2,Zjw],#[Za,#[cw,3,Zjw],#[Zf]]],(Zb1 Zjw rfl (by ac_rfl))])],#[Zf]]]))]]],(@ZS _)],#[Zg,#[Zaw,(@PW.pt _ _ _ (@ZiB _ _ _ _ _ _ _ #[Zt,Zco,‹1›,#[Zaj],(Zw _)] (@Zgw _ _ _ _ #[Zdz,#[Zo,(ZeX K),(by rfl),T.b.n_isinstance,boot_isinstance,#[Za,‹1›,#[Za,#[Zb9,T.b.n_str,boot_str],#[Zf]]]]]))),#[Zi,#[Zr,(@ZeB _ _ _ _ _ _ _ #[Zc6,Zbo,‹0›,‹1›,(Zw _)] (@ZgA _ _ _ _ _ #[Zc6,Zbo,#[Zo,(ZeX K),(by rfl),T.b.n_isinstance,boot_isinstance,#[Za,‹0›,#[Za,#[Zb9,T.b.n_str,boot_str],#[Zf]]]],#[Zo,(ZeX K),(by rfl),T.b.n_isinstance,boot_isinstance,#[Za,‹1›,#[Za,#[Zb9,T.b.n_str,boot_str],#[Zf]]]],(Zw _)]))]],(@ZS _)],#[Zg,#[Zaw,#[Zdz,#[Zo,(ZeX K),(by rfl),T.b.n_isinstance,boot_isinstance,#[Za,‹1›,#[Za,#[Zb9,T.b.n_bool,boot_bool],#[Zf]]]]],#[Zi,#[Zr,(@ZeB _ _ _ _ _ _ _ #[Zo,(ZeX K),(by rfl),T.b.n_isinstance,boot_isinstance,#[Za,‹0›,#[Za,#[Zb9,T.b.n_bool,boot_bool],#[Zf]]]] (@ZgA _ _ _ _ _ #[Zc6,Zbo,‹0›,‹1›,(Zw _)]))]],(@ZS _)],#[Zi,#[Zr,(@ZeB _ _ _ _ _ _ _ #[Zo,(ZeX K),(by rfl),T.b.n_isinstance,boot_isinstance,#[Za,‹0›,#[Za,#[Zb9,T.b.n_int,boot_int],#[Zf]]]] (@ZeB _ _ _ _ _ _ _ (@Zm6 _ _ _ _ #[Zo,(ZeX K),(by rfl),T.b.n_isinstance,boot_isinstance,#[Za,‹0›,#[Za,#[Zb9,T.b.n_bool,boot_bool],#[Zf]]]]) (@ZgA _ _ _ _ _ #[Zc6,Zbo,‹0›,‹1›,(Zw _)])))]]]]],?_⟩
  refine⟨_,rfl,(by show 2≤sizeLine;decide),fun tp htp=>?_⟩
  have sT:Zu H (upd H tp (.tup (["list", "tuple"].map V.ty))):=Zj htp _
  rcases hD with⟨rfl,rfl|⟨b,rfl⟩|⟨i,rfl⟩|⟨z,rfl⟩⟩|⟨p,q2,xs,ys,rfl,rfl,⟨hp,hq⟩|⟨hp,hq⟩,hl,hz,hi⟩
  ·refine⟨_,tp,["list", "tuple"],_,_,rfl,Zd,.non,Zji K,_,rfl,Zb5 ?_⟩
   refine⟨_,rfl,rfl,_,rfl,ZdT rfl (Zfj ?_)⟩
   refine⟨_,rfl,_,rfl,rfl,_,rfl,ZdT rfl ?_⟩
   exact⟨_,rfl,_, "str",_,_,rfl,.non,ZfA K,_,rfl,_, "str",_,_,rfl,.non,ZfA K,rfl,q _ sT⟩
  ·refine⟨_,tp,["list", "tuple"],_,_,rfl,Zd,.bl b,ZkD K,_,rfl,Zb5 ?_⟩
   refine⟨_,rfl,rfl,_,rfl,Zcu (by intro z;cases z) ?_⟩
   refine⟨_,rfl,_, "str",_,_,rfl,.bl b,Zk3 K,_,rfl,Zb5 ?_⟩
   refine⟨_,rfl,_, "bool",_,_,rfl,.bl b,ZiW K,_,rfl,Zfj ?_⟩
   refine⟨_,rfl,_, "bool",_,_,rfl,.bl b,ZiW K,_,rfl,Zfj ?_⟩
   refine⟨_,rfl,_,rfl,rfl,?_⟩
   have e:decide (V.bl b=V.bl b)=true:=decide_eq_true rfl
   rw[e]
   exact q _ sT
  ·refine⟨_,tp,["list", "tuple"],_,_,rfl,Zd,.int i,ZjE K,_,rfl,Zb5 ?_⟩
   refine⟨_,rfl,rfl,_,rfl,Zcu (by intro z;cases z) ?_⟩
   refine⟨_,rfl,_, "str",_,_,rfl,.int i,Zjg K,_,rfl,Zb5 ?_⟩
   refine⟨_,rfl,_, "bool",_,_,rfl,.int i,ZgG K,_,rfl,Zb5 ?_⟩
   refine⟨_,rfl,_, "int",_,_,rfl,.int i,Zjm K,_,rfl,Zfj ?_⟩
   refine⟨_,rfl,_, "bool",_,_,rfl,.int i,ZgG K,_,rfl,_,rfl,Zfj ?_⟩
   refine⟨_,rfl,_,rfl,rfl,?_⟩
   have e:decide (V.int i=V.int i)=true:=decide_eq_true rfl
   rw[e]
   exact q _ sT
  ·refine⟨_,tp,["list", "tuple"],_,_,rfl,Zd,.str z,ZjD K,_,rfl,Zb5 ?_⟩
   refine⟨_,rfl,rfl,_,rfl,Zcu (by intro z;cases z) ?_⟩
   refine⟨_,rfl,_, "str",_,_,rfl,.str z,Zd8 K,_,rfl,Zfj ?_⟩
   refine⟨_,rfl,_,rfl,rfl,_,rfl,ZdT rfl ?_⟩
   exact⟨_,rfl,_, "str",_,_,rfl,.str z,Zd8 K,_,rfl,_, "str",_,_,rfl,.str z,Zd8 K,rfl,q _ sT⟩
  ·have hxT:(upd H tp (.tup (["list", "tuple"].map V.ty))) p=some (.lst xs):=by rw[Zc (Zb hp htp)];exact hp
   have hyT:(upd H tp (.tup (["list", "tuple"].map V.ty))) q2=some (.lst ys):=by rw[Zc (Zb hq htp)];exact hq
   refine⟨_,tp,["list", "tuple"],_,_,rfl,Zd,.lst hyT,Zjq K,_,rfl,Zfj ?_⟩
   refine⟨_,rfl,_, "list",_,_,rfl,.lst hxT,ZfD K,_,rfl,_, "list",_,_,rfl,.lst hyT,ZfD K,rfl,_,rfl,ZfR rfl ?_⟩
   refine⟨_,rfl,_, "tuple",_,_,rfl,.lst hxT,ZfO K,_,rfl,_, "tuple",_,_,rfl,.lst hyT,ZfO K,rfl,_,rfl,ZfR rfl ?_⟩
   refine⟨_,rfl,p,xs,rfl,.inl (SqL.of hxT),_,rfl,q2,ys,rfl,.inl (SqL.of hyT),rfl,_,rfl,ZdT (by rw[hl]) ?_⟩
   refine⟨_,rfl,_,rfl,.l p,.l q2,xs,ys,rfl,SqL.of hxT,SqL.of hyT,fun D hD=>?_⟩
   have sD:Zu H (upd H tp (.tup (["list", "tuple"].map V.ty))):=Zj htp _
   refine Zhv (K:=K) (xs:=xs) (ys:=ys) (fun i zs σ H2=>(∃v1 v2,σ=[some (.ref p),some (.ref q2),v1,v2])∧zs=List.replicate i (.bl true)∧Zu H H2∧H2 D=some (.lst zs)∧i≤xs.length) ?_ ?_ ?_ ?_
   ·exact⟨⟨none,none,rfl⟩,rfl,sD.trans (Zj hD _),Zd,Qr _⟩
   ·rintro i zs σ H2 ⟨_,_,s2,_⟩
    exact⟨SqL.of (s2 _ _ hp),SqL.of (s2 _ _ hq)⟩
   ·rintro i zs σ H2 x' y' r hx' hy' ⟨⟨v1,v2,rfl⟩,rfl,s2,hD2,hiz⟩ hr
    have hil:i<xs.length:=(Qf.mp hx').1
    have nDr:D≠r:=Zb hD2 hr
    have s3:Zu H (upd H2 r (.tup [x',y'])):=s2.trans (Zj hr _)
    refine⟨r,_,rfl,SqT.of Zd,rfl,_,_,rfl,_,_,rfl,rfl,?_⟩
    refine⟨_,rfl,_,rfl,x',y',rfl,(hi i x' y' hx' hy').mono s3,fun H' s'=>?_⟩
    have hD':H' D=some (.lst (List.replicate i (.bl true))):=s' _ _ (by rw[Zc nDr];exact hD2)
    refine⟨hD',(by rw[Qag];exact ZY (by omega)),⟨_,_,rfl⟩,?_,?_,Zd,hil⟩
    ·rw[List.replicate_succ']
    ·intro b o e
     have e1:=s' b o (s3 b o e)
     rw[Zc (fun z=>by subst z;exact nomatch (sD b o e).symm.trans hD)]
     exact e1
   ·rintro zs σ H2 ⟨_,rfl,s2,hD2,_⟩
    refine⟨D,List.replicate (min xs.length ys.length) true,rfl,SqL.of (by rw[List.map_replicate];exact hD2),?_⟩
    have e:(List.replicate (min xs.length ys.length) true).all id=true:=by rw[Qam];intro b hb;exact(List.eq_of_mem_replicate hb)
    rw[e]
    exact q H2 s2
  ·have hxT:(upd H tp (.tup (["list", "tuple"].map V.ty))) p=some (.tup xs):=by rw[Zc (Zb hp htp)];exact hp
   have hyT:(upd H tp (.tup (["list", "tuple"].map V.ty))) q2=some (.tup ys):=by rw[Zc (Zb hq htp)];exact hq
   refine⟨_,tp,["list", "tuple"],_,_,rfl,Zd,.tup hyT,Zi8 K,_,rfl,Zfj ?_⟩
   refine⟨_,rfl,_, "list",_,_,rfl,.tup hxT,Zf3 K,_,rfl,_, "list",_,_,rfl,.tup hyT,Zf3 K,rfl,_,rfl,ZfR rfl ?_⟩
   refine⟨_,rfl,_, "tuple",_,_,rfl,.tup hxT,Zfu K,_,rfl,_, "tuple",_,_,rfl,.tup hyT,Zfu K,rfl,_,rfl,ZfR rfl ?_⟩
   refine⟨_,rfl,p,xs,rfl,.inr (SqT.of hxT),_,rfl,q2,ys,rfl,.inr (SqT.of hyT),rfl,_,rfl,ZdT (by rw[hl]) ?_⟩
   refine⟨_,rfl,_,rfl,.t p,.t q2,xs,ys,rfl,SqT.of hxT,SqT.of hyT,fun D hD=>?_⟩
   have sD:Zu H (upd H tp (.tup (["list", "tuple"].map V.ty))):=Zj htp _
   refine Zhv (K:=K) (xs:=xs) (ys:=ys) (fun i zs σ H2=>(∃v1 v2,σ=[some (.ref p),some (.ref q2),v1,v2])∧zs=List.replicate i (.bl true)∧Zu H H2∧H2 D=some (.lst zs)∧i≤xs.length) ?_ ?_ ?_ ?_
   ·exact⟨⟨none,none,rfl⟩,rfl,sD.trans (Zj hD _),Zd,Qr _⟩
   ·rintro i zs σ H2 ⟨_,_,s2,_⟩
    exact⟨SqT.of (s2 _ _ hp),SqT.of (s2 _ _ hq)⟩
   ·rintro i zs σ H2 x' y' r hx' hy' ⟨⟨v1,v2,rfl⟩,rfl,s2,hD2,hiz⟩ hr
    have hil:i<xs.length:=(Qf.mp hx').1
    have nDr:D≠r:=Zb hD2 hr
    have s3:Zu H (upd H2 r (.tup [x',y'])):=s2.trans (Zj hr _)
    refine⟨r,_,rfl,SqT.of Zd,rfl,_,_,rfl,_,_,rfl,rfl,?_⟩
    refine⟨_,rfl,_,rfl,x',y',rfl,(hi i x' y' hx' hy').mono s3,fun H' s'=>?_⟩
    have hD':H' D=some (.lst (List.replicate i (.bl true))):=s' _ _ (by rw[Zc nDr];exact hD2)
    refine⟨hD',(by rw[Qag];exact ZY (by omega)),⟨_,_,rfl⟩,?_,?_,Zd,hil⟩
    ·rw[List.replicate_succ']
    ·intro b o e
     have e1:=s' b o (s3 b o e)
     rw[Zc (fun z=>by subst z;exact nomatch (sD b o e).symm.trans hD)]
     exact e1
   ·rintro zs σ H2 ⟨_,rfl,s2,hD2,_⟩
    refine⟨D,List.replicate (min xs.length ys.length) true,rfl,SqL.of (by rw[List.map_replicate];exact hD2),?_⟩
    have e:(List.replicate (min xs.length ys.length) true).all id=true:=by rw[Qam];intro b hb;exact(List.eq_of_mem_replicate hb)
    rw[e]
    exact q H2 s2
theorem Zau.new{H:Hp}{p l:Addr}{c:Int}{o:HO}(h:Zau H p c)(n:H l=none):Zau (upd H l o) p c:=by
 obtain⟨a,b,hp,c0⟩:=h
 exact⟨a,b,by rw[Zc (Zb hp n)];exact hp,c0⟩
theorem Zau.ge{H:Hp}{p:Addr}{c:Int}(h:Zau H p c):0≤c:=by obtain⟨a,b,hp,c0⟩:=h;exact c0
theorem Zau.here{H:Hp}{p:Addr}{c:Int}(h:Zau H p c):∃o,H p=some o:=by obtain⟨a,b,hp,c0⟩:=h;exact⟨_,hp⟩
theorem Zau.at{H:Hp}{p l:Addr}{c:Int}{o:HO}(h:Zau H p c)(n:p≠l):Zau (upd H l o) p c:=by
 obtain⟨a,b,hp,c0⟩:=h
 exact⟨a,b,by rw[Zc n];exact hp,c0⟩
theorem ZgQ:∀ss:List Str,(∀s∈ss,AZ s)→PyData.canLayAll0 (ss.map PyData.str)=true
 | [],_=>rfl
 | x::r,h=>by simp[PyData.canLayAll0,PyData.canLay0,(h x (by simp)).ok,ZgQ r fun s hs=>h s (List.mem_cons_of_mem _ hs)]
theorem ZeH:∀ss:List Str,PyData.depthAll (ss.map PyData.str)=0
 | []=>rfl
 | _::r=>by simp[PyData.depthAll,PyData.depth,ZeH r]
theorem ZgX(ss:List Str)(h:∀s∈ss,AZ s):SeqAt.shaped (.list (ss.map PyData.str))=true:=by simp[SeqAt.shaped,PyData.canLay0,PyData.depth,ZgQ ss h,ZeH]
theorem Zis{K:PySem.W.Frag}{H:Hp}:∀ss:List Str,DVs K H (ss.map V.str) (ss.map PyData.str)
 | []=>.nil
 | s::r=>.cons (.str s) (Zis r)
def Zih:Sp:=fun vs H Q _=>∃ (p l:Addr) (c most:Int) (ss:List Str),vs=[.ref p,.ref l,.int most]∧Zau H p c∧c<2 ^ 40∧0≤most∧most≤60∧H l=some (.lst (ss.map V.str))∧1≤ss.length∧ss.length≤4∧(∀s∈ss,s.length≤24∧AZ s) ∧
 ∀ (r:Addr) (ts:List Str) (c':Int) (H':Hp),H r=none→H' r=some (.lst (ts.map V.str))→(ts.length:Int)≤most→(∀s∈ts,s.length≤28∧AZ s)→Zau H' p c'→c≤c'→c'≤c+600→But p H H'→Q (.ref r) H'
theorem Zmf(T:Zak K mg cRow cMerge)(f_l_pick:Df P w K mg base 2 "_law_pick" ["_law_left_here", "_law_many_here"] Zc1)(f_l_key:Df P w K mg base 3 "_law_key" ["_law_left_here", "_law_stems_here"] Zke):Df P w K mg base 4 "_law_keys" ["_law_left_here", "_law_stems_here", "_law_most"] Zih:=by
 refine T.t_l_keys.df Zcd (fun vs H Q E h=>?_) (fun cdv f A outer s H vs Q E hr h=>?_)
 ·obtain⟨p,l,c,most,ss,rfl,_⟩:=h
  rfl
 obtain⟨p,l,c,most,ss,rfl,hL,c1,m0,m1,hl,n1,n4,h24,q⟩:=h
 refine⟨_,#[Zg,#[Zy,3,Zcd.nd,(Or.inl rfl),#[ZaX,#[Zf]]],#[Zg,#[ZcI,PassesOwn.never,#[Zbw,T.b.n_range,#[Za,#[ZC,f_l_pick,hr,#[Za,‹0›,#[Za,#[Zab,Zbp,‹2›,#[Zh]],#[Zf]]],(by rfl)],#[Zf]]],#[ZL,4,Zcd.nd],#[Zg,#[Zy,5,Zcd.nd,(Or.inl rfl),#[ZC,f_l_key,hr,#[Za,‹0›,#[Za,‹1›,#[Zf]]],(by rfl)]],#[Zg,#[Zaw,(@PW.pt _ _ _ #[ZdA,#[Zt,(@neD _ K _ hr (by rfl)),‹3›,#[ZaX,#[Zf]],(Zw _)],(@Zc4 _ _ _ _ #[Zt,Zbo,#[ZC,f_l_pick,hr,#[Za,‹0›,#[Za,#[Zh],#[Zf]]],(by rfl)],#[Zh],(Zw _)])]),#[Zi,#[Zy,5,Zcd.nd,(Or.inl rfl),#[ZN,(ixL K),‹3›,#[ZC,f_l_pick,hr,#[Za,‹0›,#[Za,#[Zo,(Zdq K),(by rfl),T.b.n_len,QC,#[Za,‹3›,#[Zf]]],#[Zf]]],(by rfl)]]]],(@ZS _)],#[Zi,#[ZaG,#[Zdm,QH,QO,QP,ZaZ,‹3›,#[Za,‹5›,#[Zf]]]]]]]],#[Zi,#[Zr,‹3›]]]],?_⟩
 have c0:=hL.ge
 refine⟨(by show 0≤sizeLine;decide),fun r hr0=>?_⟩
 have npr:p≠r:=by obtain⟨o,ho⟩:=hL.here;exact Zb ho hr0
 have nlr:l≠r:=Zb hl hr0
 have npl:p≠l:=by
  obtain⟨a,b,hp,_⟩:=hL
  refine ZkQ hp hl fun e=>?_
  cases ss with
  | nil=>exact absurd (congrArg List.length (HO.lst.inj e)) (by simp)
  | cons x r=>exact absurd (HO.lst.inj e) (by intro z;cases z)
 refine⟨_,rfl,_,rfl,_,_,rfl,rfl,p,c,_,rfl,hL.new hr0,by omega,by omega,by omega,fun n H1 w0 w1 L1 B1=>?_⟩
 refine⟨_,rfl,by omega,by omega,?_⟩
 have hr1:H1 r=some (.lst []):=B1 r _ Zd npr.symm
 have B01:But p H H1:=(But.same (Zj hr0 _)).trans B1
 refine Zc3 (fun i σ H2=>∃ (ts:List Str) (v1 v2:Option V) (c2:Int),σ=[some (.ref p),some (.ref l),some (.int most),some (.ref r),v1,v2]∧H2 r=some (.lst (ts.map V.str))∧ts.length=i∧(∀s∈ts,s.length≤28∧AZ s)∧Zau H2 p c2∧c+1≤c2∧c2≤c+1+8*i∧(∀b o,H b=some o→b≠p→H2 b=some o)) ⟨[],none,none,c+1,rfl,hr1,rfl,(fun s hs=>by cases hs),L1,by omega,by omega,B01⟩ ?_ ?_
 ·rintro i σ H2 hi ⟨ts,v1,v2,c2,rfl,hr2,hn,h28,L2,a1,a2,B2⟩
  have hi60:(i:Int)<61:=by omega
  have hl2:=B2 l _ hl npl.symm
  refine⟨_,rfl,_,rfl,p,l,c2,ss,rfl,L2,by omega,hl2,n1,n4,h24,fun key c3 H3 hkey hkaz L3 a3 a4 B3=>?_⟩
  have hr3:=B3 r _ hr2 npr.symm
  have fin:∀ (k2:Str) (c4:Int) (H4:Hp),k2.length≤28∧AZ k2→Zau H4 p c4→c2≤c4→c4≤c2+8→H4 r=some (.lst (ts.map V.str))→(∀b o,H b=some o→b≠p→H4 b=some o) →
    ∃ (ts':List Str) (v1 v2:Option V) (c5:Int),[some (V.ref p),some (V.ref l),some (V.int most),some (V.ref r),some (V.int (0+(i:Int))),some (V.str k2)]=[some (.ref p),some (.ref l),some (.int most),some (.ref r),v1,v2] ∧
     (upd H4 r (.lst (ts.map V.str++[.str k2]))) r=some (.lst (ts'.map V.str))∧ts'.length=i+1∧(∀s∈ts',s.length≤28∧AZ s)∧Zau (upd H4 r (.lst (ts.map V.str++[.str k2]))) p c5∧c+1≤c5∧c5≤c+1+8*((i+1:Nat):Int) ∧
     (∀b o,H b=some o→b≠p→(upd H4 r (.lst (ts.map V.str++[.str k2]))) b=some o):=fun k2 c4 H4 hk L4 b1 b2 hr4 B4=>by
   refine⟨ts++[k2],_,_,c4,rfl,?_,by rw[Qp,hn];rfl,?_,L4.at npr,by omega,by omega,fun b o e n=>?_⟩
   ·rw[Zd,Qe];rfl
   ·intro x hx
    rcases Qq.mp hx with hx|hx
    ·exact h28 x hx
    ·rw[Ql.mp hx];exact hk
   ·rw[Zc (Zb e hr0)]
    exact B4 b o e n
  have hlt:(ts.map V.str).length<sizeLine:=by rw[Qa,hn];exact ZY (by omega)
  refine⟨_,rfl,(by show 0≤sizeLine;decide),fun e he=>?_⟩
  have hr3':(upd H3 e (.lst [])) r=some (.lst (ts.map V.str)):=by rw[Zc (Zb hr3 he)];exact hr3
  refine⟨.list (ts.map PyData.str),.list [],.lst (SqL.of hr3') (Zis ts),.lst (SqL.of Zd) .nil,ZgX ts (fun s h=>(h28 s h).2),(by ac_rfl),_,rfl,?_⟩
  have B3':∀b o,H b=some o→b≠p→(upd H3 e (.lst [])) b=some o:=fun b o z n=>Zj he _ b o (B3 b o (B2 b o z n) n)
  cases ts with
  | nil =>
   have ev:(if true=true then !PyData.eqv (.list (([]:List Str).map PyData.str)) (.list []) else PyData.eqv (.list (([]:List Str).map PyData.str)) (.list []))=false:=by ac_rfl
   rw[ev]
   refine Zb5 (Zb5 ?_)
   refine⟨_,rfl,.inl ⟨rfl,_,SqL.of hr3'⟩,_,rfl,r,_,_,rfl,rfl,hr3',hlt,?_⟩
   exact fin key c3 _ ⟨hkey,hkaz⟩ (L3.new he) (by omega) (by omega) hr3' B3'
  | cons t0 tr =>
   have ev:(if true=true then !PyData.eqv (.list ((t0::tr).map PyData.str)) (.list []) else PyData.eqv (.list ((t0::tr).map PyData.str)) (.list []))=true:=by simp[PyData.eqv,PyData.eqvAll]
   rw[ev]
   refine Zfj ⟨_,rfl,p,c3,_,rfl,L3.new he,by omega,by decide,by decide,fun d H5 d0 d1 L5 B5=>?_⟩
   have hr5:=B5 r _ hr3' npr.symm
   refine⟨rfl,_,rfl,Zbt (fun _=>?_) (fun _=>?_)⟩
   ·have hlen:((((t0::tr).map V.str).length:Nat):Int)=((t0::tr).length:Int):=by rw[Qa]
    have hpos:(0:Int)<((t0::tr).length:Int):=by simp
    refine⟨_,rfl,_,rfl,_,rfl,r,_,rfl,.inl (SqL.of hr5),p,c3+1,_,rfl,L5,by omega,by omega,by omega,fun d' H6 d0' d1' L6 B6=>?_⟩
    obtain⟨st,hs1,hs2⟩:=ZhQ (ss:=t0::tr) d0' (by omega)
    have hr6:=B6 r _ hr5 npr.symm
    refine(xw4 r _ _ _ ⟨rfl,rfl,SqL.of hr6,hs2,?_⟩)
    refine⟨_,rfl,.inl ⟨rfl,_,SqL.of hr6⟩,_,rfl,r,_,_,rfl,rfl,hr6,hlt,?_⟩
    exact fin st _ _ (h28 st hs1) L6 (by omega) (by omega) hr6 fun b o z n=>B6 b o (B5 b o (B3' b o z n) n) n
   ·refine⟨_,rfl,.inl ⟨rfl,_,SqL.of hr5⟩,_,rfl,r,_,_,rfl,rfl,hr5,hlt,?_⟩
    exact fin key _ _ ⟨hkey,hkaz⟩ L5 (by omega) (by omega) hr5 fun b o z n=>B5 b o (B3' b o z n) n
 ·rintro σ H2 ⟨ts,v1,v2,c2,rfl,hr2,hn,h28,L2,a1,a2,B2⟩
  exact⟨_,rfl,q r ts c2 H2 hr0 hr2 (by omega) h28 L2 (by omega) (by omega) B2⟩
def Zb6(ss:List Str)(i:Nat):Int:=if i=0 then 0 else (lcp (cds (ss.getD (i-1) "")) (cds (ss.getD i "")):Nat)
def Zfa(K:PySem.W.Frag):Sp:=fun vs H Q _=>∃ (a:Addr) (ss:List Str),vs=[.ref a]∧SqL K H a (ss.map V.str)∧ss.length≤800∧(∀s∈ss,s.length≤1000) ∧
 ∀ (r:Addr) (H':Hp),H r=none→H' r=some (.lst ((List.range ss.length).map fun j=>.int (Zb6 ss j)))→Zu H H'→Q (.ref r) H'
theorem ZjP(T:Zak K mg cRow cMerge)(f_alike:Df P w K mg base 2 "alike" ["one", "other"] Zex):Df P w K mg base 3 "alikes" ["row"] (Zfa K):=by
 refine T.t_alikes.df Zdb (fun vs H Q E h=>?_) (fun cdv f A outer s H vs Q E hr h=>?_)
 ·obtain⟨a,ss,rfl,_⟩:=h
  rfl
 obtain⟨a,ss,rfl,hS,hn,hlen,q⟩:=h
 refine⟨_,#[Zg,#[Zy,1,Zdb.nd,(Or.inl rfl),#[ZaX,#[Zf]]],#[Zg,#[ZcI,PassesOwn.never,(@iE _ K _ _ _ _ _ _ _ T.b.n_enumerate #[Za,‹0›,#[Zf]] (by rfl) (by rfl) (by rfl)),#[gT,K,2,#[Zz,#[ZL,2,Zdb.nd],#[Zz,#[ZL,3,Zdb.nd],(@ZaW _)]]],#[Zi,#[ZaG,#[Zdm,QH,QO,QP,ZaZ,‹1›,#[Za,#[Zbm,#[Zt,Zbo,‹2›,#[Zh],(Zw _)],#[Zh],#[ZC,f_alike,hr,#[Za,#[ZN,(ixL K),‹0›,#[Zab,Zgp,‹2›,#[Zh]]],#[Za,‹3›,#[Zf]]],(by rfl)]],#[Zf]]]]]],#[Zi,#[Zr,‹1›]]]],?_⟩
 refine⟨(by show 0≤sizeLine;decide),fun r hr0=>?_⟩
 have s1:Zu H (upd H r (.lst [])):=Zj hr0 _
 refine⟨_,rfl,a,ss.map V.str,rfl,s1.seq hS,?_⟩
 refine Zg9 (K:=K) (a:=a) (xs:=ss.map V.str) (fun i σ H2=>(∃v1 v2:Option V,σ=[some (.ref a),some (.ref r),v1,v2])∧H2 r=some (.lst ((List.range i).map fun j=>.int (Zb6 ss j)))∧Zu H H2∧i≤ss.length) ⟨⟨none,none,rfl⟩,Zd,s1,Qr _⟩ (fun _ _ _ hq=>by obtain⟨_,_,s2,_⟩:=hq;exact s2.seq hS) ?_ ?_
 ·rintro i x σ H2 p hx ⟨⟨v1,v2,rfl⟩,hr2,s2,hi⟩ hp
  rw[Qs]at hx
  cases hy:ss[i]? with
  | none=>rw[hy]at hx;cases hx
  | some y =>
   rw[hy]at hx
   cases hx
   have hil:i<ss.length:=(Qf.mp hy).1
   have npr:r≠p:=Zb hr2 hp
   have s3:Zu H (upd H2 p (.tup [.int i,.str y])):=s2.trans (Zj hp _)
   have hr3:(upd H2 p (.tup [.int i,.str y])) r=some (.lst ((List.range i).map fun j=>.int (Zb6 ss j))):=by rw[Zc npr];exact hr2
   have hlt:((List.range i).map fun j=>V.int (Zb6 ss j)).length<sizeLine:=by rw[Qa,List.length_range];exact ZY (by omega)
   have fin:∀z:Int,z=Zb6 ss i→(∃v1 v2:Option V,[some (V.ref a),some (V.ref r),some (V.int i),some (V.str y)]=[some (.ref a),some (.ref r),v1,v2]) ∧
     (upd (upd H2 p (.tup [.int i,.str y])) r (.lst (((List.range i).map fun j=>.int (Zb6 ss j))++[.int z]))) r=some (.lst ((List.range (i+1)).map fun j=>.int (Zb6 ss j))) ∧
     Zu H (upd (upd H2 p (.tup [.int i,.str y])) r (.lst (((List.range i).map fun j=>.int (Zb6 ss j))++[.int z])))∧i+1≤ss.length:=fun z e=>by
    refine⟨⟨_,_,rfl⟩,?_,fun b o h=>?_,hil⟩
    ·rw[Zd,List.range_succ,Qe,e];rfl
    ·rw[Zc (Zb h hr0)];exact s3 b o h
   refine⟨p,_,rfl,SqT.of Zd,rfl,_,_,rfl,_,_,rfl,rfl,?_⟩
   refine⟨_,rfl,.inl ⟨rfl,_,SqL.of hr3⟩,_,rfl,rfl,_,rfl,?_⟩
   by_cases e0:i=0
   ·subst e0
    exact ZdT rfl ⟨r,_,_,rfl,rfl,hr3,hlt,fin 0 rfl⟩
   ·have hprev:i-1<ss.length:=by omega
    have ei:((i:Int)-1)=((i-1:Nat):Int):=by omega
    have hat:atI (ss.map V.str) ((i:Int)-1)=some (.str ss[i-1]):=by rw[ei];exact Zaz (by rw[Qs,Qb hprev]<;>rfl)
    refine Zcu (fun z=>by injection z with z;omega) ⟨_,rfl,_,rfl,_,_,rfl,rfl,xw4 a _ _ _ ⟨rfl,rfl,s3.seq hS,hat,_,rfl,ss[i-1],y,rfl,hlen _ (Q6 hprev),hlen _ (Qy hy),r,_,_,rfl,rfl,hr3,hlt,fin _ ?_⟩⟩
    unfold Zb6
    rw[if_neg e0,QB,QB,Qb hprev,hy]
    rfl
 ·rintro σ H2 ⟨⟨v1,v2,rfl⟩,hr2,s2,hi⟩
  rw[Qa]at hr2
  exact⟨_,rfl,q r H2 hr0 hr2 s2⟩
def ZF:List Nat→List Nat→Int
 | [],[]=>0
 | [],_::_ =>-1
 | _::_,[]=>1
 | a::r,b::s=>if a=b then ZF r s else if a<b then -1 else 1
theorem ZfJ:∀ (x y:List Nat),Spec.ltCps y x=false→ZF x y≤0
 | [],[],_=>by unfold ZF;omega
 | [],_::_,_=>by unfold ZF;omega
 | _::_,[],h=>by unfold Spec.ltCps at h;cases h
 | a::r,b::s,h=>by
  have ih:=ZfJ r s
  unfold Spec.ltCps at h
  unfold ZF
  rw[Bool.or_eq_false_iff,Bool.and_eq_false_iff]at h
  obtain⟨h1,h2⟩:=h
  have h1':¬ b<a:=of_decide_eq_false h1
  by_cases e:a=b
  ·rw[if_pos e]
   rcases h2 with z|z
   ·rw[e]at z;simp at z
   ·exact ih z
  ·rw[if_neg e,if_pos (by omega)]
   omega
theorem Zcp:∀ (x y z:List Nat),ZF x y≤0→ZF y z≤0→ZF x z≤0
 | [],_,[],_,_=>by unfold ZF;omega
 | [],_,_::_,_,_=>by unfold ZF;omega
 | _::_,[],_,h,_=>by unfold ZF at h;omega
 | _::_,_::_,[],_,h=>by unfold ZF at h;omega
 | a::r,b::s,c::t,h1,h2=>by
  unfold ZF at h1 h2 ⊢
  have ih:=Zcp r s t
  by_cases e1:a=b
  ·rw[if_pos e1]at h1
   by_cases e2:b=c
   ·rw[if_pos e2]at h2
    rw[if_pos (e1.trans e2)]
    exact ih h1 h2
   ·rw[if_neg e2]at h2
    rw[if_neg (fun e=>e2 (e1.symm.trans e))]
    split at h2
    ·rw[if_pos (by omega)];omega
    ·omega
  ·rw[if_neg e1]at h1
   split at h1
   ·by_cases e2:b=c
    ·rw[if_neg (fun e=>e1 (e.trans e2.symm)),if_pos (by omega)];omega
    ·rw[if_neg e2]at h2
     split at h2
     ·rw[if_neg (by omega),if_pos (by omega)];omega
     ·omega
   ·omega
theorem ZfF:∀ (ss:List Str) (p:Str),risingS p ss=true→∀ (k:Nat) (x y:Str),(p::ss)[k]? = some x→ss[k]? = some y→ZF (cds x) (cds y)≤0
 | [],p,_,k,x,y,_,h=>by simp at h
 | z::r,p,h,0,x,y,h1,h2=>by
  unfold risingS at h
  rw[Q5]at h
  simp at h1 h2
  subst h1 h2
  exact ZfJ _ _ (by simpa using h.1)
 | z::r,p,h,k+1,x,y,h1,h2=>by
  unfold risingS at h
  rw[Q5]at h
  exact ZfF r z h.2 k x y (by simpa using h1) (by simpa using h2)
theorem ZfX{ss:List Str}(h:sortedS ss=true)(k:Nat)(x y:Str)(h1:ss[k]? = some x)(h2:ss[k+1]? = some y):ZF (cds x) (cds y)≤0:=by
 cases ss with
 | nil=>simp at h1
 | cons p r=>exact ZfF r p h k x y h1 (by simpa using h2)
theorem ZiD{ss:List Str}{k:Nat}(h:k<ss.length):atI (ss.map V.str) (k:Int)=some (.str ss[k]):=Zaz (by rw[Qs,Qb h]<;>rfl)
def lawInv(H:Hp)(a p:Addr)(j:Nat)(σ:L2.St)(H4:Hp):Prop:=∃ (u1 u3 u4 u5 u6 u7 u8 u9:Option V) (c:Int),σ=[some (.ref a),u1,some (.ref p),u3,u4,u5,u6,u7,u8,u9]∧Zu H H4∧Zau H4 p c∧c≤700*j
theorem Zau.same{H H':Hp}{p:Addr}{c:Int}(h:Zau H p c)(s:Zu H H'):Zau H' p c:=by obtain⟨b1,b2,hb,c0⟩:=h;exact⟨b1,b2,s _ _ hb,c0⟩
def mid(ns:List Int):Nat:=(ns.length+1) / 2
def Zde(ns:List Int):List Int:=ns.take (mid ns)
def Zfp(ns:List Int):List Int:=ns.drop (mid ns)
theorem Zmx(ns:List Int):((((ns.map V.int).length:Nat):Int)+1) / 2=((mid ns:Nat):Int):=by
 rw[Qa];unfold mid;omega
theorem ZiC{ns:List Int}{k:Int}(h0:0≤k)(h:k<(ns.length:Int)):∃v∈ns,atI (ns.map V.int) k=some (.int v):=by
 have hk:k.toNat<ns.length:=by omega
 have ek:k=((k.toNat:Nat):Int):=by omega
 have q:atI (ns.map V.int) ((k.toNat:Nat):Int)=some (.int ns[k.toNat]):=Zaz (by rw[Qs,Qb hk]<;>rfl)
 rw[← ek]at q
 exact⟨_,Q6 hk,q⟩
theorem Znp(ns:List Int)(m:Nat)(h:m≤ns.length):ZcW (ns.map V.int) none (some (m:Int))=(ns.take m).map V.int:=by
 unfold ZcW
 have e:HT.sIx (ns.map V.int).length (ns.map V.int).length (some (m:Int))=m:=by
  unfold HT.sIx
  simp only[List.length_map]
  rw[if_neg (by omega)]
  omega
 have e0:HT.sIx (ns.map V.int).length 0 none=0:=rfl
 rw[e,e0,List.drop_zero,Nat.sub_zero,List.map_take]
theorem Zlj(ns:List Int)(m:Nat)(h:m≤ns.length):ZcW (ns.map V.int) (some (m:Int)) none=(ns.drop m).map V.int:=by
 unfold ZcW
 have e:HT.sIx (ns.map V.int).length 0 (some (m:Int))=m:=by
  unfold HT.sIx
  simp only[List.length_map]
  rw[if_neg (by omega)]
  omega
 have e0:HT.sIx (ns.map V.int).length (ns.map V.int).length none=(ns.map V.int).length:=rfl
 rw[e,e0,List.map_drop,QD (by rw[QL,Qa];omega)]
theorem ZiF(z:Str):(cds z).length=z.length:=by simp[Str.length]
theorem ZiQ:∀ (x y:List Nat),(lcp x y=x.length→lcp x y=y.length→ZF x y=0)∧(lcp x y=x.length→lcp x y≠y.length→ZF x y = -1)∧(lcp x y≠x.length→lcp x y=y.length→ZF x y=1) ∧
  ∀a b,x[lcp x y]? = some a→y[lcp x y]? = some b→ZF x y=if a<b then -1 else 1
 | [],[]=>⟨fun _ _=>rfl,fun _ h=>absurd rfl h,fun h _=>absurd rfl h,fun a b h _=>by simp at h⟩
 | [],_::_=>⟨fun _ h=>by unfold lcp at h;simp at h,fun _ _=>rfl,fun h _=>absurd rfl h,fun a b h _=>by simp at h⟩
 | _::_,[]=>⟨fun h _=>by unfold lcp at h;simp at h,fun h _=>by unfold lcp at h;simp at h,fun _ _=>rfl,fun a b _ h=>by simp at h⟩
 | a::r,b::s=>by
  obtain⟨h1,h2,h3,h4⟩:=ZiQ r s
  unfold lcp ZF
  by_cases e:a=b
  ·rw[if_pos e,if_pos e]
   simp only[List.length_cons,List.getElem?_cons_succ]
   exact⟨fun p q=>h1 (by omega) (by omega),fun p q=>h2 (by omega) (by omega),fun p q=>h3 (by omega) (by omega),h4⟩
  ·rw[if_neg e,if_neg e]
   simp only[List.length_cons,List.getElem?_cons_zero]
   refine⟨fun p=>by omega,fun p=>by omega,fun _ p=>by omega,fun c d p q=>?_⟩
   cases p;cases q
   rfl
theorem Za4:∀ (x y:List Nat),ZF y x =-ZF x y
 | [],[]=>rfl
 | [],_::_=>rfl
 | _::_,[]=>rfl
 | a::r,b::s=>by
  have ih:=Za4 r s
  unfold ZF
  by_cases e:a=b
  ·rw[if_pos e,if_pos e.symm,ih]
  ·rw[if_neg e,if_neg fun z=>e z.symm]
   by_cases l:a<b
   ·rw[if_pos l,if_neg (by omega)];rfl
   ·rw[if_neg l,if_pos (by omega)]
theorem Zm8(a b:Nat):decide ((⟨#[a]⟩:Str).cps.toList<(⟨#[b]⟩:Str).cps.toList)=decide (a<b):=by
 have e:([a]:List Nat)<[b]↔a<b:=by
  constructor
  ·intro h
   cases h with
   | rel h=>exact h
   | cons h=>cases h
  ·exact fun h=>List.Lex.rel h
 exact decide_eq_decide.mpr e
theorem ZfL:∀x:List Nat,ZF x x=0
 | []=>rfl
 | a::r=>by unfold ZF;rw[if_pos rfl];exact ZfL r
theorem Zeh:∀ (x y:List Nat),ZF x y=0→x=y
 | [],[],_=>rfl
 | [],_::_,h=>by unfold ZF at h;omega
 | _::_,[],h=>by unfold ZF at h;omega
 | a::r,b::s,h=>by
  unfold ZF at h
  by_cases e:a=b
  ·rw[if_pos e]at h
   rw[e,Zeh r s h]
  ·rw[if_neg e]at h
   split at h<;>omega
def Zge:Sp:=fun vs H Q _=>∃x y:Str,vs=[.str x,.str y]∧x.length≤1000∧y.length≤1000∧Q (.int (ZF (cds x) (cds y))) H
def Zey:Sp:=fun vs H Q _=>∃x y:Str,vs=[.str x,.str y,.int (lcp (cds x) (cds y):Nat)]∧x.length≤1000∧y.length≤1000∧Q (.int (ZF (cds x) (cds y))) H
theorem Zk4(T:Zak K mg cRow cMerge):Df P w K mg base 1 "order_at" ["one", "other", "at"] Zey:=by
 refine T.t_order_at.df Zg0 (fun vs H Q E h=>?_) (fun cdv f A outer s H vs Q E hr h=>?_)
 ·obtain⟨x,y,rfl,_⟩:=h
  rfl
 obtain⟨x,y,rfl,hx,hy,q⟩:=h
 refine⟨_,#[Zg,#[Zaw,(@PW.pt _ _ _ #[ZdA,#[Zt,Zbo,‹2›,#[Zo,ZaO,(by rfl),T.b.n_len,QC,#[Za,‹0›,#[Zf]]],(Zw _)],(@Zc4 _ _ _ _ #[Zt,Zbo,‹2›,#[Zo,ZaO,(by rfl),T.b.n_len,QC,#[Za,‹1›,#[Zf]]],(Zw _)])]),#[Zi,#[Zr,#[Zh]]],(@ZS _)],#[Zg,#[Zaw,#[Zt,Zbo,‹2›,#[Zo,ZaO,(by rfl),T.b.n_len,QC,#[Za,‹0›,#[Zf]]],(Zw _)],#[Zi,#[Zr,(@Zhx _ _ _ _ _ _ Ze4 #[Zh])]],(@ZS _)],#[Zg,#[Zaw,#[Zt,Zbo,‹2›,#[Zo,ZaO,(by rfl),T.b.n_len,QC,#[Za,‹1›,#[Zf]]],(Zw _)],#[Zi,#[Zr,#[Zh]]],(@ZS _)],#[Zi,#[Zr,#[Zbm,#[Zt,Zjd,#[ZN,Ze8,‹0›,‹2›],#[ZN,Ze8,‹1›,‹2›],(Zw _)],(@Zhx _ _ _ _ _ _ Ze4 #[Zh]),#[Zh]]]]]]],?_⟩
 obtain⟨o1,o2,o3,o4⟩:=ZiQ (cds x) (cds y)
 have ll:=Zez (cds x) (cds y)
 have lx:=ZiF x
 have ly:=ZiF y
 have inj:∀ {m n:Nat},V.int (m:Int)=V.int (n:Int)→m=n:=fun {m n} e=>by injection e with e;omega
 refine⟨_,rfl,_,rfl,x,rfl,Zcs hx,rfl,_,rfl,Zbt (fun d=>?_) (fun d=>?_)⟩
 ·have d1:=inj (of_decide_eq_true d)
  refine⟨_,rfl,_,rfl,y,rfl,Zcs hy,rfl,_,rfl,Zbt (fun d2=>?_) (fun d2=>?_)⟩
  ·have d2':=inj (of_decide_eq_true d2)
   rw[o1 (by omega) (by omega)]at q
   exact q
  ·have d2':¬ lcp (cds x) (cds y)=y.length:=fun e=>d2 (by rw[e];exact decide_eq_true rfl)
   refine⟨_,rfl,_,rfl,x,rfl,Zcs hx,rfl,_,rfl,ZdT (by rw[d1]) ?_⟩
   rw[o2 (by omega) (by omega)]at q
   exact⟨_,rfl,q⟩
 ·have d1:¬ lcp (cds x) (cds y)=x.length:=fun e=>d (by rw[e];exact decide_eq_true rfl)
  refine Zb5 ⟨_,rfl,_,rfl,x,rfl,Zcs hx,rfl,_,rfl,Zcu (fun e=>d1 (inj e)) ?_⟩
  refine⟨_,rfl,_,rfl,y,rfl,Zcs hy,rfl,_,rfl,Zbt (fun d2=>?_) (fun d2=>?_)⟩
  ·have d2':=inj (of_decide_eq_true d2)
   rw[o3 (by omega) (by omega)]at q
   exact q
  ·have d2':¬ lcp (cds x) (cds y)=y.length:=fun e=>d2 (by rw[e];exact decide_eq_true rfl)
   obtain⟨a,ha,ha'⟩:=ZdM (z:=x) (k:=(lcp (cds x) (cds y):Nat)) (by omega) (by omega)
   obtain⟨b,hb,hb'⟩:=ZdM (z:=y) (k:=(lcp (cds x) (cds y):Nat)) (by omega) (by omega)
   rw[Int.toNat_natCast]at ha hb
   refine⟨_,rfl,_,rfl,x,_,a,rfl,rfl,Zcs hx,ha',_,rfl,_,rfl,y,_,b,rfl,rfl,Zcs hy,hb',_,_,rfl,rfl,_,rfl,?_⟩
   rw[Zm8]
   rw[o4 a b ha hb]at q
   refine Zbt (fun e=>?_) (fun e=>?_)
   ·rw[if_pos (of_decide_eq_true e)]at q
    exact⟨_,rfl,q⟩
   ·rw[if_neg (fun z=>e (decide_eq_true z))]at q
    exact q
theorem Zln(T:Zak K mg cRow cMerge)(f_alike:Df P w K mg base 2 "alike" ["one", "other"] Zex)(f_order_at:Df P w K mg base 1 "order_at" ["one", "other", "at"] Zey):Df P w K mg base 3 "liken" ["one", "other"] Zge:=by
 refine T.t_liken.df Zka (fun vs H Q E h=>?_) (fun cdv f A outer s H vs Q E hr h=>?_)
 ·obtain⟨x,y,rfl,_⟩:=h
  rfl
 obtain⟨x,y,rfl,hx,hy,q⟩:=h
 refine⟨_,#[Zi,#[Zr,#[ZC,f_order_at,hr,#[Za,‹0›,#[Za,‹1›,#[Za,#[ZC,f_alike,hr,#[Za,‹0›,#[Za,‹1›,#[Zf]]],(by rfl)],#[Zf]]]],(by rfl)]]],?_⟩
 exact⟨_,rfl,_,rfl,_,rfl,_,rfl,x,y,rfl,hx,hy,x,y,rfl,hx,hy,q⟩
theorem ZmN{c A B:Prop}[Decidable c](hc:¬ c)(h:A):if (!decide c)=true then A else B:=by
 rw[if_pos (by rw[decide_eq_false hc];rfl)]
 exact h
def ZcK:Sp:=fun vs H Q _=>∃ (x y:Str) (far:Nat),vs=[.str x,.str y,.int far]∧x.length≤1000∧y.length≤1000∧far≤lcp (cds x) (cds y) ∧
 ∀t,H t=none→Q (.ref t) (upd H t (.tup [.int (ZF (cds x) (cds y)),.int (lcp (cds x) (cds y):Nat),.int ((lcp (cds x) (cds y):Nat)-(far:Int)+1)]))
theorem Zfh(T:Zak K mg cRow cMerge)(f_alike_from:Df P w K mg base 1 "alike_from" ["one", "other", "far"] ZbQ)(f_order_at:Df P w K mg base 1 "order_at" ["one", "other", "at"] Zey):Df P w K mg base 2 "liken_from" ["one", "other", "far"] ZcK:=by
 refine T.t_liken_from.df Zdn (fun vs H Q E h=>?_) (fun cdv f A outer s H vs Q E hr h=>?_)
 ·obtain⟨x,y,far,rfl,_⟩:=h
  rfl
 obtain⟨x,y,far,rfl,hx,hy,hf,q⟩:=h
 refine⟨_,#[Zg,#[Zy,3,Zdn.nd,(Or.inl rfl),#[ZC,f_alike_from,hr,#[Za,‹0›,#[Za,‹1›,#[Za,‹2›,#[Zf]]]],(by rfl)]],#[Zi,#[Zr,#[ZaP,#[Za,#[ZC,f_order_at,hr,#[Za,‹0›,#[Za,‹1›,#[Za,‹3›,#[Zf]]]],(by rfl)],#[Za,‹3›,#[Za,#[Zab,Zbp,#[Zab,Zgp,‹3›,‹2›],#[Zh]],#[Zf]]]]]]]],?_⟩
 refine⟨_,rfl,_,rfl,_,rfl,x,y,far,rfl,hx,hy,hf,?_⟩
 refine⟨_,rfl,_,rfl,_,rfl,x,y,rfl,hx,hy,?_⟩
 refine⟨_,rfl,_,rfl,_,rfl,_,_,rfl,rfl,_,_,rfl,rfl,(by show 3≤sizeLine;decide),fun t ht=>?_⟩
 exact q t ht
def Zhy(ss:List Str)(v:V):Prop :=
 (v=.non∧∀i x y,ss[i+1]? = some x→ss[i]? = some y→0≤ZF (cds x) (cds y)) ∨
 ∃k:Nat,v=.int ((k+1:Nat):Int)∧k+1<ss.length∧(∀x y,ss[k+1]? = some x→ss[k]? = some y→ZF (cds x) (cds y)<0)∧∀i,i<k→∀x y,ss[i+1]? = some x→ss[i]? = some y→0≤ZF (cds x) (cds y)
theorem Zmw{ss:List Str}{v v':V}(h:Zhy ss v)(h':Zhy ss v'):v=v':=by
 rcases h with⟨rfl,a⟩|⟨k,rfl,l,b,c⟩
 ·rcases h' with⟨rfl,_⟩|⟨k',rfl,l',b',_⟩
  ·rfl
  ·have:=a k' _ _ (Qb l') (Qb (by omega))
   have:=b' _ _ (Qb l') (Qb (by omega))
   omega
 ·rcases h' with⟨rfl,a⟩|⟨k',rfl,l',b',c'⟩
  ·have:=a k _ _ (Qb l) (Qb (by omega))
   have:=b _ _ (Qb l) (Qb (by omega))
   omega
  ·have e:k=k':=by
    rcases Nat.lt_trichotomy k k' with h|h|h
    ·have:=c' k h _ _ (Qb l) (Qb (by omega))
     have:=b _ _ (Qb l) (Qb (by omega))
     omega
    ·exact h
    ·have:=c k' h _ _ (Qb l') (Qb (by omega))
     have:=b' _ _ (Qb l') (Qb (by omega))
     omega
   rw[e]
def Zj4(K:PySem.W.Frag):Sp:=fun vs H Q _=>∃ (a:Addr) (ss:List Str),vs=[.ref a]∧SqL K H a (ss.map V.str)∧ss.length≤800∧(∀s∈ss,s.length≤1000)∧∀ (v:V) (H':Hp),Zhy ss v→Zu H H'→Q v H'
theorem Zlz(T:Zak K mg cRow cMerge)(f_liken:Df P w K mg base 3 "liken" ["one", "other"] Zge):Df P w K mg base 4 "first_break" ["keys"] (Zj4 K):=by
 refine T.t_first_break.df ZcH (fun vs H Q E h=>?_) (fun cdv f A outer s H vs Q E hr h=>?_)
 ·obtain⟨a,ss,rfl,_⟩:=h
  rfl
 obtain⟨a,ss,rfl,hS,hn,hlen,q⟩:=h
 refine⟨_,#[Zg,#[ZcI,PassesOwn.never,(@ZjB _ _ _ _ _ _ _ rfl T.b.n_range #[Za,#[Zh],#[Za,#[Zo,(Zdq K),(by rfl),T.b.n_len,QC,#[Za,‹0›,#[Zf]]],#[Zf]]] (by rfl) (by rfl)),#[ZL,1,ZcH.nd],#[Zi,#[Zaw,#[Zt,Ze0,#[ZC,f_liken,hr,#[Za,#[ZN,(ixL K),‹0›,‹1›],#[Za,#[ZN,(ixL K),‹0›,#[Zab,Zgp,‹1›,#[Zh]]],#[Zf]]],(by rfl)],#[Zh],(Zw _)],#[Zi,#[Zr,‹1›]],(@ZS _)]]],#[Zi,#[Zr,#[Zaj]]]],?_⟩
 have hl:(((ss.map V.str).length:Nat):Int)=(ss.length:Int):=by rw[Qa]
 refine⟨_,rfl,a,_,rfl,.inl hS,_,_,rfl,⟨by omega,by omega,by omega,by omega⟩,?_⟩
 refine Zc3 (fun i σ H2=>(∃v:Option V,σ=[some (.ref a),v])∧Zu H H2∧∀j,j<i→∀x y,ss[j+1]? = some x→ss[j]? = some y→0≤ZF (cds x) (cds y)) ⟨⟨none,rfl⟩,Zu.refl H,fun j h=>by omega⟩ ?_ ?_
 ·rintro i σ H2 hi ⟨⟨v,rfl⟩,s2,h2⟩
  have hi1:i+1<ss.length:=by omega
  have e1:(1+(i:Int))=((i+1:Nat):Int):=by omega
  have e0:(1+(i:Int)-1)=((i:Nat):Int):=by omega
  refine⟨_,rfl,_,rfl,xw4 a _ _ _ ⟨rfl,rfl,s2.seq hS,(by rw[e1];exact ZiD hi1),_,rfl,_,rfl,_,_,rfl,rfl,xw4 a _ _ _ ⟨rfl,rfl,s2.seq hS,(by rw[e0];exact ZiD (by omega)),ss[i+1],ss[i],rfl,hlen _ (Q6 hi1),hlen _ (Q6 (by omega)),_,_,rfl,rfl,_,rfl,?_⟩⟩⟩
  refine Zbt (fun d=>?_) (fun d=>?_)
  ·have d':ZF (cds ss[i+1]) (cds ss[i])<0:=of_decide_eq_true d
   refine⟨_,rfl,q _ H2 (.inr ⟨i,by rw[e1],hi1,fun x y h1 h0=>?_,h2⟩) s2⟩
   rw[Qb hi1]at h1
   rw[Qb (by omega)]at h0
   cases h1;cases h0
   omega
  ·have d':¬ ZF (cds ss[i+1]) (cds ss[i])<0:=fun z=>d (decide_eq_true z)
   refine⟨⟨_,rfl⟩,s2,fun j hj x y h1 h0=>?_⟩
   by_cases ej:j=i
   ·subst ej
    rw[Qb hi1]at h1
    rw[Qb (by omega)]at h0
    cases h1;cases h0
    omega
   ·exact h2 j (by omega) x y h1 h0
 ·rintro σ H2 ⟨⟨v,rfl⟩,s2,h2⟩
  refine q _ H2 (.inl ⟨rfl,fun j x y h1 h0=>?_⟩) s2
  have:=(Qf.mp h1).1
  exact h2 j (by omega) x y h1 h0
def ZdL(K:PySem.W.Frag)(tup:Bool):Sp:=fun vs H Q _=>∃ (a:Addr) (ns:List Int),vs=[.ref a]∧SqL K H a (ns.map V.int)∧ns.length≤800 ∧
 ∀ (t f r:Addr) (H':Hp),H t=none→H f=none→H r=none→f≠r→H' t=some (if tup=true then .tup [.ref f,.ref r] else .lst [.ref f,.ref r])→H' f=some (.lst ((Zde ns).map V.int))→H' r=some (.lst ((Zfp ns).map V.int))→Zu H H'→t≠f→t≠r→Q (.ref t) H'
theorem Zls{H:Hp}{f r t:Addr}{A B T:HO}(hf:H f=none)(hr:(upd H f A) r=none)(ht:(upd (upd H f A) r B) t=none) :
  H r=none∧H t=none∧f≠r∧t≠f∧t≠r∧(upd (upd (upd H f A) r B) t T) f=some A∧(upd (upd (upd H f A) r B) t T) r=some B∧Zu H (upd (upd (upd H f A) r B) t T):=by
 have n1:f≠r:=Zb (H:=upd H f A) (o:=A) Zd hr
 have e1:(upd (upd H f A) r B) f=some A:=by rw[Zc n1];exact Zd
 have n2:f≠t:=Zb e1 ht
 have n3:r≠t:=Zb (H:=upd (upd H f A) r B) (o:=B) Zd ht
 have s1:Zu H (upd H f A):=Zj hf _
 have s2:=s1.trans (Zj hr B)
 have s3:=s2.trans (Zj ht T)
 exact⟨s1.free hr,s2.free ht,n1,n2.symm,n3.symm,by rw[Zc n2];exact e1,by rw[Zc n3];exact Zd,s3⟩
theorem ZjM(T:Zak K mg cRow cMerge):Df P w K mg base 1 "halves" ["numbers"] (ZdL K true):=by
 refine T.t_halves.df ZfW (fun vs H Q E h=>?_) (fun cdv f A outer s H vs Q E hr h=>?_)
 ·obtain⟨a,ns,rfl,_⟩:=h
  rfl
 obtain⟨a,ns,rfl,hS,hn,q⟩:=h
 refine⟨_,#[Zg,#[Zy,1,ZfW.nd,(Or.inl rfl),#[Zab,Zgm,#[Zab,Zbp,#[Zo,(Zdq K),(by rfl),T.b.n_len,QC,#[Za,‹0›,#[Zf]]],#[Zh]],#[Zh]]],#[Zi,#[Zr,#[ZaP,#[Za,#[Zcg,(slL K),‹0›,(@ZbS _),(@Zcm _ _ _ ‹1›)],#[Za,#[Zcg,(slL K),‹0›,(@Zcm _ _ _ ‹1›),(@ZbS _)],#[Zf]]]]]]],?_⟩
 refine⟨_,rfl,a,_,rfl,.inl hS,_,_,rfl,rfl,_,_,rfl,rfl,⟨by decide,by decide⟩,?_⟩
 have hm:mid ns≤ns.length∨ns=[]:=by
  cases ns with
  | nil=>exact .inr rfl
  | cons x r=>left;unfold mid;rw[QI];omega
 have hml:mid ns≤ns.length:=by
  rcases hm with h|h
  ·exact h
  ·subst h;decide
 have em:=Zmx ns
 simp only[em]
 refine⟨_,rfl,_,rfl,_,rfl,a,_,rfl,hS,fun l hl=>?_⟩
 refine⟨_,rfl,_,rfl,_,rfl,a,_,rfl,(Zj hl _).seq hS,fun r hr0=>⟨(by show 2≤sizeLine;decide),fun t ht=>?_⟩⟩
 rw[Znp ns _ hml]at hr0 ht ⊢
 rw[Zlj ns _ hml]at ht ⊢
 obtain⟨z1,z2,z3,z4,z5,z6,z7,z8⟩:=Zls (T:=.tup [.ref l,.ref r]) hl hr0 ht
 exact q t l r _ z2 hl z1 z3 Zd z6 z7 z8 z4 z5
def Zh2:Sp:=fun vs H Q _=>∃ (p:Addr) (c:Int),vs=[.ref p]∧Zau H p c∧c<2 ^ 50∧∀ (v c':Int) (H':Hp),0≤v→v≤12→Zau H' p c'→c≤c'→c'≤c+3→But p H H'→Q (.int v) H'
theorem ZlZ(T:Zak K mg cRow cMerge)(f_l_pick:Df P w K mg base 2 "_law_pick" ["_law_left_here", "_law_many_here"] Zc1):Df P w K mg base 3 "_law_many" ["_law_left_here"] Zh2:=by
 refine T.t_l_many.df ZfU (fun vs H Q E h=>?_) (fun cdv f A outer s H vs Q E hr h=>?_)
 ·obtain⟨p,c,rfl,_⟩:=h
  rfl
 obtain⟨p,c,rfl,hL,c1,q⟩:=h
 refine⟨_,#[Zg,#[Zy,1,ZfU.nd,(Or.inl rfl),#[ZC,f_l_pick,hr,#[Za,‹0›,#[Za,#[Zh],#[Zf]]],(by rfl)]],#[Zi,#[Zr,#[ZN,(ixL K),#[ZaX,#[Za,#[Zh],#[Za,#[Zh],#[Za,#[Zh],#[Za,#[Zh],#[Za,#[Zh],#[Za,#[Zh],#[Za,#[ZC,f_l_pick,hr,#[Za,‹0›,#[Za,#[Zh],#[Zf]]],(by rfl)],#[Za,#[Zab,Zbp,#[Zh],#[ZC,f_l_pick,hr,#[Za,‹0›,#[Za,#[Zh],#[Zf]]],(by rfl)]],#[Zf]]]]]]]]]],‹1›]]]],?_⟩
 have c0:=hL.ge
 refine⟨_,rfl,p,c,_,rfl,hL,by omega,by decide,by decide,fun wy H1 w0 w1 L1 B1=>?_⟩
 refine⟨_,rfl,p,c+1,_,rfl,L1,by omega,by decide,by decide,fun d1 H2 d10 d11 L2 B2=>?_⟩
 refine⟨_,rfl,p,c+1+1,_,rfl,L2,by omega,by decide,by decide,fun d2 H3 d20 d21 L3 B3=>⟨_,_,rfl,rfl,(by show 8≤sizeLine;decide),fun e he=>?_⟩⟩
 obtain⟨v,hv,hat⟩:=ZiC (ns:=[2,3,4,5,6,3,d1,7+d2]) w0 w1
 have hv1:0≤v∧v≤12:=by
  simp only[List.mem_cons,List.not_mem_nil,or_false]at hv
  omega
 exact⟨_,rfl,xw4 e _ _ _ ⟨rfl,rfl,SqL.of Zd,hat,q v _ _ hv1.1 hv1.2 (L3.new he) (by omega) (by omega) (((B1.trans B2).trans B3).trans (But.same (Zj he _)))⟩⟩
theorem Zbi(f:Str)(v:V):∀fs:List (Str×V),(Zm f v fs).length≤fs.length+1
 | []=>Qd _
 | p::r=>by
  unfold Zm
  split
  ·exact QaF _
  ·exact Nat.succ_le_succ (Zbi f v r)
def ZbO(k f:Addr)(g:Int):List (Str×V):=Zm "gone" (.int g) (Zm "fars" (.ref f) (Zm "all_keys" (.ref k) []))
theorem nGF:¬ (("fars" : Str) = "gone"):=by ac_rfl
theorem nGK:¬ (("all_keys" : Str) = "gone"):=by ac_rfl
theorem nFK:¬ (("all_keys" : Str) = "fars"):=by ac_rfl
theorem ZbZ(k f:Addr)(g:Int):(ZbO k f g).lookup ("all_keys" : Str)=some (.ref k):=by
 unfold ZbO
 rw[Zk,if_neg nGK,Zk,if_neg nFK,Zk,if_pos rfl]
theorem ZbB(k f:Addr)(g:Int):(ZbO k f g).lookup ("gone" : Str)=some (.int g):=by
 unfold ZbO
 rw[Zk,if_pos rfl]
theorem Zes(k f:Addr)(g:Int){m:Str}(h1:¬ m = "gone")(h2:¬ m = "fars")(h3:¬ m = "all_keys"):(ZbO k f g).lookup m=none:=by
 unfold ZbO
 rw[Zk,if_neg h1,Zk,if_neg h2,Zk,if_neg h3]
 rfl
structure Zf5 (C:Addr) (H:Hp) (p k f:Addr) (ss:List Str) (g:Nat):Prop where
 ob:∃dx,H p=some (.ins C dx (ZbO k f g))
 ks:H k=some (.lst (ss.map V.str))
 fs:H f=some (.lst ((List.range ss.length).map fun j=>.int (Zb6 ss j)))
def Zii(C:Addr):Sp:=fun vs H Q _=>∃ (p k f:Addr) (ss:List Str) (g:Nat),vs=[.ref p]∧Zf5 C H p k f ss g∧Q (.int ((ss.length:Int)-(g:Int))) H
theorem ZlU(T:Zak K mg cRow cMerge):Mf P w K mg base 1 cRow "to_go" ["self"] (Zii cRow):=by
 refine T.t_Row_to_go.mf Zga (fun vs H Q E h=>?_) (fun cdv f A outer s H vs Q E hr h=>?_)
 ·obtain⟨p,k,f,ss,g,rfl,_⟩:=h
  rfl
 obtain⟨p,k,f,ss,g,rfl,R,q⟩:=h
 refine⟨_,#[Zi,#[Zr,#[Zab,Zgp,#[Zo,(Zdq K),(by rfl),T.b.n_len,QC,#[Za,#[ZH,‹0›],#[Zf]]],#[ZH,‹0›]]]],?_⟩
 obtain⟨⟨dx,ho⟩,hk,hf⟩:=R
 refine⟨_,rfl,xw5 p cRow dx _ _ ⟨rfl,ho,T.cl_Row,T.na_Row_all_keys,ZbZ _ _ _,k,_,rfl,.inl (SqL.of hk),_,rfl,xw5 p cRow dx _ _ ⟨rfl,ho,T.cl_Row,T.na_Row_gone,ZbB _ _ _,_,_,rfl,rfl,?_⟩⟩⟩
 rw[Qa]
 exact q
def ZdX(ss:List Str)(g:Nat):V:=match ss[g]? with
 | some z=>.str z
 | none=>.non
def ZeC(C:Addr):Sp:=fun vs H Q _=>∃ (p k f:Addr) (ss:List Str) (g:Nat),vs=[.ref p]∧Zf5 C H p k f ss g∧Q (ZdX ss g) H
theorem ZlH(T:Zak K mg cRow cMerge)(f_Row_to_go:Mf P w K mg base 1 cRow "to_go" ["self"] (Zii cRow)):Mf P w K mg base 2 cRow "head" ["self"] (ZeC cRow):=by
 refine T.t_Row_head.mf Zg2 (fun vs H Q E h=>?_) (fun cdv f A outer s H vs Q E hr h=>?_)
 ·obtain⟨p,k,f,ss,g,rfl,_⟩:=h
  rfl
 obtain⟨p,k,f,ss,g,rfl,R,q⟩:=h
 refine⟨_,#[Zi,#[Zr,#[Zbm,#[Zt,Zhk,#[ZaC,f_Row_to_go,T.cl_Row,hr,‹0›],#[Zh],(Zw _)],#[ZN,(ixL K),#[ZH,‹0›],#[ZH,‹0›]],#[Zaj]]]],?_⟩
 obtain⟨⟨dx,ho⟩,hk,hf⟩:=id R
 refine⟨_,rfl,p,dx,_,rfl,ho,Zes _ _ _ (by ac_rfl) (by ac_rfl) (by ac_rfl),p,k,f,ss,g,rfl,R,_,_,rfl,rfl,_,rfl,?_⟩
 refine Zbt (fun d=>?_) (fun d=>?_)
 ·have d':(0:Int)<(ss.length:Int)-(g:Int):=of_decide_eq_true d
  have hg:g<ss.length:=by omega
  refine⟨_,rfl,xw5 p cRow dx _ _ ⟨rfl,ho,T.cl_Row,T.na_Row_all_keys,ZbZ _ _ _,_,rfl,xw5 p cRow dx _ _ ⟨rfl,ho,T.cl_Row,T.na_Row_gone,ZbB _ _ _,k,_,_,_,rfl,rfl,SqL.of hk,Zaz (by rw[Qs,Qb hg]<;>rfl),?_⟩⟩⟩
  unfold ZdX at q
  rw[Qb hg]at q
  exact q
 ·have d':¬ (0:Int)<(ss.length:Int)-(g:Int):=fun z=>d (decide_eq_true z)
  unfold ZdX at q
  rw[QJ (by omega)]at q
  exact q
def Zd3(C:Addr):Sp:=fun vs H Q _=>∃ (p dx a:Addr) (ss:List Str),vs=[.ref p,.ref a]∧H p=some (.ins C dx [])∧H a=some (.lst (ss.map V.str))∧ss.length≤800∧(∀s∈ss,s.length≤1000) ∧
 ∀ (k f:Addr) (H':Hp),H k=none→H f=none→k≠f→Zf5 C H' p k f ss 0→(∀b o,H b=some o→b≠p→H' b=some o)→Q .non H'
theorem Zh3(T:Zak K mg cRow cMerge)(f_alikes:Df P w K mg base 3 "alikes" ["row"] (Zfa K)):Cf P w K mg base 4 cRow "Row" ["self", "keys"] (Zd3 cRow):=by
 refine T.t_Row_init.cf ZhA (fun vs H Q E h=>?_) (fun cdv f A outer s H vs Q E hr h=>?_)
 ·obtain⟨p,dx,a,ss,rfl,_⟩:=h
  rfl
 obtain⟨p,dx,a,ss,rfl,hp,ha,hn,hz,q⟩:=h
 refine⟨_,#[Zg,#[ZaA,‹0›,#[Zch,(Zod K),T.b.n_list,boot_list,#[Za,‹1›,#[Zf]]]],#[Zg,#[ZaA,‹0›,#[ZC,f_alikes,hr,#[Za,‹1›,#[Zf]],(by rfl)]],#[Zi,#[ZaA,‹0›,#[Zh]]]]],?_⟩
 refine⟨_,rfl,a,_,rfl,.inl (SqL.of ha),fun k hk=>?_⟩
 have npk:p≠k:=Zb hp hk
 have nap:a≠p:=fun e=>by rw[e,hp]at ha;cases ha
 have nak:a≠k:=Zb ha hk
 refine⟨_,rfl,p,cRow,dx,[],rfl,(by rw[Zc npk];exact hp),T.cl_Row,T.na_Row_all_keys,(by show 0<1000;decide),?_⟩
 have ha2:(upd (upd H k (.lst (ss.map V.str))) p (.ins cRow dx (Zm "all_keys" (.ref k) []))) a=some (.lst (ss.map V.str)):=by rw[Zc nap,Zc nak];exact ha
 have hp2:(upd (upd H k (.lst (ss.map V.str))) p (.ins cRow dx (Zm "all_keys" (.ref k) []))) p=some (.ins cRow dx (Zm "all_keys" (.ref k) [])):=Zd
 have hk2:(upd (upd H k (.lst (ss.map V.str))) p (.ins cRow dx (Zm "all_keys" (.ref k) []))) k=some (.lst (ss.map V.str)):=by rw[Zc npk.symm];exact Zd
 have s2:∀b o,H b=some o→b≠p→(upd (upd H k (.lst (ss.map V.str))) p (.ins cRow dx (Zm "all_keys" (.ref k) []))) b=some o:=fun b o h n=>by rw[Zc n,Zc (Zb h hk)];exact h
 refine⟨_,rfl,a,ss,rfl,SqL.of ha2,hn,hz,fun f H3 hf0 hf3 s3=>?_⟩
 have hHf:H f=none:=by
  cases w':H f with
  | none=>rfl
  | some u =>
   by_cases e:f=p
   ·rw[e,hp2]at hf0;cases hf0
   ·rw[s2 f u w' e]at hf0;cases hf0
 have nkf:k≠f:=Zb hk2 hf0
 have npf:p≠f:=Zb hp2 hf0
 refine⟨_,rfl,xw4 p cRow dx _ ⟨rfl,s3 _ _ hp2,T.cl_Row,T.na_Row_fars,(by show 1<1000;decide),?_⟩⟩
 refine⟨_,rfl,xw4 p cRow dx _ ⟨rfl,Zd,T.cl_Row,T.na_Row_gone,?_,?_⟩⟩
 ·have h1:=Zbi "all_keys" (V.ref k) []
  have h2:=Zbi "fars" (V.ref f) (Zm "all_keys" (V.ref k) [])
  have h3:([]:List (Str×V)).length=0:=rfl
  omega
 ·refine q k f _ hk hHf nkf ⟨⟨dx,Zd⟩,?_,?_⟩ fun b o h n=>?_
  ·rw[Zc npk.symm,Zc npk.symm];exact s3 _ _ hk2
  ·rw[Zc npf.symm,Zc npf.symm];exact hf3
  ·rw[Zc n,Zc n];exact s3 _ _ (s2 b o h n)
theorem Zcc{K:PySem.W.Frag}{a:Addr}{xs:List V}{k:Nat}{D:Addr}{σ:L2.St}{H1:Hp}{g:TG}{te:TE}{Q:VK}(Pv:Nat→List V→L2.St→Hp→Prop)(h0:Pv 0 [] (σ++List.replicate k none) (upd H1 D (.lst [])))
  (hl:∀i ys σ H,Pv i ys σ H→SqL K H a xs)
  (hs:∀i x ys σ H,xs[i]? = some x→Pv i ys σ H→g x σ H fun σ4 H4=>te σ4 H4 fun y H6=>H6 D=some (.lst ys)∧ys.length<sizeLine∧Pv (i+1) (ys++[y]) σ4 (upd H6 D (.lst (ys++[y]))))
  (hd:∀ys σ H,Pv xs.length ys σ H→Q (.ref D) H):ZeL (Itl K a) D k σ H1 g Zij te Q:=by
 refine⟨fun i m ys σ H=>m=xs.length-i∧i≤xs.length∧Pv i ys σ H,⟨xs.length,by simp,Qr _,h0⟩,?_⟩
 rintro i m ys σ H ⟨rfl,hi,p⟩
 have q1:=hl i ys σ H p
 by_cases hlt:i<xs.length
 ·refine .inr ⟨⟨xs,xs[i],q1,Qb hlt⟩,Pv (i+1),fun ys' σ' H' p'=>⟨xs.length-(i+1),by omega,rfl,hlt,p'⟩,fun x H' y=>?_⟩
  obtain⟨rfl,e⟩:=y
  simp only[Zij,↓reduceIte]
  exact hs i x ys σ _ (e xs q1) p
 ·have e:i=xs.length:=by omega
  exact .inl ⟨⟨xs,q1,by omega⟩,hd ys σ H (e ▸ p)⟩
theorem Zgx:∀x y:List Nat,x<y↔ZF x y<0
 | [],[]=>by unfold ZF;exact⟨fun h=>absurd h (by simp),fun h=>absurd h (by omega)⟩
 | [],_::_=>by unfold ZF;exact⟨fun _=>by omega,fun _=>List.nil_lt_cons _ _⟩
 | _::_,[]=>by unfold ZF;exact⟨fun h=>absurd h (List.not_lt_nil _),fun h=>absurd h (by omega)⟩
 | a::r,b::s=>by
  have ih:=Zgx r s
  unfold ZF
  rw[List.cons_lt_cons_iff]
  by_cases e:a=b
  ·rw[if_pos e,← ih]
   exact⟨fun h=>h.elim (fun z=>by omega) (fun z=>z.2),fun h=>.inr ⟨e,h⟩⟩
  ·rw[if_neg e]
   by_cases l:a<b
   ·rw[if_pos l];exact⟨fun _=>by omega,fun _=>.inl l⟩
   ·rw[if_neg l];exact⟨fun h=>h.elim (fun z=>absurd z l) (fun z=>absurd z.1 e),fun h=>absurd h (by omega)⟩
abbrev Hd:=Int→Option (List Nat)
def Btr(x:List Nat)(a:Int)(y:List Nat)(b:Int):Prop:=ZF x y<0∨(ZF x y=0∧a<b)
def Win(hd:Hd)(N:List Int):Option Int→Prop
 | none=>∀n∈N,hd n=none
 | some a=>a∈N∧∃x,hd a=some x∧∀b∈N,∀y,hd b=some y→b=a∨Btr x a y b
theorem Btr.asym{x y:List Nat}{a b:Int}(h:Btr x a y b)(g:Btr y b x a):False:=by
 have e:=Za4 x y
 rcases h with h|⟨h,h2⟩<;>rcases g with g|⟨g,g2⟩<;>omega
theorem Btr.total{x y:List Nat}{a b:Int}(h:a≠b):Btr x a y b∨Btr y b x a:=by
 have e:=Za4 x y
 unfold Btr
 omega
theorem Btr.trans{x y z:List Nat}{a b c:Int}(h:Btr x a y b)(g:Btr y b z c):Btr x a z c:=by
 have t1:=Zcp x y z
 have t2:=Zcp z x y
 have t3:=Zcp y z x
 have e1:=Za4 x y
 have e2:=Za4 y z
 have e3:=Za4 x z
 unfold Btr at *
 omega
theorem Win.one{hd:Hd}{N:List Int}{v w:Option Int}(h:Win hd N v)(g:Win hd N w):v=w:=by
 cases v with
 | none =>
  cases w with
  | none=>rfl
  | some b=>obtain⟨hb,y,hy,_⟩:=g;rw[h b hb]at hy;cases hy
 | some a =>
  obtain⟨ha,x,hx,h2⟩:=h
  cases w with
  | none=>rw[g a ha]at hx;cases hx
  | some b =>
   obtain⟨hb,y,hy,g2⟩:=g
   rcases h2 b hb y hy with e|e
   ·rw[e]
   ·rcases g2 a ha x hx with e'|e'
    ·rw[e']
    ·exact(e.asym e').elim
theorem Win.nil(hd:Hd):Win hd [] none:=fun n h=>by cases h
theorem Win.sing{hd:Hd}{n:Int}:Win hd [n] (if (hd n).isSome then some n else none):=by
 cases h:hd n with
 | none=>intro m hm;rw[Ql.mp hm];exact h
 | some x=>exact⟨by simp,x,h,fun b hb y hy=>.inl (Ql.mp hb)⟩
theorem Win.both{hd:Hd}{A B:List Int}{a b:Int}{x y:List Nat}(ha:Win hd A (some a))(hb:Win hd B (some b))(hx:hd a=some x)(hy:hd b=some y)(h:Btr x a y b):Win hd (A++B) (some a):=by
 obtain⟨a1,x',hx',a2⟩:=ha
 obtain⟨b1,y',hy',b2⟩:=hb
 rw[hx]at hx';cases hx'
 rw[hy]at hy';cases hy'
 refine⟨QM _ a1,x,hx,fun c hc z hz=>?_⟩
 rcases Qq.mp hc with hc|hc
 ·exact a2 c hc z hz
 ·rcases b2 c hc z hz with e|e
  ·subst e;rw[hy]at hz;cases hz;exact .inr h
  ·exact .inr (h.trans e)
theorem Win.both'{hd:Hd}{A B:List Int}{a b:Int}{x y:List Nat}(ha:Win hd A (some a))(hb:Win hd B (some b))(hx:hd a=some x)(hy:hd b=some y)(h:Btr y b x a):Win hd (A++B) (some b):=by
 have:=Win.both hb ha hy hx h
 obtain⟨h1,z,h2,h3⟩:=this
 exact⟨by rcases Qq.mp h1 with h|h<;>simp[h],z,h2,fun c hc=>h3 c (by rcases Qq.mp hc with h|h<;>simp[h])⟩
theorem Win.left{hd:Hd}{A B:List Int}{w:Option Int}(ha:Win hd A w)(hb:Win hd B none):Win hd (A++B) w:=by
 cases w with
 | none=>intro n hn;rcases Qq.mp hn with h|h;exact ha n h;exact hb n h
 | some a =>
  obtain⟨a1,x,hx,a2⟩:=ha
  refine⟨QM _ a1,x,hx,fun c hc z hz=>?_⟩
  rcases Qq.mp hc with hc|hc
  ·exact a2 c hc z hz
  ·rw[hb c hc]at hz;cases hz
theorem Win.right{hd:Hd}{A B:List Int}{w:Option Int}(ha:Win hd A none)(hb:Win hd B w):Win hd (A++B) w:=by
 cases w with
 | none=>intro n hn;rcases Qq.mp hn with h|h;exact ha n h;exact hb n h
 | some a =>
  obtain⟨a1,x,hx,a2⟩:=hb
  refine⟨Qo _ a1,x,hx,fun c hc z hz=>?_⟩
  rcases Qq.mp hc with hc|hc
  ·rw[ha c hc]at hz;cases hz
  ·exact a2 c hc z hz
theorem Win.ex(hd:Hd):∀N:List Int,N.Nodup→∃w,Win hd N w
 | [],_=>⟨none,Win.nil hd⟩
 | n::N,hn=>by
  obtain⟨n1,n2⟩:=QN.mp hn
  obtain⟨w,hw⟩:=Win.ex hd N n2
  have hs:Win hd [n] (if (hd n).isSome then some n else none):=Win.sing
  cases h:hd n with
  | none =>
   rw[h]at hs
   exact⟨w,Win.right (A:=[n]) hs hw⟩
  | some x =>
   rw[h]at hs
   cases w with
   | none=>exact⟨some n,Win.left (A:=[n]) hs hw⟩
   | some b =>
    obtain⟨b1,y,hy,b2⟩:=id hw
    have hne:n≠b:=fun e=>n1 (e ▸ b1)
    rcases Btr.total (x:=x) (y:=y) hne with e|e
    ·exact⟨some n,Win.both (A:=[n]) hs hw h hy e⟩
    ·exact⟨some b,Win.both' (A:=[n]) hs hw h hy e⟩
theorem Win.congr{hd hd':Hd}{N:List Int}(h:∀n∈N,hd' n=hd n){w:Option Int}(hw:Win hd N w):Win hd' N w:=by
 cases w with
 | none=>intro n hn;rw[h n hn];exact hw n hn
 | some a =>
  obtain⟨a1,x,hx,a2⟩:=hw
  exact⟨a1,x,by rw[h a a1];exact hx,fun b hb y hy=>a2 b hb y (by rw[← h b hb];exact hy)⟩
def lo(N:List Int):List Int:=N.take (mid N)
def up(N:List Int):List Int:=N.drop (mid N)
theorem ZbE(N:List Int):lo N++up N=N:=Qah _ _
theorem ZcQ{N:List Int}(h:2≤N.length):(lo N).length<N.length∧1≤(lo N).length:=by
 unfold lo mid
 rw[Qw]
 omega
theorem Zdx{N:List Int}(h:2≤N.length):(up N).length<N.length∧1≤(up N).length:=by
 unfold up mid
 rw[QL]
 omega
def ZE(N:List Int):Int×Int:=(N.headD 0,N.getLastD 0)
abbrev StL:=List ((Int×Int)×Option (Addr×Int×Int))
def stV:Option (Addr×Int×Int)→V
 | none=>.non
 | some t=>.ref t.1
def kvS(s:StL):List (List Key×V):=s.map fun e=>([.inl e.1.1,.inl e.1.2],stV e.2)
def AtS(H:Hp)(s:StL):Prop:=∀e∈s,∀t,e.2=some t→H t.1=some (.tup [.int t.2.1,.int t.2.2])
def ZM(s:StL)(k:Int×Int):Option (Option (Addr×Int×Int)):=(s.find? fun e=>decide (e.1=k)).map (·.2)
def ZbP(s:StL)(k:Int×Int)(v:Option (Addr×Int×Int)):StL:=if s.any (fun e=>decide (e.1=k)) then s.map (fun e=>if e.1=k then (e.1,v) else e) else s++[(k,v)]
theorem AtS.mono{H H':Hp}{s:StL}(h:AtS H s)(k:∀a xs,H a=some (.tup xs)→H' a=some (.tup xs)):AtS H' s:=fun e he t ht=>k _ _ (h e he t ht)
theorem Zic{a b:Int×Int}(h:([.inl a.1,.inl a.2]:List Key)=[.inl b.1,.inl b.2]):a=b:=by
 obtain⟨a1,a2⟩:=a
 obtain⟨b1,b2⟩:=b
 injection h with h1 h2
 injection h2 with h2 _
 have e1:=Sum.inl.inj h1
 have e2:=Sum.inl.inj h2
 simp only at e1 e2
 rw[e1,e2]
theorem ZgK(k:Int×Int):∀s:StL,Za1 (kvS s) [.inl k.1,.inl k.2]=(ZM s k).map stV
 | []=>rfl
 | e::s=>by
  have ih:=ZgK k s
  by_cases h:e.1=k
  ·unfold kvS ZM
   rw[Qg,ZcR (by rw[h])]
   simp[List.find?_cons,h]
  ·unfold kvS at ih ⊢
   rw[Qg,ZcJ (fun z=>h (Zic z)),ih]
   unfold ZM
   simp[List.find?_cons,h]
theorem ZlT(k:Int×Int)(s:StL):((kvS s).any fun kv=>decide (kv.1=([.inl k.1,.inl k.2]:List Key)))=s.any fun e=>decide (e.1=k):=by
 unfold kvS
 rw[List.any_map]
 congr 1
 funext e
 simp only[Function.comp]
 by_cases h:e.1=k
 ·rw[decide_eq_true h,decide_eq_true (by rw[h])]
 ·rw[decide_eq_false h,decide_eq_false (fun z=>h (Zic z))]
theorem Zeu(s:StL)(k:Int×Int)(v:Option (Addr×Int×Int)):ZbD (kvS s) [.inl k.1,.inl k.2] (stV v)=kvS (ZbP s k v):=by
 unfold ZbD ZbP
 rw[ZlT]
 split
 ·unfold kvS
  rw[QF,QF]
  congr 1
  funext e
  simp only[Function.comp]
  by_cases h:e.1=k
  ·rw[if_pos h,if_pos (by rw[h])]
  ·rw[if_neg h,if_neg (fun z=>h (Zic z))]
 ·unfold kvS;rw[Qe];rfl
theorem ZkJ(s:StL)(k:Int×Int)(v:Option (Addr×Int×Int)):(ZbP s k v).length≤s.length+1:=by
 unfold ZbP
 split
 ·rw[Qa];omega
 ·rw[Qp];exact Qd _
theorem ZaF(s:StL)(k j:Int×Int)(v:Option (Addr×Int×Int)):ZM (ZbP s k v) j=if j=k then some v else ZM s j:=by
 unfold ZbP
 split
 ·rename_i h
  induction s with
  | nil=>simp at h
  | cons e s ih =>
   unfold ZM at ih ⊢
   by_cases hek:e.1=k
   ·by_cases hj:j=k
    ·subst hj;simp[List.find?_cons,hek]
    ·have hj':¬ k=j:=fun z=>hj z.symm
     rw[Qg,if_pos hek,Qae (by simp[hek,hj']),Qae (by simp[hek,hj']),if_neg hj]
     by_cases ha:s.any (fun e=>decide (e.1=k))=true
     ·have:=ih ha;rw[if_neg hj]at this;exact this
     ·have:s.map (fun e=>if e.1=k then (e.1,v) else e)=s:=by
       rw[List.map_eq_iff]
       intro i
       cases hi:s[i]? with
       | none=>rfl
       | some x =>
        have hx:¬ x.1=k:=fun z=>ha (List.any_eq_true.mpr ⟨x,Qy hi,by simpa using z⟩)
        simp[hx]
      rw[this]
   ·have ha:s.any (fun e=>decide (e.1=k))=true:=by simpa [hek] using h
    rw[Qg,if_neg hek]
    by_cases hj:e.1=j
    ·have:¬ j=k:=fun z=>hek (hj.trans z)
     rw[List.find?_cons_of_pos (by simpa using hj),List.find?_cons_of_pos (by simpa using hj),if_neg this]
    ·rw[Qae (by simpa using hj),Qae (by simpa using hj)]
     exact ih ha
 ·rename_i h
  unfold ZM
  rw[List.find?_append]
  by_cases hj:j=k
  ·subst hj
   have:s.find? (fun e=>decide (e.1=j))=none:=by
    rw[List.find?_eq_none]
    intro x hx z
    exact h (List.any_eq_true.mpr ⟨x,hx,z⟩)
   rw[this];simp
  ·have hj':¬ k=j:=fun z=>hj z.symm
   rw[if_neg hj]
   simp[hj']
theorem AtS.put{H:Hp}{s:StL}{k:Int×Int}{v:Option (Addr×Int×Int)}(h:AtS H s)(hv:∀t,v=some t→H t.1=some (.tup [.int t.2.1,.int t.2.2])):AtS H (ZbP s k v):=by
 unfold ZbP
 split
 ·intro e he t ht
  obtain⟨x,hx,rfl⟩:=QE.mp he
  split at ht
  ·exact hv t ht
  ·exact h x hx t ht
 ·intro e he t ht
  rcases Qq.mp he with he|he
  ·exact h e he t ht
  ·rw[Ql.mp he]at ht;exact hv t ht
theorem Zfw{s:StL}{k:Int×Int}{v:Option (Addr×Int×Int)}(h:ZM s k=some v):(k,v)∈s:=by
 unfold ZM at h
 obtain⟨e,he,rfl⟩:=Qax.mp h
 have h1:=List.find?_some he
 have:e.1=k:=by simpa using h1
 rw[← this];exact List.mem_of_find?_eq_some he
def Zpx(hd:Hd)(s:StL)(N:List Int):Prop :=
 (∀a b x y,Win hd (lo N) (some a)→Win hd (up N) (some b)→hd a=some x→hd b=some y→∃t,ZM s (ZE N)=some (some (t,if ZF x y<0∨(ZF x y=0∧a<b) then b else a,((lcp x y:Nat):Int)))) ∧
 ((Win hd (lo N) none∨Win hd (up N) none)→ZM s (ZE N)=none∨ZM s (ZE N)=some none)
def Zed(hd:Hd)(s:StL):Nat→List Int→Prop
 | 0,_=>True
 | n+1,N=>2≤N.length→Zed hd s n (lo N)∧Zed hd s n (up N)∧Zpx hd s N
def ZdR:Nat→List Int→Int×Int→Prop
 | 0,_,_=>False
 | n+1,N,k=>2≤N.length∧(ZdR n (lo N) k∨ZdR n (up N) k∨k=ZE N)
abbrev Z5(N:List Int):Prop:=N.Pairwise (·<·)
theorem Zc7{N:List Int}(h:Z5 N):Z5 (lo N):=h.sublist (List.take_sublist _ _)
theorem Zc8{N:List Int}(h:Z5 N):Z5 (up N):=h.sublist (List.drop_sublist _ _)
theorem Zc5{N:List Int}(h:Z5 N):N.Nodup:=h.imp fun {a b} hab e=>by omega
theorem ZD{N:List Int}(h:Z5 N){a b:Int}(ha:a∈lo N)(hb:b∈up N):a<b:=by
 have:Z5 (lo N++up N):=by rw[ZbE];exact h
 exact(List.pairwise_append.mp this).2.2 a ha b hb
theorem Zbx{N:List Int}(h:N≠[]):N.headD 0∈N:=by
 cases N with
 | nil=>exact absurd rfl h
 | cons a r=>simp
theorem Zby{N:List Int}(h:N≠[]):N.getLastD 0∈N:=by
 rw[Q4,Qac h]
 exact List.getLast_mem h
theorem Z0{N:List Int}(h:1≤N.length):N≠[]:=fun z=>by rw[z]at h;simp at h
theorem Zei{N:List Int}(h:2≤N.length):(ZE N).2=(up N).getLastD 0:=by
 have hu:=Z0 (Zdx h).2
 show N.getLastD 0=_
 rw[Q4,Q4]
 conv=>lhs;rw[← ZbE N]
 rw[List.getLast?_append,Qac hu];rfl
theorem Zeg{N:List Int}(h:2≤N.length):(ZE N).1=(lo N).headD 0:=by
 have hl:=Z0 (ZcQ h).2
 show N.headD 0=_
 conv=>lhs;rw[← ZbE N]
 cases hc:lo N with
 | nil=>exact absurd hc hl
 | cons a r=>rfl
theorem Zc2:∀ (n:Nat) (N:List Int) (k:Int×Int),ZdR n N k→k.1∈N∧k.2∈N
 | 0,_,_,h=>h.elim
 | n+1,N,k,⟨h2,h⟩=>by
  rcases h with h|h|rfl
  ·have:=Zc2 n _ k h
   rw[← ZbE N]
   exact⟨QM _ this.1,QM _ this.2⟩
  ·have:=Zc2 n _ k h
   rw[← ZbE N]
   exact⟨Qo _ this.1,Qo _ this.2⟩
  ·have hn:N≠[]:=Z0 (by omega)
   exact⟨Zbx hn,Zby hn⟩
theorem Zgb{N:List Int}(hr:Z5 N)(h2:2≤N.length){n:Nat}{k:Int×Int}(h:ZdR n (lo N) k):k≠ZE N∧∀m,¬ ZdR m (up N) k:=by
 have:=Zc2 n _ k h
 refine⟨fun z=>?_,fun m hm=>?_⟩
 ·have h1:=Zei h2
  rw[z,h1]at this
  have:=ZD hr this.2 (Zby (Z0 (Zdx h2).2))
  omega
 ·have:=ZD hr this.1 (Zc2 m _ k hm).1
  omega
theorem Zgs{N:List Int}(hr:Z5 N)(h2:2≤N.length){n:Nat}{k:Int×Int}(h:ZdR n (up N) k):k≠ZE N∧∀m,¬ ZdR m (lo N) k:=by
 have:=Zc2 n _ k h
 refine⟨fun z=>?_,fun m hm=>?_⟩
 ·have h1:=Zeg h2
  rw[z,h1]at this
  have:=ZD hr (Zbx (Z0 (ZcQ h2).2)) this.1
  omega
 ·have:=ZD hr (Zc2 m _ k hm).1 this.1
  omega
theorem Zed.congr{hd hd':Hd}{s s':StL}:∀ (n:Nat) (N:List Int),(∀m∈N,hd' m=hd m)→(∀k,ZdR n N k→ZM s' k=ZM s k)→Zed hd s n N→Zed hd' s' n N
 | 0,_,_,_,_=>True.intro
 | n+1,N,hh,hk,h=>fun h2=>by
  obtain⟨a,b,c1,c2⟩:=h h2
  have hl:∀m∈lo N,hd' m=hd m:=fun m hm=>hh m (by rw[← ZbE N];exact QM _ hm)
  have hu:∀m∈up N,hd' m=hd m:=fun m hm=>hh m (by rw[← ZbE N];exact Qo _ hm)
  have hl':∀m∈lo N,hd m=hd' m:=fun m hm=>(hl m hm).symm
  have hu':∀m∈up N,hd m=hd' m:=fun m hm=>(hu m hm).symm
  refine⟨Zed.congr n _ hl (fun k hkk=>hk k ⟨h2,.inl hkk⟩) a,Zed.congr n _ hu (fun k hkk=>hk k ⟨h2,.inr (.inl hkk)⟩) b,fun a b x y ha hb hx hy=>?_,fun hw=>?_⟩
  ·rw[hk _ ⟨h2,.inr (.inr rfl)⟩]
   exact c1 a b x y (Win.congr hl' ha) (Win.congr hu' hb) (by rw[← hl a ha.1];exact hx) (by rw[← hu b hb.1];exact hy)
  ·rw[hk _ ⟨h2,.inr (.inr rfl)⟩]
   refine c2 ?_
   rcases hw with hw|hw
   ·exact .inl (Win.congr hl' hw)
   ·exact .inr (Win.congr hu' hw)
inductive ZbF (hd:Hd):Nat→List Int→Int→Int→Prop
 | few {n:Nat} {N:List Int}:N.length<2→ZbF hd n N 0 0
 | none {n:Nat} {N:List Int} {k l k' l':Int}:2≤N.length→ZbF hd n (lo N) k l→ZbF hd n (up N) k' l'→(Win hd (lo N) none∨Win hd (up N) none)→ZbF hd (n+1) N (k+k') (l+l')
 | both {n:Nat} {N:List Int} {k l k' l':Int} {a b:Int} {x y:List Nat}:2≤N.length→ZbF hd n (lo N) k l→ZbF hd n (up N) k' l'→Win hd (lo N) (some a)→Win hd (up N) (some b)→hd a=some x→hd b=some y→ZbF hd (n+1) N (k+k'+1) (l+l'+(lcp x y:Nat)+1)
theorem ZbF.one{hd:Hd}:∀ {n m:Nat} {N:List Int} {k l k' l':Int},ZbF hd n N k l→ZbF hd m N k' l'→k=k'∧l=l'
 | _,_,_,_,_,_,_,.few h,p=>by
  cases p with
  | few _=>exact⟨rfl,rfl⟩
  | none h2 _ _ _=>omega
  | both h2 _ _ _ _ _ _=>omega
 | _,_,_,_,_,_,_,.none h2 a b hw,p=>by
  cases p with
  | few h=>omega
  | none _ a' b' _ =>
   obtain⟨e1,e2⟩:=ZbF.one a a'
   obtain⟨e3,e4⟩:=ZbF.one b b'
   exact⟨by omega,by omega⟩
  | both _ a' b' wa wb hx hy =>
   rcases hw with hw|hw
   ·exact nomatch hw.one wa
   ·exact nomatch hw.one wb
 | _,_,_,_,_,_,_,.both h2 a b wa wb hx hy,p=>by
  cases p with
  | few h=>omega
  | none _ a' b' hw =>
   rcases hw with hw|hw
   ·exact nomatch hw.one wa
   ·exact nomatch hw.one wb
  | both _ a' b' wa' wb' hx' hy' =>
   obtain⟨e1,e2⟩:=ZbF.one a a'
   obtain⟨e3,e4⟩:=ZbF.one b b'
   have ea:=Qh (wa.one wa')
   have eb:=Qh (wb.one wb')
   subst ea eb
   rw[hx]at hx';cases hx'
   rw[hy]at hy';cases hy'
   exact⟨by omega,by omega⟩
def kk(e:Str×Int):List Key:=[.inr e.1,.inl e.2]
def oV:Option Str→V
 | none=>.non
 | some s=>.str s
def ZaJ:Option Int→V
 | none=>.non
 | some a=>.int a
def kvH(E:List (Int×Option Str)):List (Key×V):=E.map fun e=>(.inl e.1,oV e.2)
def lk(E:List (Int×Option Str))(n:Int):Option Str:=(E.find? fun e=>decide (e.1=n)).bind (·.2)
def hdE(E:List (Int×Option Str)):Hd:=fun n=>(lk E n).map cds
def prs(E:List (Int×Option Str))(N:List Int):List (Str×Int):=N.filterMap fun n=>(lk E n).map fun s=>(s,n)
def Zpm:Key→PyData
 | .inl i=>.int i
 | .inr s=>.str s
def tD(k:List Key):PyData:=.tuple (k.map Zpm)
structure Hds (H:Hp) (D:Addr) (E:List (Int×Option Str)):Prop where
 at':H D=some (.dK (kvH E))
 nd:(E.map (·.1)).Nodup
 ok:∀e∈E,∀s,e.2=some s→s.length≤1000∧AZ s
def spLeast(K:PySem.W.Frag):Sp:=fun vs H Q _=>∃ (D l:Addr) (E:List (Int×Option Str)) (N:List Int),vs=[.ref D,.ref l]∧Hds H D E∧SqL K H l (N.map V.int)∧N.length≤60∧(∀n∈N,n∈E.map (·.1)) ∧
 ∀ (v:Option Int) (H':Hp),Win (hdE E) N v→Zu H H'→Q (ZaJ v) H'
theorem Znf(N:List Int):Zde N=lo N:=rfl
theorem Zn1(N:List Int):Zfp N=up N:=rfl
def spFP(K:PySem.W.Frag)(n:Nat):Sp:=fun vs H Q _=>∃ (D l:Addr) (E:List (Int×Option Str)) (N:List Int),vs=[.ref D,.ref l]∧Hds H D E∧SqL K H l (N.map V.int)∧N.length≤60∧0<n∧N.length≤2 ^ (n-1)∧(∀m∈N,m∈E.map (·.1)) ∧
 ∀ (t:Addr) (k q:Int) (H':Hp),ZbF (hdE E) n N k q→H t=none→H' t=some (.tup [.int k,.int q])→Zu H H'→Q (.ref t) H'
abbrev ZaL:=Int×Addr×List Str×Nat
def kvR(L:List ZaL):List (Key×V):=L.map fun e=>(.inl e.1,.ref e.2.1)
def kvG(L:List ZaL):List (Key×V):=L.map fun e=>(.inl e.1,.int (e.2.2.2:Int))
def Zpp(ra ga:Addr)(nb li lo:Int):List (Key×V):=[(.inr "rows",.ref ra),(.inr "gone",.ref ga),(.inr "number",.int nb),(.inr "likenings",.int li),(.inr "looks",.int lo)]
structure Own (H:Hp) (o ra ga:Addr) (L:List ZaL) (nb li lo:Int):Prop where
 at':H o=some (.dK (Zpp ra ga nb li lo))
 rows:H ra=some (.dK (kvR L))
 gone:H ga=some (.dK (kvG L))
 nd:(L.map (·.1)).Nodup
 few:L.length≤60
 lst:∀e∈L,H e.2.1=some (.lst (e.2.2.1.map V.str))∧e.2.2.1.length≤800∧e.2.2.2≤e.2.2.1.length∧∀s∈e.2.2.1,s.length≤1000∧AZ s
theorem Znw{ns:List Int}(h:ns.Nodup):(ns.map (Sum.inl:Int→Key)).Nodup:=List.Pairwise.map _ (fun a b hab z=>hab (Sum.inl.inj z)) h
theorem Zbq.k'{H:Hp}{a:Addr}{kvs:List (Key×V)}{k:Key}{r:Option V}(e:H a=some (.dK kvs))(h:Za1 kvs k=r):Zbq H a (kV k) r:=by rw[← h];exact Zbq.k e
structure ZpC (L:List ZaL) (E:List (Int×Option Str)):Prop where
 per:(E.map (·.1)).Perm (L.map (·.1))
 up:(E.map (·.1)).Pairwise (·<·)
 hd:∀e∈L,(e.1,e.2.2.1[e.2.2.2]?)∈E
def spHeads:Sp:=fun vs H Q _=>∃ (o ra ga:Addr) (L:List ZaL) (nb li lo:Int),vs=[.ref o]∧Own H o ra ga L nb li lo ∧
 ∀ (D:Addr) (E:List (Int×Option Str)) (H':Hp),H D=none→Hds H' D E→ZpC L E→Zu H H'→Q (.ref D) H'
def hdL(L:List ZaL):Hd:=fun n=>((L.find? fun e=>decide (e.1=n)).bind fun e=>e.2.2.1[e.2.2.2]?).map cds
theorem Zh1:∀ {L:List ZaL},(L.map (·.1)).Nodup→∀ {e:ZaL},e∈L→hdL L e.1=(e.2.2.1[e.2.2.2]?).map cds
 | [],_,_,h=>by cases h
 | x::r,nd,e,h=>by
  rw[Qg,QN]at nd
  unfold hdL
  rw[Qas]
  rcases QA.mp h with rfl|h
  ·rw[decide_eq_true rfl];rfl
  ·rw[decide_eq_false (fun z:x.1=e.1=>nd.1 (by rw[z];exact Qj (f:=fun x:ZaL=>x.1) h))]
   exact Zh1 nd.2 h
theorem Win.perm{hd:Hd}{N M:List Int}{v:Option Int}(h:Win hd N v)(p:N.Perm M):Win hd M v:=by
 cases v with
 | none=>exact fun n hn=>h n (p.mem_iff.mpr hn)
 | some a=>obtain⟨ha,x,hx,hb⟩:=h;exact⟨p.mem_iff.mp ha,x,hx,fun b hbm=>hb b (p.mem_iff.mpr hbm)⟩
def ZmT(L:List ZaL)(H:Hp)(x:V):Prop:=(x=.non∧Win (hdL L) (L.map (·.1)) none)∨∃ (t:Addr) (e:ZaL) (z:Str),x=.ref t∧e∈L∧e.2.2.1[e.2.2.2]? = some z∧H t=some (.tup [.int e.1,.int (e.2.2.2:Int),.str z])∧Win (hdL L) (L.map (·.1)) (some e.1)
def spLCom:Sp:=fun vs H Q _=>∃ (o ra ga:Addr) (L:List ZaL) (nb li lo:Int),vs=[.ref o]∧Own H o ra ga L nb li lo∧∀ (x:V) (H':Hp),ZmT L H' x→Zu H H'→Q x H'
def spLPlay:Sp:=fun vs H Q _=>∃ (o ra ga:Addr) (L:List ZaL) (nb li lo:Int),vs=[.ref o]∧Own H o ra ga L nb li lo∧(L.map (·.1)).Pairwise (·<·)∧(∀e∈L,e.2.1≠o) ∧
 ∀ (k q':Int) (H':Hp),ZbF (hdL L) 8 (L.map (·.1)) k q'→Own H' o ra ga L nb (li+k) (lo+q')→But o H H'→Q .non H'
def ZcE(L:List ZaL):List Int:=L.map fun e=>(e.2.2.1.length:Int)-(e.2.2.2:Int)
def spLLeft:Sp:=fun vs H Q _=>∃ (o ra ga:Addr) (L:List ZaL) (nb li lo:Int),vs=[.ref o]∧Own H o ra ga L nb li lo∧∀H':Hp,Zu H H'→Q (.int (ZcE L).sum) H'
structure ZaQ (H:Hp) (r:Addr) (rs:List (Addr×List Str)):Prop where
 at':H r=some (.lst (rs.map fun x=>V.ref x.1))
 few:rs.length≤60
 lst:∀x∈rs,H x.1=some (.lst (x.2.map V.str))∧x.2.length≤800∧∀s∈x.2,s.length≤1000∧AZ s
theorem ZaQ.same{H H':Hp}{r:Addr}{rs:List (Addr×List Str)}(h:ZaQ H r rs)(s:Zu H H'):ZaQ H' r rs:=⟨s _ _ h.at',h.few,fun x hx=>let ⟨a,b⟩:=h.lst x hx;⟨s _ _ a,b⟩⟩
def ZpL(L:List ZaL)(rs:List (Addr×List Str)):Prop:=L.map (·.1)=ZcZ 0 rs.length∧L.map (fun e=>e.2.2)=rs.map fun x=>(x.2,0)
theorem Zg7(n:Nat):(ZcZ 0 n).Pairwise (·<·):=by
 unfold ZcZ
 exact List.Pairwise.map _ (fun a b h=>by omega) (List.pairwise_lt_range)
def spLWorld:Sp:=fun vs H Q _=>∃ (r:Addr) (rs:List (Addr×List Str)),vs=[.ref r]∧ZaQ H r rs ∧
 ∀ (o ra ga:Addr) (L:List ZaL) (k q':Int) (H':Hp),H o=none→H ra=none→H ga=none→ga≠ra→(∀e∈L,H e.2.1=none∧e.2.1≠o)→ZpL L rs→Own H' o ra ga L (rs.length:Int) k q'→ZbF (hdL L) 8 (L.map (·.1)) k q'→Zu H H'→Q (.ref o) H'
def ZhY:Sp:=fun vs H Q _=>∃ (p l:Addr) (c most:Int) (ss:List Str),vs=[.ref p,.ref l,.int most]∧Zau H p c∧c<2 ^ 40∧0≤most∧most≤60∧H l=some (.lst (ss.map V.str))∧1≤ss.length∧ss.length≤4∧(∀s∈ss,s.length≤24∧AZ s) ∧
 ∀ (r:Addr) (ts:List Str) (c':Int) (H':Hp),H r=none→H' r=some (.lst (ts.map V.str))→(ts.length:Int)≤most→sortedS ts=true→(∀s∈ts,s.length≤28∧AZ s)→Zau H' p c'→c≤c'→c'≤c+600→But p H H'→Q (.ref r) H'
theorem Zmk(T:Zak K mg cRow cMerge)(f_l_keys:Df P w K mg base 4 "_law_keys" ["_law_left_here", "_law_stems_here", "_law_most"] Zih):Df P w K mg base 5 "_law_row" ["_law_left_here", "_law_stems_here", "_law_most"] ZhY:=by
 refine T.t_l_row.df Zj9 (fun vs H Q E h=>?_) (fun cdv f A outer s H vs Q E hr h=>?_)
 ·obtain⟨p,l,c,most,ss,rfl,_⟩:=h
  rfl
 obtain⟨p,l,c,most,ss,rfl,hL,hc,h0,h60,hl,h1,h4,h24,q⟩:=h
 refine⟨_,#[Zi,#[Zr,#[Zo,(ZpJ K),(by rfl),T.b.n_sorted,boot_sorted,#[Za,#[ZC,f_l_keys,hr,#[Za,‹0›,#[Za,‹1›,#[Za,‹2›,#[Zf]]]],(by rfl)],#[Zf]]]]],?_⟩
 refine⟨_,rfl,_,rfl,_,rfl,p,l,c,most,ss,rfl,hL,hc,h0,h60,hl,h1,h4,h24,fun r ts c' H1 hr0 hr1 hts h28 L1 a1 a2 B1=>?_⟩
 refine⟨r,ts,rfl,SqL.of hr1,by omega,fun l2 ts' hl2 hper hsrt=>?_⟩
 obtain⟨ob,hob⟩:=hL.here
 have hl20:H l2=none:=by
  cases e:H l2 with
  | none=>rfl
  | some x =>
   by_cases z:l2=p
   ·obtain⟨o1,ho1⟩:=L1.here;rw[z,ho1]at hl2;cases hl2
   ·have:=B1 l2 x e z;rw[this]at hl2;cases hl2
 exact q l2 ts' c' _ hl20 Zd (by rw[hper.length_eq];exact hts) hsrt (fun s hs=>h28 s (hper.mem_iff.mp hs)) (L1.new hl2) a1 a2 (B1.trans (But.same (Zj hl2 _)))
def ZiU:Sp:=fun vs H Q _=>∃ (p:Addr) (c:Int),vs=[.ref p]∧Zau H p c∧c<2 ^ 30 ∧
 ∀ (r:Addr) (rs:List (Addr×List Str)) (c':Int) (H':Hp),H r=none→ZaQ H' r rs→(∀x∈rs,H x.1=none∧x.1≠r∧x.1≠p∧sortedS x.2=true∧x.2.length≤60)→rs.length≤12→Zau H' p c'→c≤c'→c'≤c+10000→But p H H'→Q (.ref r) H'
theorem Zku(T:Zak K mg cRow cMerge)(f_l_pick:Df P w K mg base 2 "_law_pick" ["_law_left_here", "_law_many_here"] Zc1)(f_l_stems:Df P w K mg base 3 "_law_stems" ["_law_left_here"] Zgv)(f_l_many:Df P w K mg base 3 "_law_many" ["_law_left_here"] Zh2)(f_l_row:Df P w K mg base 5 "_law_row" ["_law_left_here", "_law_stems_here", "_law_most"] ZhY):Df P w K mg base 6 "_law_rows" ["_law_left_here"] ZiU:=by
 refine T.t_l_rows.df Zd6 (fun vs H Q E h=>?_) (fun cdv f A outer s H vs Q E hr h=>?_)
 ·obtain⟨p,c,rfl,_⟩:=h
  rfl
 obtain⟨p,c,rfl,hL,c1,q⟩:=h
 refine⟨_,#[Zg,#[Zy,1,Zd6.nd,(Or.inr rfl),#[ZC,f_l_stems,hr,#[Za,#[pv,0,(Or.inr (Or.inl rfl))],#[Zf]],(by rfl)]],#[Zg,#[Zy,2,Zd6.nd,(Or.inr rfl),#[ZN,(ixL K),#[ZaX,#[Za,#[Zh],#[Za,#[Zh],#[Za,#[Zh],#[Za,#[Zh],#[Za,#[Zh],#[Za,#[Zh],#[Za,#[Zh],#[Za,#[Zh],#[Zf]]]]]]]]]],#[ZC,f_l_pick,hr,#[Za,#[pv,0,(Or.inr (Or.inl rfl))],#[Za,#[Zh],#[Zf]]],(by rfl)]]],#[Zi,#[Zr,#[Zbe,Zjf,#[Zbw,T.b.n_range,#[Za,#[ZC,f_l_many,hr,#[Za,#[pv,0,(Or.inr (Or.inl rfl))],#[Zf]],(by rfl)],#[Zf]]],(fun _ _ _ _=>#[cg,3,Zjf]),(fun _ _ _ _=>(@Za5 _)),(fun _ _ _ _=>#[ZC,f_l_row,hr,#[Za,#[cv,0,Zjf],#[Za,#[cv,1,Zjf],#[Za,#[cv,2,Zjf],#[Zf]]]],(Zb1 Zjf rfl (by ac_rfl))])]]]]],?_⟩
 have c0:=hL.ge
 refine⟨_,rfl,p,c,rfl,hL,by omega,fun l ss c2 H1 hl0 hl1 n1 n4 h24 L1 a1 a2 B1=>?_⟩
 have npl:p≠l:=by obtain⟨o,ho⟩:=hL.here;exact Zb ho hl0
 refine⟨(by show 8≤sizeLine;decide),fun e he=>?_⟩
 have npe:p≠e:=by obtain⟨o,ho⟩:=L1.here;exact Zb ho he
 refine⟨_,rfl,p,c2,_,rfl,L1.new he,by omega,by decide,by decide,fun i H2 i0 i1 L2 B2=>?_⟩
 obtain⟨m,hm,hat⟩:=ZiC (ns:=[5,5,4,6,3,7,5,20]) i0 i1
 have he2:H2 e=some (.lst (([5,5,4,6,3,7,5,20]:List Int).map V.int)):=B2 e _ Zd npe.symm
 have hm1:0≤m∧m≤20:=by
  simp only[List.mem_cons,List.not_mem_nil,or_false]at hm
  omega
 have hl2:H2 l=some (.lst (ss.map V.str)):=B2 l _ (Zj he _ _ _ hl1) npl.symm
 have B02:But p H H2:=(B1.trans (But.same (Zj he _))).trans B2
 refine(xw4 e _ _ _ ⟨rfl,rfl,SqL.of he2,hat,?_⟩)
 refine⟨_,rfl,p,_,rfl,L2,by omega,fun mn c3 H3 m0 m12 L3 a3 a4 B3=>?_⟩
 have hl3:=B3 l _ hl2 npl.symm
 have B03:=B02.trans B3
 refine⟨_,rfl,by omega,by omega,fun D hD=>?_⟩
 have hD0:H D=none:=by
  cases e':H D with
  | none=>rfl
  | some x =>
   by_cases z:D=p
   ·obtain⟨o1,ho1⟩:=L3.here;rw[z,ho1]at hD;cases hD
   ·have:=B03 D x e' z;rw[this]at hD;cases hD
 have npD:p≠D:=by obtain⟨o,ho⟩:=L3.here;exact Zb ho hD
 have nlD:l≠D:=Zb hl3 hD
 refine Zdt (fun i zs σ H4=>(∃v:Option V,σ=[some (.ref p),some (.ref l),some (.int m),v])∧(∃rs:List (Addr×List Str),zs=rs.map (fun x=>V.ref x.1)∧rs.length=i∧∀x∈rs,H4 x.1=some (.lst (x.2.map V.str))∧H x.1=none∧x.1≠D∧x.1≠p∧sortedS x.2=true∧x.2.length≤60∧∀s∈x.2,s.length≤28∧AZ s)∧H4 D=some (.lst zs)∧(∃c4:Int,Zau H4 p c4∧c3≤c4∧c4≤c3+600*i)∧But p H3 H4) ?_ ?_ ?_
 ·exact⟨⟨none,rfl⟩,⟨[],rfl,rfl,(fun x h=>by cases h)⟩,Zd,⟨c3,L3.new hD,by omega,by omega⟩,But.same (Zj hD _)⟩
 ·rintro i zs σ H4 hi ⟨⟨v,rfl⟩,⟨rs,rfl,hrl,hrs⟩,hD4,⟨c4,L4,b1,b2⟩,B4⟩
  have hi12:i<12:=by omega
  refine⟨_,rfl,_,rfl,_,rfl,xw5 p l c4 m ss ⟨rfl,L4,by omega,hm1.1,by omega,B4 l _ hl3 npl.symm,n1,n4,h24,fun r ts c5 H5 hr0 hr5 hts hsrt h28 L5 d1 d2 B5=>?_⟩⟩
  have hD5:=B5 D _ hD4 npD.symm
  have nDr:D≠r:=Zb hD4 hr0
  have npr:p≠r:=by obtain⟨o,ho⟩:=L4.here;exact Zb ho hr0
  have hr00:H r=none:=by
   cases e':H r with
   | none=>rfl
   | some x=>have:=B4 r x (B03 r x e' npr.symm) npr.symm;rw[this]at hr0;cases hr0
  refine⟨hD5,(by rw[Qa];exact ZY (by omega)),⟨_,rfl⟩,⟨rs++[(r,ts)],by rw[Qe];rfl,by rw[Qp,Qz];omega,fun x hx=>?_⟩,Zd,⟨c5,L5.at npD,by omega,by omega⟩,fun b x hb nb=>?_⟩
  ·rcases Qq.mp hx with hx|hx
   ·obtain⟨g1,g2,g3,g4,g5⟩:=hrs x hx
    exact⟨by rw[Zc g3];exact B5 _ _ g1 g4,g2,g3,g4,g5⟩
   ·rw[Ql.mp hx]
    exact⟨by rw[Zc nDr.symm];exact hr5,hr00,nDr.symm,npr.symm,hsrt,by show ts.length≤60;omega,h28⟩
  ·rw[Zc (Zb hb hD)];exact B5 b x (B4 b x hb nb) nb
 rintro zs σ H4 ⟨⟨v,rfl⟩,⟨rs,rfl,hrl,hrs⟩,hD4,⟨c4,L4,b1,b2⟩,B4⟩
 refine q D rs c4 H4 hD0 ⟨hD4,by omega,fun x hx=>?_⟩ (fun x hx=>?_) (by omega) L4 (by omega) (by omega) (B03.trans B4)
 ·obtain⟨g1,_,_,_,_,g6,g7⟩:=hrs x hx
  exact⟨g1,by omega,fun s hs=>⟨by have:=(g7 s hs).1;omega,(g7 s hs).2⟩⟩
 ·obtain⟨_,g2,g3,g4,g5,g6,_⟩:=hrs x hx
  exact⟨g2,g3,g4,g5,g6⟩
def ZeU(K:PySem.W.Frag):Sp:=fun vs H Q _=>∃ (n:Int) (a:Addr) (ss:List Str),vs=[.int n,.ref a]∧SqL K H a (ss.map V.str)∧ss.length≤800∧(∀s∈ss,s.length≤1000)∧Zhy ss .non∧∀H',Zu H H'→Q .non H'
theorem ZjY(T:Zak K mg cRow cMerge)(f_first_break:Df P w K mg base 4 "first_break" ["keys"] (Zj4 K)):Df P w K mg base 5 "refuse_break" ["number", "keys"] (ZeU K):=by
 refine T.t_refuse_break.df Zcw (fun vs H Q E h=>?_) (fun cdv f A outer s H vs Q E hr h=>?_)
 ·obtain⟨n,a,ss,rfl,_⟩:=h
  rfl
 obtain⟨n,a,ss,rfl,hS,h200,h1000,hnon,q⟩:=h
 refine⟨_,#[Zg,#[Zy,2,Zcw.nd,(Or.inl rfl),#[ZC,f_first_break,hr,#[Za,‹1›,#[Zf]],(by rfl)]],#[Zi,#[Zaw,#[Zt,Zew,‹2›,#[Zaj],(Zw _)],#[Zi,(@ZlJ _ _)],(@ZS _)]]],?_⟩
 refine⟨_,rfl,a,ss,rfl,hS,h200,h1000,fun v H1 hb s1=>?_⟩
 have e:=Zmw hb hnon
 subst e
 exact⟨_,rfl,rfl,_,rfl,Zb5 (q H1 s1)⟩
structure Zv where
 n:Int
 p:Addr
 k:Addr
 f:Addr
 ss:List Str
 g:Nat
def toL(e:Zv):ZaL:=(e.n,e.p,e.ss,e.g)
def hdM(L:List Zv):Hd:=hdL (L.map toL)
def Zs(L:List Zv):List Int:=L.map (·.n)
theorem Zcb(L:List Zv):(L.map toL).map (·.1)=Zs L:=by rw[QF];rfl
def kvM(L:List Zv):List (Key×V):=L.map fun e=>(.inl e.n,.ref e.p)
theorem Zdu{L:List Zv}(nd:(Zs L).Nodup){e:Zv}(he:e∈L):hdM L e.n=(e.ss[e.g]?).map cds :=
 Zh1 (L:=L.map toL) (by rw[Zcb];exact nd) (Qj (f:=toL) he)
theorem Zko(L:List Zv):(kvM L).map (·.1)=(Zs L).map (Sum.inl:Int→Key):=by unfold kvM Zs;rw[QF,QF];rfl
theorem Zfg{L:List Zv}(nd:(Zs L).Nodup){e:Zv}(he:e∈L):Za1 (kvM L) (.inl e.n)=some (.ref e.p):=Zhq (by rw[Zko];exact Znw nd) (Qj (f:=fun e:Zv=>((.inl e.n:Key),V.ref e.p)) he)
theorem ZcY{L:List Zv}{n:Int}(h:n∈Zs L):∃e∈L,e.n=n:=QE.mp h
def mgF(rd:Addr)(nb li lo:Int)(sd:Addr)(best:V):List (Str×V):=[("rows",.ref rd),("next_number",.int nb),("likened",.int li),("looked",.int lo),("stays",.ref sd),("best",best)]
theorem Znm:¬ (("rows" : Str) = "next_number"):=by ac_rfl
theorem Zn4:¬ (("rows" : Str) = "likened"):=by ac_rfl
theorem ZnM:¬ (("rows" : Str) = "looked"):=by ac_rfl
theorem ZnP:¬ (("rows" : Str) = "stays"):=by ac_rfl
theorem Zm5:¬ (("rows" : Str) = "best"):=by ac_rfl
theorem Znq:¬ (("next_number" : Str) = "likened"):=by ac_rfl
theorem ZnE:¬ (("next_number" : Str) = "looked"):=by ac_rfl
theorem Znt:¬ (("next_number" : Str) = "stays"):=by ac_rfl
theorem Zm9:¬ (("next_number" : Str) = "best"):=by ac_rfl
theorem Zns:¬ (("likened" : Str) = "looked"):=by ac_rfl
theorem Zn5:¬ (("likened" : Str) = "stays"):=by ac_rfl
theorem Zm2:¬ (("likened" : Str) = "best"):=by ac_rfl
theorem ZnQ:¬ (("looked" : Str) = "stays"):=by ac_rfl
theorem Zn6:¬ (("looked" : Str) = "best"):=by ac_rfl
theorem Znv:¬ (("stays" : Str) = "best"):=by ac_rfl
theorem ZbI(f:Str)(v x:V)(r:List (Str×V)):Zm f v ((f,x)::r)=(f,v)::r:=by unfold Zm;rw[if_pos rfl]
theorem Zq{f g:Str}(h:¬ g=f)(v x:V)(r:List (Str×V)):Zm f v ((g,x)::r)=(g,x)::Zm f v r:=by
 show (if g=f then (g,v)::r else (g,x)::Zm f v r)=_
 rw[if_neg h]
theorem Za2(f:Str)(v:V):Zm f v []=[(f,v)]:=rfl
theorem Za0(rd:Addr)(nb li lo:Int)(sd:Addr)(best:V):mgF rd nb li lo sd best=Zm "best" best (Zm "stays" (.ref sd) (Zm "looked" (.int lo) (Zm "likened" (.int li) (Zm "next_number" (.int nb) (Zm "rows" (.ref rd) []))))):=by
 rw[Za2,Zq Znm,Za2,Zq Zn4,Zq Znq,Za2,Zq ZnM,Zq ZnE,Zq Zns,Za2,Zq ZnP,Zq Znt,Zq Zn5,Zq ZnQ,Za2,Zq Zm5,Zq Zm9,Zq Zm2,Zq Zn6,Zq Znv,Za2]
 rfl
section
variable (rd:Addr) (nb li lo:Int) (sd:Addr) (best:V)
theorem ZaT:(mgF rd nb li lo sd best).lookup ("rows" : Str)=some (.ref rd):=by
 rw[Za0,Zk,if_neg Zm5,Zk,if_neg ZnP,Zk,if_neg ZnM,Zk,if_neg Zn4,Zk,if_neg Znm,Zk,if_pos rfl]
theorem Zh0:(mgF rd nb li lo sd best).lookup ("next_number" : Str)=some (.int nb):=by
 rw[Za0,Zk,if_neg Zm9,Zk,if_neg Znt,Zk,if_neg ZnE,Zk,if_neg Znq,Zk,if_pos rfl]
theorem ZbT:(mgF rd nb li lo sd best).lookup ("likened" : Str)=some (.int li):=by
 rw[Za0,Zk,if_neg Zm2,Zk,if_neg Zn5,Zk,if_neg Zns,Zk,if_pos rfl]
theorem ZdE:(mgF rd nb li lo sd best).lookup ("looked" : Str)=some (.int lo):=by
 rw[Za0,Zk,if_neg Zn6,Zk,if_neg ZnQ,Zk,if_pos rfl]
theorem ZbA:(mgF rd nb li lo sd best).lookup ("stays" : Str)=some (.ref sd):=by
 rw[Za0,Zk,if_neg Znv,Zk,if_pos rfl]
theorem Zb3:(mgF rd nb li lo sd best).lookup ("best" : Str)=some best:=by
 rw[Za0,Zk,if_pos rfl]
theorem Za7{m:Str}(h1:¬ m = "rows")(h2:¬ m = "next_number")(h3:¬ m = "likened")(h4:¬ m = "looked")(h5:¬ m = "stays")(h6:¬ m = "best"):(mgF rd nb li lo sd best).lookup m=none:=by
 rw[Za0,Zk,if_neg h6,Zk,if_neg h5,Zk,if_neg h4,Zk,if_neg h3,Zk,if_neg h2,Zk,if_neg h1]
 rfl
theorem Zgg(x:Addr):Zm "rows" (.ref x) (mgF rd nb li lo sd best)=mgF x nb li lo sd best:=by unfold mgF;rw[ZbI]
theorem ZeI(v:Int):Zm "next_number" (.int v) (mgF rd nb li lo sd best)=mgF rd v li lo sd best:=by unfold mgF;rw[Zq Znm,ZbI]
theorem Zbr(v:Int):Zm "likened" (.int v) (mgF rd nb li lo sd best)=mgF rd nb v lo sd best:=by unfold mgF;rw[Zq Zn4,Zq Znq,ZbI]
theorem ZcG(v:Int):Zm "looked" (.int v) (mgF rd nb li lo sd best)=mgF rd nb li v sd best:=by unfold mgF;rw[Zq ZnM,Zq ZnE,Zq Zns,ZbI]
theorem Zdl(x:Addr):Zm "stays" (.ref x) (mgF rd nb li lo sd best)=mgF rd nb li lo x best:=by unfold mgF;rw[Zq ZnP,Zq Znt,Zq Zn5,Zq ZnQ,ZbI]
theorem Za6(x:V):Zm "best" x (mgF rd nb li lo sd best)=mgF rd nb li lo sd x:=by unfold mgF;rw[Zq Zm5,Zq Zm9,Zq Zm2,Zq Zn6,Zq Znv,ZbI]
theorem ZaH:(mgF rd nb li lo sd best).length<1000:=by show 6<1000;decide
end
structure ZbM (C:Addr) (H:Hp) (e:Zv):Prop where
 at':Zf5 C H e.p e.k e.f e.ss e.g
 le:e.g≤e.ss.length
 len:e.ss.length≤800
 srt:sortedS e.ss=true
 str:∀s∈e.ss,s.length≤1000∧AZ s
def Kb(nb:Int)(s:StL)(L:List Zv):Prop:=(∀x∈s,0≤x.1.1∧x.1.1<x.1.2∧x.1.2≤nb)∧∀n∈Zs L,0≤n∧n≤nb
theorem Kb.mono{nb nb':Int}{s:StL}{L:List Zv}(h:Kb nb s L)(hb:nb≤nb'):Kb nb' s L:=⟨fun x hx=>let ⟨a,b,c⟩:=h.1 x hx;⟨a,b,by omega⟩,fun n hn=>let ⟨a,b⟩:=h.2 n hn;⟨a,by omega⟩⟩
theorem Kb.put{nb:Int}{s:StL}{L:List Zv}(h:Kb nb s L){k:Int×Int}{v:Option (Addr×Int×Int)}(hk:0≤k.1∧k.1<k.2∧k.2≤nb):Kb nb (ZbP s k v) L:=by
 refine⟨fun x hx=>?_,h.2⟩
 unfold ZbP at hx
 split at hx
 ·obtain⟨y,hy,rfl⟩:=QE.mp hx
  by_cases e:y.1=k
  ·rw[if_pos e];exact h.1 y hy
  ·rw[if_neg e];exact h.1 y hy
 ·rcases Qq.mp hx with hx|hx
  ·exact h.1 x hx
  ·rw[Ql.mp hx];exact hk
theorem Kb.key{nb:Int}{s:StL}{L:List Zv}(h:Kb nb s L){N:List Int}(up:Z5 N)(h2:2≤N.length)(hm:∀x∈N,x∈Zs L):0≤(ZE N).1∧(ZE N).1<(ZE N).2∧(ZE N).2≤nb:=by
 cases N with
 | nil=>exact absurd h2 (by decide)
 | cons a r =>
  cases r with
  | nil=>exact absurd h2 (by show ¬ 2≤1;decide)
  | cons b r =>
   have e:(ZE (a::b::r)).2=(b::r).getLast (by simp):=by unfold ZE;show (a::b::r).getLastD 0=_;rw[Q4,Qac (by simp)];rfl
   have hl:(b::r).getLast (by simp)∈b::r:=List.getLast_mem _
   have lt:a<(b::r).getLast (by simp):=(List.pairwise_cons.mp up).1 _ hl
   rw[e]
   exact⟨(h.2 a (hm a (QW ..))).1,lt,(h.2 _ (hm _ (Qm _ hl))).2⟩
structure ZQ (cR cM:Addr) (H:Hp) (m rd sd:Addr) (L:List Zv) (s:StL) (nb li lo:Int) (best:V):Prop where
 ob:∃dx,H m=some (.ins cM dx (mgF rd nb li lo sd best))
 rows:H rd=some (.dK (kvM L))
 stays:H sd=some (.dT (kvS s))
 ats:AtS H s
 each:∀e∈L,ZbM cR H e
 up:Z5 (Zs L)
 pd:(L.map (·.p)).Nodup
 few:L.length≤60
 sfew:s.length≤800
 kb:Kb nb s L
def Fp(m rd sd:Addr)(L:List Zv)(b:Addr):Prop:=b=m∨b=rd∨b=sd∨∃e∈L,b=e.p∨b=e.k∨b=e.f
theorem ZbM.keep{C:Addr}{H H':Hp}{e:Zv}(h:ZbM C H e)(hp:H' e.p=H e.p)(hk:H' e.k=H e.k)(hf:H' e.f=H e.f):ZbM C H' e :=
 ⟨⟨by rw[hp];exact h.at'.ob,by rw[hk];exact h.at'.ks,by rw[hf];exact h.at'.fs⟩,h.le,h.len,h.srt,h.str⟩
section
variable {cR cM:Addr} {H H':Hp} {m rd sd:Addr} {L:List Zv} {s:StL} {nb li lo:Int} {best:V}
theorem ZQ.nd(h:ZQ cR cM H m rd sd L s nb li lo best):(Zs L).Nodup:=Zc5 h.up
theorem ZQ.keep(h:ZQ cR cM H m rd sd L s nb li lo best)(k:∀b o,H b=some o→Fp m rd sd L b∨(∃xs,o=.tup xs)→H' b=some o):ZQ cR cM H' m rd sd L s nb li lo best:=by
 refine⟨?_,k _ _ h.rows (.inl (.inr (.inl rfl))),k _ _ h.stays (.inl (.inr (.inr (.inl rfl)))),fun e he t ht=>k _ _ (h.ats e he t ht) (.inr ⟨_,rfl⟩),fun e he=>?_,h.up,h.pd,h.few,h.sfew,h.kb⟩
 ·obtain⟨dx,hd⟩:=h.ob
  exact⟨dx,k _ _ hd (.inl (.inl rfl))⟩
 ·have r:=h.each e he
  obtain⟨dx,hd⟩:=r.at'.ob
  exact⟨⟨⟨dx,k _ _ hd (.inl (.inr (.inr (.inr ⟨e,he,.inl rfl⟩))))⟩,k _ _ r.at'.ks (.inl (.inr (.inr (.inr ⟨e,he,.inr (.inl rfl)⟩)))),k _ _ r.at'.fs (.inl (.inr (.inr (.inr ⟨e,he,.inr (.inr rfl)⟩))))⟩,r.le,r.len,r.srt,r.str⟩
theorem ZQ.same(h:ZQ cR cM H m rd sd L s nb li lo best)(k:Zu H H'):ZQ cR cM H' m rd sd L s nb li lo best:=h.keep fun b o hb _=>k b o hb
theorem ZQ.ne_p(h:ZQ cR cM H m rd sd L s nb li lo best){e:Zv}(he:e∈L):m≠e.p∧m≠e.k∧m≠e.f:=by
 obtain⟨dx,hd⟩:=h.ob
 have r:=h.each e he
 obtain⟨dy,hy⟩:=r.at'.ob
 refine⟨fun z=>?_,fun z=>?_,fun z=>?_⟩
 ·rw[z,hy]at hd
  injection hd with hd
  injection hd with _ _ hd
  have a:=ZbZ e.k e.f (e.g:Int)
  rw[hd,Za7 _ _ _ _ _ _ (by ac_rfl) (by ac_rfl) (by ac_rfl) (by ac_rfl) (by ac_rfl) (by ac_rfl)]at a
  cases a
 ·rw[z,r.at'.ks]at hd;cases hd
 ·rw[z,r.at'.fs]at hd;cases hd
theorem ZQ.ne_m(h:ZQ cR cM H m rd sd L s nb li lo best):m≠rd∧m≠sd∧rd≠sd:=by
 obtain⟨dx,hd⟩:=h.ob
 refine⟨fun z=>?_,fun z=>?_,fun z=>?_⟩
 ·rw[z,h.rows]at hd;cases hd
 ·rw[z,h.stays]at hd;cases hd
 ·have:=h.rows;rw[z,h.stays]at this;cases this
theorem ZQ.ne_sd(h:ZQ cR cM H m rd sd L s nb li lo best){e:Zv}(he:e∈L):sd≠e.p∧sd≠e.k∧sd≠e.f∧rd≠e.p∧rd≠e.k∧rd≠e.f:=by
 have r:=h.each e he
 obtain⟨dy,hy⟩:=r.at'.ob
 have a:=h.stays
 have b:=h.rows
 refine⟨fun z=>?_,fun z=>?_,fun z=>?_,fun z=>?_,fun z=>?_,fun z=>?_⟩
 ·rw[z,hy]at a;cases a
 ·rw[z,r.at'.ks]at a;cases a
 ·rw[z,r.at'.fs]at a;cases a
 ·rw[z,hy]at b;cases b
 ·rw[z,r.at'.ks]at b;cases b
 ·rw[z,r.at'.fs]at b;cases b
theorem ZQ.obj(h:ZQ cR cM H m rd sd L s nb li lo best){nb' li' lo':Int}{best':V}{dx:Addr}(hb:nb≤nb':=by omega):ZQ cR cM (upd H m (.ins cM dx (mgF rd nb' li' lo' sd best'))) m rd sd L s nb' li' lo' best':=by
 obtain⟨n1,n2,n3⟩:=h.ne_m
 obtain⟨dy,hd⟩:=h.ob
 refine⟨⟨dx,Zd⟩,by rw[Zc n1.symm];exact h.rows,by rw[Zc n2.symm];exact h.stays,fun e he t ht=>?_,fun e he=>?_,h.up,h.pd,h.few,h.sfew,h.kb.mono hb⟩
 ·have:=h.ats e he t ht
  rw[Zc (fun z=>by rw[z,hd]at this;cases this)];exact this
 ·obtain⟨a,b,c⟩:=h.ne_p he
  exact(h.each e he).keep (Zc a.symm) (Zc b.symm) (Zc c.symm)
theorem ZQ.put(h:ZQ cR cM H m rd sd L s nb li lo best){k:Int×Int}{v:Option (Addr×Int×Int)}(hv:∀t,v=some t→H t.1=some (.tup [.int t.2.1,.int t.2.2]))(hs:(ZbP s k v).length≤800)(hk:0≤k.1∧k.1<k.2∧k.2≤nb):ZQ cR cM (upd H sd (.dT (kvS (ZbP s k v)))) m rd sd L (ZbP s k v) nb li lo best:=by
 obtain⟨n1,n2,n3⟩:=h.ne_m
 obtain⟨dy,hd⟩:=h.ob
 have tup:∀a xs,H a=some (.tup xs)→(upd H sd (.dT (kvS (ZbP s k v)))) a=some (.tup xs):=fun a xs ha=>by rw[Zc (fun z=>by rw[z,h.stays]at ha;cases ha)];exact ha
 refine⟨⟨dy,by rw[Zc n2];exact hd⟩,by rw[Zc n3];exact h.rows,Zd,(h.ats.put hv).mono tup,fun e he=>?_,h.up,h.pd,h.few,hs,h.kb.put hk⟩
 obtain⟨a,b,c,_⟩:=h.ne_sd he
 exact(h.each e he).keep (Zc a.symm) (Zc b.symm) (Zc c.symm)
end
def ZhF(cR cM:Addr):Sp:=fun vs H Q _=>∃ (m rd sd:Addr) (L:List Zv) (s:StL) (nb li lo:Int) (best:V) (a b:Zv) (x y:Str) (far:Nat),vs=[.ref m,.int a.n,.int b.n,.int (far:Int)]∧ZQ cR cM H m rd sd L s nb li lo best∧a∈L∧b∈L∧a.ss[a.g]? = some x∧b.ss[b.g]? = some y∧far≤lcp (cds x) (cds y) ∧
 ∀ (t:Addr) (wi lz:Int) (H':Hp),(Btr (cds x) a.n (cds y) b.n∧wi=a.n∧lz=b.n∨¬ Btr (cds x) a.n (cds y) b.n∧wi=b.n∧lz=a.n)→H t=none→H' t=some (.tup [.int wi,.int lz,.int ((lcp (cds x) (cds y):Nat):Int)]) →
  ZQ cR cM H' m rd sd L s nb (li+1) (lo+((lcp (cds x) (cds y):Nat)-(far:Int)+1)) best→(∀b o,H b=some o→b≠m→H' b=some o)→Q (.ref t) H'
theorem ZdH{ss:List Str}{g:Nat}{x:Str}(h:ss[g]? = some x):ZdX ss g=.str x:=by unfold ZdX;rw[h]
theorem Zbl(k f:Addr)(g:Int):(ZbO k f g).lookup ("head" : Str)=none:=Zes _ _ _ (by ac_rfl) (by ac_rfl) (by ac_rfl)
theorem Zml(T:Zak K mg cRow cMerge)(f_Row_head:Mf P w K mg base 2 cRow "head" ["self"] (ZeC cRow))(f_liken_from:Df P w K mg base 2 "liken_from" ["one", "other", "far"] ZcK):Mf P w K mg base 3 cMerge "meet" ["self", "one", "other", "far"] (ZhF cRow cMerge):=by
 refine T.t_Merge_meet.mf Zbd (fun vs H Q E h=>?_) (fun cdv f A outer s H vs Q E hr h=>?_)
 ·obtain⟨m,rd,sd,L,s,nb,li,lo,best,a,b,x,y,far,rfl,_⟩:=h
  rfl
 obtain⟨m,rd,sd,L,s,nb,li,lo,best,a,b,x,y,far,rfl,M,ha,hb,hx,hy,hf,q⟩:=h
 refine⟨_,#[Zg,#[Za9,#[ZC,f_liken_from,hr,#[Za,#[ZaC,f_Row_head,T.cl_Row,hr,#[ZN,(ixG hr),#[ZH,‹0›],‹1›]],#[Za,#[ZaC,f_Row_head,T.cl_Row,hr,#[ZN,(ixG hr),#[ZH,‹0›],‹2›]],#[Za,‹3›,#[Zf]]]],(by rfl)],#[gT,K,3,#[Zz,#[ZL,4,Zbd.nd],#[Zz,#[ZL,5,Zbd.nd],#[Zz,#[ZL,6,Zbd.nd],(@ZaW _)]]]]],#[Zg,(@Zdc _ _ _ _ _ _ _ _ _ _ ‹0› #[Zh] Zgc),#[Zg,(@Zdc _ _ _ _ _ _ _ _ _ _ ‹0› ‹6› Zgc),#[Zg,#[Zaw,(@PW.pt _ _ _ (@ZiB _ _ _ _ _ _ _ #[Zt,Ze0,‹4›,#[Zh],(Zw _)] (@Zgw _ _ _ _ (@PW.pt _ _ _ #[ZdA,#[Zt,Zbo,‹4›,#[Zh],(Zw _)],(@Zc4 _ _ _ _ #[Zt,Ze0,‹1›,‹2›,(Zw _)])])))),#[Zi,#[Zr,#[ZaP,#[Za,‹1›,#[Za,‹2›,#[Za,‹5›,#[Zf]]]]]]],(@ZS _)],#[Zi,#[Zr,#[ZaP,#[Za,‹2›,#[Za,‹1›,#[Za,‹5›,#[Zf]]]]]]]]]]],?_⟩
 obtain⟨dx,hm⟩:=M.ob
 have Ra:=M.each a ha
 have Rb:=M.each b hb
 obtain⟨da,hpa⟩:=Ra.at'.ob
 obtain⟨db,hpb⟩:=Rb.at'.ob
 have lx:=(Ra.str x (Qy hx)).1
 have ly:=(Rb.str y (Qy hy)).1
 refine⟨_,rfl,xw5 m cMerge dx _ _ ⟨rfl,hm,T.cl_Merge,T.na_Merge_rows,ZaT ..,_,rfl,rd,_,rfl,Zbq.k' (k:=.inl a.n) M.rows (Zfg M.nd ha),a.p,da,_,rfl,hpa,Zbl ..,xw5 a.p a.k a.f a.ss a.g ⟨rfl,Ra.at',?_⟩⟩⟩
 refine⟨_,rfl,xw5 m cMerge dx _ _ ⟨rfl,hm,T.cl_Merge,T.na_Merge_rows,ZaT ..,_,rfl,rd,_,rfl,Zbq.k' (k:=.inl b.n) M.rows (Zfg M.nd hb),b.p,db,_,rfl,hpb,Zbl ..,xw5 b.p b.k b.f b.ss b.g ⟨rfl,Rb.at',?_⟩⟩⟩
 rw[ZdH hx,ZdH hy]
 refine⟨_,rfl,x,y,far,rfl,lx,ly,hf,fun t ht=>?_⟩
 have s1:=Zj ht (.tup [.int (ZF (cds x) (cds y)),.int (lcp (cds x) (cds y):Nat),.int ((lcp (cds x) (cds y):Nat)-(far:Int)+1)])
 have ht1:(upd H t (.tup [.int (ZF (cds x) (cds y)),.int (lcp (cds x) (cds y):Nat),.int ((lcp (cds x) (cds y):Nat)-(far:Int)+1)])) t=some (.tup [.int (ZF (cds x) (cds y)),.int (lcp (cds x) (cds y):Nat),.int ((lcp (cds x) (cds y):Nat)-(far:Int)+1)]):=Zd
 generalize upd H t (.tup [.int (ZF (cds x) (cds y)),.int (lcp (cds x) (cds y):Nat),.int ((lcp (cds x) (cds y):Nat)-(far:Int)+1)])=H1 at s1 ht1 ⊢
 have M1:=M.same s1
 refine⟨t,_,rfl,SqT.of ht1,rfl,_,_,rfl,_,_,rfl,_,_,rfl,rfl,?_⟩
 have hm1:=s1 _ _ hm
 refine⟨_,rfl,xw5 m cMerge dx _ _ ⟨rfl,hm1,T.cl_Merge,T.na_Merge_likened,ZbT ..,_,_,rfl,rfl,dx,_,hm1,ZaH ..,?_⟩⟩
 rw[Zbr]
 have M2:=M1.obj (nb':=nb) (li':=li+1) (lo':=lo) (best':=best) (dx:=dx)
 have k2:∀b o,H b=some o→b≠m→(upd H1 m (.ins cMerge dx (mgF rd nb (li+1) lo sd best))) b=some o:=fun b o hb n=>by rw[Zc n];exact s1 b o hb
 have hm2:(upd H1 m (.ins cMerge dx (mgF rd nb (li+1) lo sd best))) m=some (.ins cMerge dx (mgF rd nb (li+1) lo sd best)):=Zd
 generalize upd H1 m (.ins cMerge dx (mgF rd nb (li+1) lo sd best))=H2 at M2 k2 hm2 ⊢
 refine⟨_,rfl,xw5 m cMerge dx _ _ ⟨rfl,hm2,T.cl_Merge,T.na_Merge_looked,ZdE ..,_,rfl,_,_,rfl,rfl,dx,_,hm2,ZaH ..,?_⟩⟩
 rw[ZcG]
 have M3:=M2.obj (nb':=nb) (li':=li+1) (lo':=lo+((lcp (cds x) (cds y):Nat)-(far:Int)+1)) (best':=best) (dx:=dx)
 have k3:∀b o,H b=some o→b≠m→(upd H2 m (.ins cMerge dx (mgF rd nb (li+1) (lo+((lcp (cds x) (cds y):Nat)-(far:Int)+1)) sd best))) b=some o:=fun b o hb n=>by rw[Zc n];exact k2 b o hb n
 generalize upd H2 m (.ins cMerge dx (mgF rd nb (li+1) (lo+((lcp (cds x) (cds y):Nat)-(far:Int)+1)) sd best))=H3 at M3 k3 ⊢
 have fin:∀wi lz:Int,(Btr (cds x) a.n (cds y) b.n∧wi=a.n∧lz=b.n∨¬ Btr (cds x) a.n (cds y) b.n∧wi=b.n∧lz=a.n)→∀t2,H3 t2=none→Q (.ref t2) (upd H3 t2 (.tup [.int wi,.int lz,.int ((lcp (cds x) (cds y):Nat):Int)])):=fun wi lz hw t2 ht2=>by
  have hfree:H t2=none:=by
   cases e:H t2 with
   | none=>rfl
   | some o =>
    by_cases z:t2=m
    ·obtain⟨dz,hz⟩:=M3.ob;rw[z,hz]at ht2;cases ht2
    ·rw[k3 t2 o e z]at ht2;cases ht2
  exact q t2 wi lz _ hw hfree Zd (M3.same (Zj ht2 _)) (fun b o hb n=>Zj ht2 _ _ _ (k3 b o hb n))
 have sz3:3≤sizeLine:=by decide
 refine⟨_,rfl,_,_,rfl,rfl,_,rfl,Zbt (fun d=>?_) (fun d=>?_)⟩
 ·have d':ZF (cds x) (cds y)<0:=of_decide_eq_true d
  exact Zfj ⟨_,rfl,_,rfl,_,rfl,sz3,fun t2 ht2=>fin _ _ (.inl ⟨.inl d',rfl,rfl⟩) t2 ht2⟩
 have d1:¬ ZF (cds x) (cds y)<0:=fun z=>d (decide_eq_true z)
 refine⟨_,rfl,rfl,_,rfl,Zbt (fun e=>?_) (fun e=>?_)⟩
 ·have e':ZF (cds x) (cds y)=0:=by have:=of_decide_eq_true e;injection this
  refine⟨_,rfl,_,rfl,_,_,rfl,rfl,_,rfl,Zbt (fun g=>?_) (fun g=>?_)⟩
  ·have g':a.n<b.n:=of_decide_eq_true g
   exact⟨_,rfl,_,rfl,_,rfl,sz3,fun t2 ht2=>fin _ _ (.inl ⟨.inr ⟨e',g'⟩,rfl,rfl⟩) t2 ht2⟩
  ·have g':¬ a.n<b.n:=fun z=>g (decide_eq_true z)
   exact⟨_,rfl,_,rfl,_,rfl,sz3,fun t2 ht2=>fin _ _ (.inr ⟨fun z=>by rcases z with z|z;exact d1 z;exact g' z.2,rfl,rfl⟩) t2 ht2⟩
 ·have e':ZF (cds x) (cds y)≠0:=fun z=>e (decide_eq_true (by rw[z]))
  exact Zb5 ⟨_,rfl,_,rfl,_,rfl,sz3,fun t2 ht2=>fin _ _ (.inr ⟨fun z=>by rcases z with z|z;exact d1 z;exact e' z.1,rfl,rfl⟩) t2 ht2⟩
theorem ZQ.cast{cR cM:Addr}{H:Hp}{m rd sd:Addr}{L:List Zv}{s:StL}{nb li lo li' lo':Int}{best:V}(h:ZQ cR cM H m rd sd L s nb li lo best)(e1:li=li')(e2:lo=lo'):ZQ cR cM H m rd sd L s nb li' lo' best:=by subst e1;subst e2;exact h
theorem Zg8{N:List Int}(h:N≠[]):atI (N.map V.int) (-1)=some (.int (N.getLastD 0)):=by
 have e:N=N.dropLast++[N.getLast h]:=(List.dropLast_concat_getLast h).symm
 have:=ZlB (N.dropLast.map V.int) (V.int (N.getLast h))
 rw[Q4,Qac h]
 conv=>lhs;rw[e,Qe]
 exact this
theorem ZgY{N:List Int}(h:N≠[]):atI (N.map V.int) 0=some (.int (N.headD 0)):=by
 cases N with
 | nil=>exact absurd rfl h
 | cons a r=>exact Zaz (j:=0) rfl
theorem Zdw(rd:Addr)(nb li lo:Int)(sd:Addr)(best:V):(mgF rd nb li lo sd best).lookup ("play" : Str)=none:=Za7 _ _ _ _ _ _ (by ac_rfl) (by ac_rfl) (by ac_rfl) (by ac_rfl) (by ac_rfl) (by ac_rfl)
theorem Ze7(rd:Addr)(nb li lo:Int)(sd:Addr)(best:V):(mgF rd nb li lo sd best).lookup ("meet" : Str)=none:=Za7 _ _ _ _ _ _ (by ac_rfl) (by ac_rfl) (by ac_rfl) (by ac_rfl) (by ac_rfl) (by ac_rfl)
def Zlh(K:PySem.W.Frag)(cR cM:Addr)(n:Nat):Sp:=fun vs H Q _=>∃ (m rd sd:Addr) (L:List Zv) (s:StL) (nb li lo:Int) (best:V) (l:Addr) (N:List Int),vs=[.ref m,.ref l]∧ZQ cR cM H m rd sd L s nb li lo best∧H l=some (.lst (N.map V.int))∧1≤N.length∧N.length≤60∧0<n∧N.length≤2 ^ (n-1)∧(∀x∈N,x∈Zs L)∧Z5 N∧(∀k,ZdR n N k→ZM s k=none)∧s.length+N.length≤800 ∧
 ∀ (w:Option Int) (s':StL) (k q:Int) (H':Hp),Win (hdM L) N w→Zed (hdM L) s' n N→ZbF (hdM L) n N k q→(∀j,¬ ZdR n N j→ZM s' j=ZM s j)→s'.length+1≤s.length+N.length→ZQ cR cM H' m rd sd L s' nb (li+k) (lo+q) best→(∀b o,H b=some o→b≠m→b≠sd→H' b=some o)→Q (ZaJ w) H'
theorem ZiI(T:Zak K mg cRow cMerge)(f_Row_head:Mf P w K mg base 2 cRow "head" ["self"] (ZeC cRow))(f_halves:Df P w K mg base 1 "halves" ["numbers"] (ZdL K true))(f_Merge_meet:Mf P w K mg base 3 cMerge "meet" ["self", "one", "other", "far"] (ZhF cRow cMerge)) :
  ∀n:Nat,Mf P w K mg base (n+4) cMerge "play" ["self", "numbers"] (Zlh K cRow cMerge n)
 | 0=>by
  refine T.t_Merge_play.mf Z2 (fun vs H Q E h=>?_) (fun cdv f A outer s H vs Q E hr h=>?_)
  ·obtain⟨m,rd,sd,L,s,nb,li,lo,best,l,N,rfl,_⟩:=h
   rfl
  obtain⟨m,rd,sd,L,s,nb,li,lo,best,l,N,rfl,_,_,_,_,z,_⟩:=h
  exact absurd z (by omega)
 | n+1=>by
  have f_Merge_play:=ZiI T f_Row_head f_halves f_Merge_meet n
  refine T.t_Merge_play.mf Z2 (fun vs H Q E h=>?_) (fun cdv f A outer s H vs Q E hr h=>?_)
  ·obtain⟨m,rd,sd,L,s,nb,li,lo,best,l,N,rfl,_⟩:=h
   rfl
  obtain⟨m,rd,sd,L,s,nb,li,lo',best,l,N,rfl,M,hl,h1,h60,_,hp2,hmem,hup,hfree,hsz,q⟩:=h
  rw[Qaf]at hp2
  refine⟨_,#[Zg,#[Zaw,#[Zt,Zbo,#[Zo,(Zdq K),(by rfl),T.b.n_len,QC,#[Za,‹1›,#[Zf]]],#[Zh],(Zw _)],#[Zi,#[Zr,#[Zbm,#[Zt,Zco,#[ZaC,f_Row_head,T.cl_Row,hr,#[ZN,(ixG hr),#[ZH,‹0›],#[ZN,(ixL K),‹1›,#[Zh]]]],#[Zaj],(Zw _)],#[Zaj],#[ZN,(ixL K),‹1›,#[Zh]]]]],(@ZS _)],#[Zg,#[Za9,#[ZC,f_halves,hr,#[Za,‹1›,#[Zf]],(by rfl)],#[gT,K,2,#[Zz,#[ZL,2,Z2.nd],#[Zz,#[ZL,3,Z2.nd],(@ZaW _)]]]],#[Zg,#[Zy,4,Z2.nd,(Or.inl rfl),#[Zcy,f_Merge_play,T.cl_Merge,hr,‹0›,#[Za,‹2›,#[Zf]]]],#[Zg,#[Zy,5,Z2.nd,(Or.inl rfl),#[Zcy,f_Merge_play,T.cl_Merge,hr,‹0›,#[Za,‹3›,#[Zf]]]],#[Zg,#[Zaw,#[Zt,Zco,‹4›,#[Zaj],(Zw _)],#[Zi,#[Zr,‹5›]],(@ZS _)],#[Zg,#[Zaw,#[Zt,Zco,‹5›,#[Zaj],(Zw _)],#[Zi,#[Zr,‹4›]],(@ZS _)],#[Zg,#[Za9,#[Zcy,f_Merge_meet,T.cl_Merge,hr,‹0›,#[Za,‹4›,#[Za,‹5›,#[Za,#[Zh],#[Zf]]]]],#[gT,K,3,#[Zz,#[ZL,6,Z2.nd],#[Zz,#[ZL,7,Z2.nd],#[Zz,#[ZL,8,Z2.nd],(@ZaW _)]]]]],#[Zg,#[Za9,#[ZaP,#[Za,‹7›,#[Za,‹8›,#[Zf]]]],#[ZdD,#[ZH,‹0›],#[ZaP,#[Za,#[ZN,(ixL K),‹1›,#[Zh]],#[Za,#[ZN,(ixL K),‹1›,(@Zhx _ _ _ _ _ _ Ze4 #[Zh])],#[Zf]]]],(Zj7 hr)]],#[Zi,#[Zr,‹6›]]]]]]]]]],?_⟩
  obtain⟨dx,hm⟩:=M.ob
  have hN:N≠[]:=Z0 h1
  have nml:l≠m:=fun z=>by rw[z,hm]at hl;cases hl
  have nsl:l≠sd:=fun z=>by rw[z,M.stays]at hl;cases hl
  have hll:(((N.map V.int).length:Nat):Int)=(N.length:Int):=by rw[Qa]
  refine⟨_,rfl,l,_,rfl,.inl (SqL.of hl),rfl,_,rfl,Zbt (fun d=>?_) (fun d=>?_)⟩
  ·have hone:N.length=1:=by have:=of_decide_eq_true d;injection this with this;rw[hll]at this;omega
   obtain⟨n0,rfl⟩:∃n0,N=[n0]:=Qaz.mp hone
   obtain⟨e,he,rfl⟩:=ZcY (hmem n0 (by simp))
   have R:=M.each e he
   obtain⟨dp,hp⟩:=R.at'.ob
   have hat:atI (([e.n]:List Int).map V.int) 0=some (.int e.n):=Zaz (j:=0) rfl
   refine⟨_,rfl,xw5 m cMerge dx _ _ ⟨rfl,hm,T.cl_Merge,T.na_Merge_rows,ZaT ..,_,rfl,xw4 l _ _ _ ⟨rfl,rfl,SqL.of hl,hat,rd,_,rfl,Zbq.k' (k:=.inl e.n) M.rows (Zfg M.nd he),e.p,dp,_,rfl,hp,Zbl ..,xw5 e.p e.k e.f e.ss e.g ⟨rfl,R.at',rfl,_,rfl,?_⟩⟩⟩⟩
   have hst:Zed (hdM L) s (n+1) [e.n]:=fun h2=>by simp at h2
   have hpl:ZbF (hdM L) (n+1) [e.n] 0 0:=.few (by show 1<2;decide)
   have hwin:=Win.sing (hd:=hdM L) (n:=e.n)
   have hd:=Zdu M.nd he
   have M':=M.cast (li':=li+0) (lo':=lo'+0) (by omega) (by omega)
   cases hx:e.ss[e.g]? with
   | none =>
    rw[show ZdX e.ss e.g=.non by unfold ZdX;rw[hx]]
    rw[hd,hx]at hwin
    exact ZdT rfl (q none s 0 0 H hwin hst hpl (fun _ _=>rfl) (Qd _) M' (fun b o h _ _=>h))
   | some x =>
    rw[ZdH hx]
    rw[hd,hx]at hwin
    exact Zcu (fun z=>nomatch z) ⟨_,rfl,xw4 l _ _ _ ⟨rfl,rfl,SqL.of hl,hat,q (some e.n) s 0 0 H hwin hst hpl (fun _ _=>rfl) (Qd _) M' (fun b o h _ _=>h)⟩⟩
  have hge:2≤N.length:=by
   have:¬ ((N.length:Int)=1):=fun z=>d (decide_eq_true (by rw[hll,z]))
   omega
  have hn1:1≤n:=by
   cases n with
   | zero=>simp at hp2;omega
   | succ m=>omega
  have hpow:2 ^ n=2*2 ^ (n-1):=by
   obtain⟨m,rfl⟩:∃m,n=m+1:=⟨n-1,by omega⟩
   rw[Nat.pow_succ,Qaf];omega
  have hlo:(lo N).length≤2 ^ (n-1)∧(lo N).length≤60:=by unfold lo mid;rw[Qw];omega
  have hupl:(up N).length≤2 ^ (n-1)∧(up N).length≤60:=by unfold up mid;rw[QL];omega
  have hsum:(lo N).length+(up N).length=N.length:=by rw[← Qp,ZbE]
  have hmlo:∀x∈lo N,x∈Zs L:=fun x hx=>hmem x (Qaj hx)
  have hmup:∀x∈up N,x∈Zs L:=fun x hx=>hmem x (Qak hx)
  refine⟨_,rfl,l,N,rfl,SqL.of hl,by omega,fun t f r H2 ht hf hr' nfr ht2 hf2 hr2 s2 ntf ntr=>?_⟩
  rw[if_pos rfl]at ht2
  rw[Znf]at hf2
  rw[Zn1]at hr2
  refine⟨t,_,rfl,SqT.of ht2,rfl,_,_,rfl,_,_,rfl,rfl,?_⟩
  have M2:=M.same s2
  have hm2:=s2 _ _ hm
  have nfm:r≠m:=(Zb hm hr').symm
  have nfs:r≠sd:=(Zb M.stays hr').symm
  refine⟨_,rfl,m,dx,_,rfl,hm2,Zdw ..,_,rfl,m,rd,sd,L,s,nb,li,lo',best,f,lo N,rfl,M2,hf2,(ZcQ hge).2,hlo.2,hn1,hlo.1,hmlo,Zc7 hup,fun k hk=>hfree k ⟨hge,.inl hk⟩,by omega,fun w1 s1 k1 q1 H3 W1 S1 P1 o1 l1 M3 b3=>?_⟩
  have hr3:=b3 _ _ hr2 nfm nfs
  obtain⟨dx3,hm3⟩:=M3.ob
  refine⟨_,rfl,m,dx3,_,rfl,hm3,Zdw ..,_,rfl,m,rd,sd,L,s1,nb,_,_,best,r,up N,rfl,M3,hr3,(Zdx hge).2,hupl.2,hn1,hupl.1,hmup,Zc8 hup,fun k hk=>?_,by omega,fun w2 s2' k2 q2 H4 W2 S2 P2 o2 l2 M4 b4=>?_⟩
  ·rw[o1 k ((Zgs hup hge hk).2 n)]
   exact hfree k ⟨hge,.inr (.inl hk)⟩
  have key_n:¬ ZdR n (lo N) (ZE N)∧¬ ZdR n (up N) (ZE N):=⟨fun z=>(Zgb hup hge z).1 rfl,fun z=>(Zgs hup hge z).1 rfl⟩
  have S1':Zed (hdM L) s2' n (lo N):=S1.congr n _ (fun _ _=>rfl) (fun k hk=>o2 k ((Zgb hup hge hk).2 n))
  have hk2:ZM s2' (ZE N)=none:=by rw[o2 _ key_n.2,o1 _ key_n.1];exact hfree _ ⟨hge,.inr (.inr rfl)⟩
  have oth:∀j,¬ ZdR (n+1) N j→ZM s2' j=ZM s j:=fun j hj=>by
   rw[o2 j (fun z=>hj ⟨hge,.inr (.inl z)⟩),o1 j (fun z=>hj ⟨hge,.inl z⟩)]
  have b04:∀b o,H b=some o→b≠m→b≠sd→H4 b=some o:=fun b o hb n1 n2=>b4 b o (b3 b o (s2 b o hb) n1 n2) n1 n2
  have none':∀wn,Win (hdM L) N wn→(Win (hdM L) (lo N) none∨Win (hdM L) (up N) none)→Q (ZaJ wn) H4:=fun wn hw hno=>by
   refine q wn s2' (k1+k2) (q1+q2) H4 hw (fun _=>⟨S1',S2,fun a b x y wa wb _ _=>?_,fun _=>.inl hk2⟩) (.none hge P1 P2 hno) oth (by omega) (M4.cast (by omega) (by omega)) b04
   rcases hno with z|z
   ·exact nomatch z.one wa
   ·exact nomatch z.one wb
  cases w1 with
  | none=>exact⟨_,rfl,rfl,_,rfl,ZdT rfl ⟨_,rfl,none' w2 (by have:=Win.right W1 W2;rwa [ZbE]at this) (.inl W1)⟩⟩
  | some a =>
  refine⟨_,rfl,rfl,_,rfl,Zcu (fun z=>nomatch z) ?_⟩
  cases w2 with
  | none=>exact⟨_,rfl,rfl,_,rfl,ZdT rfl ⟨_,rfl,none' (some a) (by have:=Win.left W1 W2;rwa [ZbE]at this) (.inr W2)⟩⟩
  | some b =>
  refine⟨_,rfl,rfl,_,rfl,Zcu (fun z=>nomatch z) ?_⟩
  obtain⟨ea,hea,ea'⟩:=ZcY (hmlo a W1.1)
  obtain⟨eb,heb,eb'⟩:=ZcY (hmup b W2.1)
  subst ea'
  subst eb'
  have hda:=Zdu M.nd hea
  have hdb:=Zdu M.nd heb
  cases hx:ea.ss[ea.g]? with
  | none=>obtain⟨_,z,hz,_⟩:=W1;rw[hda,hx]at hz;cases hz
  | some x =>
  cases hy:eb.ss[eb.g]? with
  | none=>obtain⟨_,z,hz,_⟩:=W2;rw[hdb,hy]at hz;cases hz
  | some y =>
  rw[hx]at hda
  rw[hy]at hdb
  obtain⟨dx4,hm4⟩:=M4.ob
  refine⟨_,rfl,m,dx4,_,rfl,hm4,Ze7 ..,_,rfl,_,rfl,m,rd,sd,L,s2',nb,_,_,best,ea,eb,x,y,0,rfl,M4,hea,heb,hx,hy,Qr _,fun t5 wi lz H5 hw ht5 ht5' M5 b5=>?_⟩
  refine⟨t5,_,rfl,SqT.of ht5',rfl,_,_,rfl,_,_,rfl,_,_,rfl,rfl,?_⟩
  have sz2:2≤sizeLine:=by decide
  refine⟨_,rfl,_,rfl,sz2,fun t6 ht6=>?_⟩
  have s6:=Zj ht6 (.tup [.int lz,.int ((lcp (cds x) (cds y):Nat):Int)])
  have ht66:(upd H5 t6 (.tup [.int lz,.int ((lcp (cds x) (cds y):Nat):Int)])) t6=some (.tup [.int lz,.int ((lcp (cds x) (cds y):Nat):Int)]):=Zd
  have M6:=M5.same s6
  generalize upd H5 t6 (.tup [.int lz,.int ((lcp (cds x) (cds y):Nat):Int)])=H6 at s6 ht66 M6 ⊢
  obtain⟨dx6,hm6⟩:=M6.ob
  have hl6:H6 l=some (.lst (N.map V.int)):=s6 _ _ (b5 _ _ (b04 _ _ hl nml nsl) nml)
  refine⟨_,rfl,xw5 m cMerge dx6 _ _ ⟨rfl,hm6,T.cl_Merge,T.na_Merge_stays,ZbA ..,_,rfl,xw4 l _ _ _ ⟨rfl,rfl,SqL.of hl6,ZgY hN,_,rfl,_,rfl,xw4 l _ _ _ ⟨rfl,rfl,SqL.of hl6,Zg8 hN,sz2,fun t7 ht7=>?_⟩⟩⟩⟩
  have s7:=Zj ht7 (.tup [.int (N.headD 0),.int (N.getLastD 0)])
  have ht77:(upd H6 t7 (.tup [.int (N.headD 0),.int (N.getLastD 0)])) t7=some (.tup ([.inl (ZE N).1,.inl (ZE N).2].map kV)):=Zd
  have M7:=M6.same s7
  generalize upd H6 t7 (.tup [.int (N.headD 0),.int (N.getLastD 0)])=H7 at s7 ht77 M7 ⊢
  have hsl:(kvS s2').length<sizeLine:=by unfold kvS;rw[Qa];exact ZY (by omega)
  refine⟨sd,_,rfl,Zea.t (k:=[.inl (ZE N).1,.inl (ZE N).2]) M7.stays ht77 hsl,?_⟩
  rw[show V.ref t6=stV (some (t6,lz,((lcp (cds x) (cds y):Nat):Int))) from rfl,Zeu]
  have hpl:=ZkJ s2' (ZE N) (some (t6,lz,((lcp (cds x) (cds y):Nat):Int)))
  have l1':=(ZcQ hge).2
  have M8:=M7.put (k:=ZE N) (v:=some (t6,lz,((lcp (cds x) (cds y):Nat):Int))) (fun t ht=>by injection ht with ht;rw[← ht];exact s7 _ _ ht66) (by omega) (M.kb.key hup hge hmem)
  have hne:ea.n≠eb.n:=fun z=>by have:=ZD hup W1.1 W2.1;omega
  have b08:∀b o,H b=some o→b≠m→b≠sd→(upd H7 sd (.dT (kvS (ZbP s2' (ZE N) (some (t6,lz,((lcp (cds x) (cds y):Nat):Int))))))) b=some o:=fun b o hb n1 n2=>by
   rw[Zc n2];exact s7 _ _ (s6 _ _ (b5 _ _ (b04 _ _ hb n1 n2) n1))
  have hwin:Win (hdM L) N (some wi):=by
   rcases hw with⟨w0,rfl,_⟩|⟨w0,rfl,_⟩
   ·have:=Win.both W1 W2 hda hdb w0;rwa [ZbE]at this
   ·have:=Win.both' W1 W2 hda hdb ((Btr.total hne).resolve_left w0);rwa [ZbE]at this
  have hlz:lz=if ZF (cds x) (cds y)<0∨(ZF (cds x) (cds y)=0∧ea.n<eb.n) then eb.n else ea.n:=by
   rcases hw with⟨w0,_,rfl⟩|⟨w0,_,rfl⟩
   ·exact(if_pos (show ZF (cds x) (cds y)<0∨(ZF (cds x) (cds y)=0∧ea.n<eb.n) from w0)).symm
   ·exact(if_neg (show ¬ (ZF (cds x) (cds y)<0∨(ZF (cds x) (cds y)=0∧ea.n<eb.n)) from w0)).symm
  refine⟨_,rfl,q (some wi) _ (k1+k2+1) (q1+q2+(lcp (cds x) (cds y):Nat)+1) _ hwin (fun _=>⟨?_,?_,?_,fun hno=>?_⟩) (.both hge P1 P2 W1 W2 hda hdb) (fun j hj=>?_) (by omega) (M8.cast (by omega) (by omega)) b08⟩
  ·exact S1'.congr n _ (fun _ _=>rfl) (fun k hk=>by rw[ZaF,if_neg (Zgb hup hge hk).1])
  ·exact S2.congr n _ (fun _ _=>rfl) (fun k hk=>by rw[ZaF,if_neg (Zgs hup hge hk).1])
  ·intro a' b' x' y' wa wb hxa hyb
   have e1:=Qh (wa.one W1)
   have e2:=Qh (wb.one W2)
   subst e1
   subst e2
   have e3:=Qh (hxa.symm.trans hda)
   have e4:=Qh (hyb.symm.trans hdb)
   subst e3
   subst e4
   exact⟨t6,by rw[ZaF,if_pos rfl,hlz]⟩
  ·rcases hno with z|z
   ·exact nomatch z.one W1
   ·exact nomatch z.one W2
  ·rw[ZaF,if_neg (fun z=>hj ⟨hge,.inr (.inr z)⟩)]
   exact oth j hj
theorem ZbM.mono{C:Addr}{H H':Hp}{e:Zv}(h:ZbM C H e)(k:∀b o,H b=some o→b=e.p∨b=e.k∨b=e.f→H' b=some o):ZbM C H' e:=by
 obtain⟨dx,hd⟩:=h.at'.ob
 exact⟨⟨⟨dx,k _ _ hd (.inl rfl)⟩,k _ _ h.at'.ks (.inr (.inl rfl)),k _ _ h.at'.fs (.inr (.inr rfl))⟩,h.le,h.len,h.srt,h.str⟩
theorem ZkW(L:List Zv):(kvM L).map (fun kv=>kV kv.1)=(Zs L).map V.int:=by unfold kvM Zs;rw[QF,QF];rfl
theorem Zk0{n:Nat}{N:List Int}{k:Int×Int}(_:ZdR n N k):ZM [] k=none:=rfl
def ZfP(cR cM:Addr):Sp:=fun vs H Q _=>∃ (m rd sd:Addr) (L:List Zv) (s:StL) (nb li lo:Int) (best:V),vs=[.ref m]∧ZQ cR cM H m rd sd L s nb li lo best ∧
 ∀ (sd':Addr) (s':StL) (w:Option Int) (k q:Int) (H':Hp),H sd'=none→Win (hdM L) (Zs L) w→Zed (hdM L) s' 8 (Zs L)→ZbF (hdM L) 8 (Zs L) k q→ZQ cR cM H' m rd sd' L s' nb (li+k) (lo+q) (ZaJ w)→(∀b o,H b=some o→b≠m→H' b=some o)→Q .non H'
theorem ZgH(T:Zak K mg cRow cMerge)(f_Merge_play:Mf P w K mg base 12 cMerge "play" ["self", "numbers"] (Zlh K cRow cMerge 8)):Mf P w K mg base 13 cMerge "play_all" ["self"] (ZfP cRow cMerge):=by
 refine T.t_Merge_play_all.mf ZdW (fun vs H Q E h=>?_) (fun cdv f A outer s H vs Q E hr h=>?_)
 ·obtain⟨m,rd,sd,L,s,nb,li,lo,best,rfl,_⟩:=h
  rfl
 obtain⟨m,rd,sd,L,s,nb,li,lo',best,rfl,M,q⟩:=h
 refine⟨_,#[Zg,#[ZaA,‹0›,(@ZiV _ _)],#[Zi,#[ZaA,‹0›,#[Zbm,#[Zt,Zhk,#[Zo,Zo9,(by rfl),T.b.n_len,QC,#[Za,#[ZH,‹0›],#[Zf]]],#[Zh],(Zw _)],#[Zcy,f_Merge_play,T.cl_Merge,hr,‹0›,#[Za,#[Zch,Zow,T.b.n_list,boot_list,#[Za,#[ZH,‹0›],#[Zf]]],#[Zf]]],#[Zaj]]]]],?_⟩
 refine fun sd' hsd=>?_
 obtain⟨dx,hm⟩:=M.ob
 have s1:=Zj hsd (.dT [])
 have hs1:(upd H sd' (.dT [])) sd'=some (.dT (kvS [])):=Zd
 have M1:=M.same s1
 have hm1:=s1 _ _ hm
 have nms:m≠sd':=Zb hm hsd
 have nrs:rd≠sd':=Zb M.rows hsd
 generalize upd H sd' (.dT [])=H1 at s1 hs1 M1 hm1 ⊢
 refine⟨_,rfl,xw4 m cMerge dx _ ⟨rfl,hm1,T.cl_Merge,T.na_Merge_stays,ZaH ..,?_⟩⟩
 rw[Zdl]
 obtain⟨n1,n2,n3⟩:=M.ne_m
 have M2:ZQ cRow cMerge (upd H1 m (.ins cMerge dx (mgF rd nb li lo' sd' best))) m rd sd' L [] nb li lo' best:=by
  refine⟨⟨dx,Zd⟩,by rw[Zc n1.symm];exact M1.rows,by rw[Zc nms.symm];exact hs1,(fun e he=>by cases he),fun e he=>?_,M.up,M.pd,M.few,by decide,⟨(fun x hx=>by cases hx),M.kb.2⟩⟩
  obtain⟨a,b,c⟩:=M1.ne_p he
  exact(M1.each e he).keep (Zc a.symm) (Zc b.symm) (Zc c.symm)
 have k2:∀b o,H b=some o→b≠m→(upd H1 m (.ins cMerge dx (mgF rd nb li lo' sd' best))) b=some o:=fun b o hb n=>by rw[Zc n];exact s1 b o hb
 generalize upd H1 m (.ins cMerge dx (mgF rd nb li lo' sd' best))=H2 at M2 k2 ⊢
 obtain⟨dx2,hm2⟩:=M2.ob
 have hlen:(((kvM L).length:Nat):Int)=(L.length:Int):=by unfold kvM;rw[Qa]
 have hnl:(Zs L).length=L.length:=by unfold Zs;rw[Qa]
 have hfew:=M.few
 refine⟨_,rfl,xw5 m cMerge dx2 _ _ ⟨rfl,hm2,T.cl_Merge,T.na_Merge_rows,ZaT ..,rd,_,rfl,M2.rows,_,_,rfl,rfl,_,rfl,Zbt (fun d=>?_) (fun d=>?_)⟩⟩
 ·have hpos:0<L.length:=by have:(0:Int)<(((kvM L).length:Nat):Int):=of_decide_eq_true d;omega
  refine⟨_,rfl,m,dx2,_,rfl,hm2,Zdw ..,_,rfl,xw5 m cMerge dx2 _ _ ⟨rfl,hm2,T.cl_Merge,T.na_Merge_rows,ZaT ..,rd,_,rfl,M2.rows,fun l hl=>?_⟩⟩
  rw[ZkW]
  have s3:=Zj hl (.lst ((Zs L).map V.int))
  have hl3:(upd H2 l (.lst ((Zs L).map V.int))) l=some (.lst ((Zs L).map V.int)):=Zd
  have M3:=M2.same s3
  generalize upd H2 l (.lst ((Zs L).map V.int))=H3 at s3 hl3 M3 ⊢
  refine⟨m,rd,sd',L,[],nb,li,lo',best,l,Zs L,rfl,M3,hl3,by omega,by omega,by decide,QG (by omega:(Zs L).length≤60) (by decide),fun x hx=>hx,M.up,fun k hk=>Zk0 hk,by show 0+_≤_;omega,fun w1 s' k q' H4 W S Pl _ _ M4 b4=>?_⟩
  obtain⟨dx4,hm4⟩:=M4.ob
  refine⟨_,rfl,xw4 m cMerge dx4 _ ⟨rfl,hm4,T.cl_Merge,T.na_Merge_best,ZaH ..,?_⟩⟩
  rw[Za6]
  exact q sd' s' w1 k q' _ hsd W S Pl M4.obj (fun b o hb n=>by rw[Zc n];exact b4 b o (s3 b o (k2 b o hb n)) n (Zb hb hsd))
 ·have hnil:L=[]:=by
   cases L with
   | nil=>rfl
   | cons e r=>exact absurd (decide_eq_true (show (0:Int)<(((kvM (e::r)).length:Nat):Int) by rw[hlen];simp only[List.length_cons];omega)) d
  subst hnil
  refine⟨_,rfl,xw4 m cMerge dx2 _ ⟨rfl,hm2,T.cl_Merge,T.na_Merge_best,ZaH ..,?_⟩⟩
  rw[Za6]
  exact q sd' [] none 0 0 _ hsd (Win.nil _) (fun h2=>absurd h2 (by decide)) (.few (by decide)) (M2.obj.cast (by omega) (by omega)) (fun b o hb n=>by rw[Zc n];exact k2 b o hb n)
def ZnU(L:List Zv)(rs:List (Addr×List Str)):Prop:=Zs L=ZcZ 0 rs.length∧L.map (fun e=>(e.ss,e.g))=rs.map fun x=>(x.2,0)
def Zbn(cR cM:Addr):Sp:=fun vs H Q _=>∃ (m dx r:Addr) (rs:List (Addr×List Str)),vs=[.ref m,.ref r]∧H m=some (.ins cM dx [])∧ZaQ H r rs∧(∀x∈rs,sortedS x.2=true) ∧
 ∀ (rd sd:Addr) (L:List Zv) (s:StL) (w:Option Int) (k q:Int) (H':Hp),ZQ cR cM H' m rd sd L s (rs.length:Int) k q (ZaJ w)→ZnU L rs→Win (hdM L) (Zs L) w→Zed (hdM L) s 8 (Zs L)→ZbF (hdM L) 8 (Zs L) k q→(∀b,Fp m rd sd L b→b=m∨H b=none)→(∀b o,H b=some o→b≠m→H' b=some o)→Q .non H'
theorem ZeD(rd:Addr)(nb li lo:Int)(sd:Addr)(best:V):(mgF rd nb li lo sd best).lookup ("play_all" : Str)=none:=Za7 _ _ _ _ _ _ (by ac_rfl) (by ac_rfl) (by ac_rfl) (by ac_rfl) (by ac_rfl) (by ac_rfl)
theorem ZmF{ss:List Str}(h:sortedS ss=true):Zhy ss .non:=by
 refine .inl ⟨rfl,fun i x y hx hy=>?_⟩
 have:=ZfX h i y x hy hx
 have:=Za4 (cds y) (cds x)
 omega
theorem Zfo(T:Zak K mg cRow cMerge)(f_refuse_break:Df P w K mg base 5 "refuse_break" ["number", "keys"] (ZeU K))(f_Row_init:Cf P w K mg base 4 cRow "Row" ["self", "keys"] (Zd3 cRow))(f_Merge_play_all:Mf P w K mg base 13 cMerge "play_all" ["self"] (ZfP cRow cMerge)):Cf P w K mg base 14 cMerge "Merge" ["self", "rows"] (Zbn cRow cMerge):=by
 refine T.t_Merge_init.cf ZbV (fun vs H Q E h=>?_) (fun cdv f A outer s H vs Q E hr h=>?_)
 ·obtain⟨m,dx,r,rs,rfl,_⟩:=h
  rfl
 obtain⟨m,dx,r,rs,rfl,hm,hrs,hsrt,q⟩:=h
 refine⟨_,#[Zg,#[ZaA,‹0›,(@Zle _ _)],#[Zg,#[ZcI,PassesOwn.never,(@iE _ K _ _ _ _ _ _ _ T.b.n_enumerate #[Za,‹1›,#[Zf]] (by rfl) (by rfl) (by rfl)),#[gT,K,2,#[Zz,#[ZL,2,ZbV.nd],#[Zz,#[ZL,3,ZbV.nd],(@ZaW _)]]],#[Zg,#[ZaG,#[ZC,f_refuse_break,hr,#[Za,‹2›,#[Za,‹3›,#[Zf]]],(by rfl)]],#[Zi,#[Za9,#[ZeK,f_Row_init,hr,#[Za,‹3›,#[Zf]]],#[ZdD,#[ZH,‹0›],‹2›,(Zj7 hr)]]]]],#[Zg,#[ZaA,‹0›,#[Zo,(Zdq K),(by rfl),T.b.n_len,QC,#[Za,‹1›,#[Zf]]]],#[Zg,#[ZaA,‹0›,#[Zh]],#[Zg,#[ZaA,‹0›,#[Zh]],#[Zg,#[ZaA,‹0›,(@ZiV _ _)],#[Zg,#[ZaA,‹0›,#[Zaj]],#[Zi,#[ZaG,#[ZaC,f_Merge_play_all,T.cl_Merge,hr,‹0›]]]]]]]]]],?_⟩
 refine fun rd hrd=>?_
 have nmr:m≠rd:=Zb hm hrd
 have s1:=Zj hrd (.dK [])
 have hr1:(upd H rd (.dK [])) rd=some (.dK (kvM [])):=Zd
 have hm1:=s1 _ _ hm
 generalize upd H rd (.dK [])=H1 at s1 hr1 hm1 ⊢
 refine⟨_,rfl,xw4 m cMerge dx _ ⟨rfl,hm1,T.cl_Merge,T.na_Merge_rows,(by show 0<1000;decide),?_⟩⟩
 have nrm:r≠m:=fun z=>by have:=hrs.at';rw[z,hm]at this;cases this
 have k2:∀b o,H b=some o→b≠m→(upd H1 m (.ins cMerge dx (Zm "rows" (.ref rd) []))) b=some o:=fun b o hb n=>by rw[Zc n];exact s1 b o hb
 have hm2:(upd H1 m (.ins cMerge dx (Zm "rows" (.ref rd) []))) m=some (.ins cMerge dx (Zm "rows" (.ref rd) [])):=Zd
 have hr2:(upd H1 m (.ins cMerge dx (Zm "rows" (.ref rd) []))) rd=some (.dK (kvM [])):=by rw[Zc nmr.symm];exact hr1
 generalize upd H1 m (.ins cMerge dx (Zm "rows" (.ref rd) []))=H2 at k2 hm2 hr2 ⊢
 have hfew:=hrs.few
 have lkr:(Zm "rows" (.ref rd) []).lookup ("rows" : Str)=some (V.ref rd):=by rw[Zk,if_pos rfl]
 refine⟨_,rfl,r,_,rfl,SqL.of (k2 _ _ hrs.at' nrm),?_⟩
 refine Zg9 (K:=K) (a:=r) (xs:=rs.map fun x=>V.ref x.1) (fun i σ H5=>∃ (L:List Zv) (v2 v3:Option V),σ=[some (.ref m),some (.ref r),v2,v3]∧H5 m=some (.ins cMerge dx (Zm "rows" (.ref rd) []))∧H5 rd=some (.dK (kvM L))∧(∀e∈L,ZbM cRow H5 e)∧ZnU L (rs.take i)∧(L.map (·.p)).Nodup∧(∀e∈L,H e.p=none∧H e.k=none∧H e.f=none)∧(∀b o,H b=some o→b≠m→H5 b=some o)) ⟨[],_,_,rfl,hm2,hr2,(fun e h=>by cases h),⟨rfl,rfl⟩,List.nodup_nil,(fun e h=>by cases h),k2⟩ (fun i σ H5 hq=>by obtain⟨_,_,_,_,_,_,_,_,_,_,k5⟩:=hq;exact SqL.of (k5 _ _ hrs.at' nrm)) ?_ ?_
 ·rintro i y σ H5 p hy ⟨L,v2,v3,rfl,hm5,hr5,each,⟨n1,n2⟩,pd,hfr,k5⟩ hp
  rw[Qs]at hy
  cases hz:rs[i]? with
  | none=>rw[hz]at hy;cases hy
  | some x =>
  rw[hz]at hy
  cases hy
  have hil:i<rs.length:=(Qf.mp hz).1
  have hxm:=Qy hz
  obtain⟨lx,l100,laz⟩:=hrs.lst x hxm
  have nxm:x.1≠m:=fun z=>by rw[z,hm]at lx;cases lx
  have hLl:L.length=i:=by have:=congrArg List.length n1;unfold Zs at this;rw[Qa,ZeE,Qw]at this;omega
  have hlt:∀e∈L,e.n≠(i:Int):=fun e he z=>by
   have h1:e.n∈ZcZ 0 (rs.take i).length:=by rw[← n1];exact Qj (f:=fun e:Zv=>e.n) he
   unfold ZcZ at h1
   obtain⟨j,hj,ej⟩:=QE.mp h1
   have:=Q7.mp hj
   rw[Qw]at this
   omega
  have sp:=Zj hp (.tup [.int (i:Int),.ref x.1])
  have hp6:(upd H5 p (.tup [.int (i:Int),.ref x.1])) p=some (.tup [.int (i:Int),.ref x.1]):=Zd
  generalize upd H5 p (.tup [.int (i:Int),.ref x.1])=H6 at sp hp6 ⊢
  refine⟨p,_,rfl,SqT.of hp6,rfl,_,_,rfl,_,_,rfl,rfl,?_⟩
  have lx6:H6 x.1=some (.lst (x.2.map V.str)):=sp _ _ (k5 _ _ lx nxm)
  refine⟨_,rfl,_,rfl,(i:Int),x.1,x.2,rfl,SqL.of lx6,by omega,fun s hs=>(laz s hs).1,ZmF (hsrt x hxm),fun H7 s7=>?_⟩
  have s57:=sp.trans s7
  refine⟨_,rfl,fun u dy hu hdy ndu=>?_⟩
  have hu5:H5 u=none:=s57.free hu
  have lx8:(upd (upd H7 dy (.own u)) u (.ins cRow dy [])) x.1=some (.lst (x.2.map V.str)):=by
   have:=s7 _ _ lx6
   rw[Zc (Zb this hu),Zc (Zb this hdy)];exact this
  have s8:∀b o,H5 b=some o→(upd (upd H7 dy (.own u)) u (.ins cRow dy [])) b=some o:=fun b o hb=>by
   have:=s57 _ _ hb
   rw[Zc (Zb this hu),Zc (Zb this hdy)];exact this
  have hu8:(upd (upd H7 dy (.own u)) u (.ins cRow dy [])) u=some (.ins cRow dy []):=Zd
  generalize upd (upd H7 dy (.own u)) u (.ins cRow dy [])=H8 at lx8 s8 hu8 ⊢
  refine⟨u,dy,x.1,x.2,rfl,hu8,lx8,l100,fun s hs=>(laz s hs).1,fun k f H9 hk hf nkf R k9=>⟨rfl,?_⟩⟩
  have s9:∀b o,H5 b=some o→H9 b=some o:=fun b o hb=>k9 b o (s8 b o hb) (Zb hb hu5)
  have free5:∀b,H8 b=none→H5 b=none:=fun b hb=>by
   cases e:H5 b with
   | none=>rfl
   | some o=>rw[s8 b o e]at hb;cases hb
  have free0:∀b,b≠m→H5 b=none→H b=none:=fun b nb hb=>by
   cases e:H b with
   | none=>rfl
   | some o=>rw[k5 b o e nb]at hb;cases hb
  have num:u≠m:=fun z=>by rw[z,hm5]at hu5;cases hu5
  have nkm:k≠m:=fun z=>by have:=free5 k hk;rw[z,hm5]at this;cases this
  have nfm:f≠m:=fun z=>by have:=free5 f hf;rw[z,hm5]at this;cases this
  have nrd:rd≠u∧rd≠k∧rd≠f:=⟨Zb hr5 hu5,Zb hr5 (free5 k hk),Zb hr5 (free5 f hf)⟩
  have hsz:(kvM L).length<sizeLine:=by unfold kvM;rw[Qa];exact ZY (by omega)
  have hn1:Za1 (kvM L) (.inl (i:Int))=none:=by
   cases hv:Za1 (kvM L) (.inl (i:Int)) with
   | none=>rfl
   | some v=>obtain⟨e,he,z⟩:=QE.mp (Zg5 hv);injection z with z _;exact absurd (Sum.inl.inj z) (hlt e he)
  refine⟨_,rfl,xw5 m cMerge dx _ _ ⟨rfl,s9 _ _ hm5,T.cl_Merge,T.na_Merge_rows,lkr,_,rfl,rd,_,rfl,Zea.k (k:=.inl (i:Int)) (s9 _ _ hr5) hsz,?_⟩⟩
  rw[Zhi _ hn1,show kvM L++[((.inl (i:Int):Key),V.ref u)]=kvM (L++[⟨(i:Int),u,k,f,x.2,0⟩]) by unfold kvM;rw[Qe];rfl]
  refine⟨L++[⟨(i:Int),u,k,f,x.2,0⟩],_,_,rfl,by rw[Zc nmr];exact s9 _ _ hm5,Zd,fun e he=>?_,⟨?_,?_⟩,?_,fun e he=>?_,fun b o hb n=>?_⟩
  ·rcases Qq.mp he with he|he
   ·have re:=each e he
    obtain⟨de,hde⟩:=re.at'.ob
    refine re.mono fun b o hb hor=>?_
    have nb:b≠rd:=fun z=>by
     rw[z,hr5]at hb
     injection hb with hb
     subst hb
     rcases hor with z2|z2|z2
     ·rw[← z2,z,hr5]at hde;cases hde
     ·have:=re.at'.ks;rw[← z2,z,hr5]at this;cases this
     ·have:=re.at'.fs;rw[← z2,z,hr5]at this;cases this
    rw[Zc nb];exact s9 b o hb
   ·rw[Ql.mp he]
    refine ZbM.keep (H:=H9) ⟨R,Qr _,l100,hsrt x hxm,laz⟩ (Zc nrd.1.symm) (Zc nrd.2.1.symm) (Zc nrd.2.2.symm)
  ·unfold Zs at n1 ⊢
   rw[Qe,n1,Qw,Qw,Nat.min_eq_left (by omega),Nat.min_eq_left (by omega)]
   unfold ZcZ
   rw[List.range_succ,Qe]
   simp
  ·rw[Qe,n2,QK,hz,Qe];rfl
  ·rw[Qe]
   refine List.nodup_append.mpr ⟨pd,by simp,fun a ha b hb=>?_⟩
   obtain⟨e,he,rfl⟩:=QE.mp ha
   have:b=u:=by simpa using hb
   rw[this]
   obtain⟨de,hde⟩:=(each e he).at'.ob
   exact Zb hde hu5
  ·rcases Qq.mp he with he|he
   ·exact hfr e he
   ·rw[Ql.mp he]
    exact⟨free0 u num hu5,free0 k nkm (free5 k hk),free0 f nfm (free5 f hf)⟩
  ·rw[Zc (Zb hb hrd)];exact s9 b o (k5 b o hb n)
 ·rintro σ H5 ⟨L,v2,v3,rfl,hm5,hr5,each,hnew,pd,hfr,k5⟩
  rw[Qa,QD (Qd _)]at hnew
  have p1:=Zbi "rows" (V.ref rd) []
  have p2:=Zbi "next_number" (V.int (rs.length:Int)) (Zm "rows" (.ref rd) [])
  have p3:=Zbi "likened" (V.int 0) (Zm "next_number" (.int (rs.length:Int)) (Zm "rows" (.ref rd) []))
  have p4:=Zbi "looked" (V.int 0) (Zm "likened" (.int 0) (Zm "next_number" (.int (rs.length:Int)) (Zm "rows" (.ref rd) [])))
  have p0:([]:List (Str×V)).length=0:=rfl
  refine⟨_,rfl,r,_,rfl,.inl (SqL.of (k5 _ _ hrs.at' nrm)),_,rfl,xw4 m cMerge dx _ ⟨rfl,hm5,T.cl_Merge,T.na_Merge_next_number,by omega,?_⟩⟩
  rw[Qa]
  refine⟨_,rfl,xw4 m cMerge dx _ ⟨rfl,Zd,T.cl_Merge,T.na_Merge_likened,by omega,?_⟩⟩
  refine⟨_,rfl,xw4 m cMerge dx _ ⟨rfl,Zd,T.cl_Merge,T.na_Merge_looked,by omega,?_⟩⟩
  have k8:∀b,b≠m→(upd (upd (upd H5 m (.ins cMerge dx (Zm "next_number" (.int (rs.length:Int)) (Zm "rows" (.ref rd) [])))) m (.ins cMerge dx (Zm "likened" (.int 0) (Zm "next_number" (.int (rs.length:Int)) (Zm "rows" (.ref rd) []))))) m (.ins cMerge dx (Zm "looked" (.int 0) (Zm "likened" (.int 0) (Zm "next_number" (.int (rs.length:Int)) (Zm "rows" (.ref rd) [])))))) b=H5 b:=fun b n=>by rw[Zc n,Zc n,Zc n]
  have hm8:(upd (upd (upd H5 m (.ins cMerge dx (Zm "next_number" (.int (rs.length:Int)) (Zm "rows" (.ref rd) [])))) m (.ins cMerge dx (Zm "likened" (.int 0) (Zm "next_number" (.int (rs.length:Int)) (Zm "rows" (.ref rd) []))))) m (.ins cMerge dx (Zm "looked" (.int 0) (Zm "likened" (.int 0) (Zm "next_number" (.int (rs.length:Int)) (Zm "rows" (.ref rd) [])))))) m=some (.ins cMerge dx (Zm "looked" (.int 0) (Zm "likened" (.int 0) (Zm "next_number" (.int (rs.length:Int)) (Zm "rows" (.ref rd) []))))):=Zd
  generalize (upd (upd (upd H5 m (.ins cMerge dx (Zm "next_number" (.int (rs.length:Int)) (Zm "rows" (.ref rd) [])))) m (.ins cMerge dx (Zm "likened" (.int 0) (Zm "next_number" (.int (rs.length:Int)) (Zm "rows" (.ref rd) []))))) m (.ins cMerge dx (Zm "looked" (.int 0) (Zm "likened" (.int 0) (Zm "next_number" (.int (rs.length:Int)) (Zm "rows" (.ref rd) []))))))=H8 at k8 hm8 ⊢
  refine fun sd hsd=>?_
  have nms:m≠sd:=Zb hm8 hsd
  have p5:=Zbi "stays" (V.ref sd) (Zm "looked" (.int 0) (Zm "likened" (.int 0) (Zm "next_number" (.int (rs.length:Int)) (Zm "rows" (.ref rd) []))))
  refine⟨_,rfl,xw4 m cMerge dx _ ⟨rfl,by rw[Zc nms];exact hm8,T.cl_Merge,T.na_Merge_stays,by omega,?_⟩⟩
  refine⟨_,rfl,xw4 m cMerge dx _ ⟨rfl,Zd,T.cl_Merge,T.na_Merge_best,by omega,?_⟩⟩
  have hsd5:H5 sd=none:=by rw[← k8 sd nms.symm];exact hsd
  have hm9:(upd (upd (upd H8 sd (.dT [])) m (.ins cMerge dx (Zm "stays" (.ref sd) (Zm "looked" (.int 0) (Zm "likened" (.int 0) (Zm "next_number" (.int (rs.length:Int)) (Zm "rows" (.ref rd) []))))))) m (.ins cMerge dx (Zm "best" .non (Zm "stays" (.ref sd) (Zm "looked" (.int 0) (Zm "likened" (.int 0) (Zm "next_number" (.int (rs.length:Int)) (Zm "rows" (.ref rd) [])))))))) m=some (.ins cMerge dx (mgF rd (rs.length:Int) 0 0 sd .non)):=by rw[Za0];exact Zd
  have hs9:(upd (upd (upd H8 sd (.dT [])) m (.ins cMerge dx (Zm "stays" (.ref sd) (Zm "looked" (.int 0) (Zm "likened" (.int 0) (Zm "next_number" (.int (rs.length:Int)) (Zm "rows" (.ref rd) []))))))) m (.ins cMerge dx (Zm "best" .non (Zm "stays" (.ref sd) (Zm "looked" (.int 0) (Zm "likened" (.int 0) (Zm "next_number" (.int (rs.length:Int)) (Zm "rows" (.ref rd) [])))))))) sd=some (.dT (kvS [])):=by rw[Zc nms.symm,Zc nms.symm];exact Zd
  have k9:∀b o,H5 b=some o→b≠m→(upd (upd (upd H8 sd (.dT [])) m (.ins cMerge dx (Zm "stays" (.ref sd) (Zm "looked" (.int 0) (Zm "likened" (.int 0) (Zm "next_number" (.int (rs.length:Int)) (Zm "rows" (.ref rd) []))))))) m (.ins cMerge dx (Zm "best" .non (Zm "stays" (.ref sd) (Zm "looked" (.int 0) (Zm "likened" (.int 0) (Zm "next_number" (.int (rs.length:Int)) (Zm "rows" (.ref rd) [])))))))) b=some o:=fun b o hb n=>by rw[Zc n,Zc n,Zc (Zb hb hsd5),k8 b n];exact hb
  generalize (upd (upd (upd H8 sd (.dT [])) m (.ins cMerge dx (Zm "stays" (.ref sd) (Zm "looked" (.int 0) (Zm "likened" (.int 0) (Zm "next_number" (.int (rs.length:Int)) (Zm "rows" (.ref rd) []))))))) m (.ins cMerge dx (Zm "best" .non (Zm "stays" (.ref sd) (Zm "looked" (.int 0) (Zm "likened" (.int 0) (Zm "next_number" (.int (rs.length:Int)) (Zm "rows" (.ref rd) []))))))))=H9 at hm9 hs9 k9 ⊢
  have hLl:L.length=rs.length:=by have:=congrArg List.length hnew.1;unfold Zs at this;rw[Qa,ZeE]at this;exact this
  have M9:ZQ cRow cMerge H9 m rd sd L [] (rs.length:Int) 0 0 .non:=by
   refine⟨⟨dx,hm9⟩,k9 _ _ hr5 nmr.symm,hs9,(fun e he=>by cases he),fun e he=>?_,by rw[hnew.1];exact Zg7 _,pd,by omega,by decide,⟨(fun x hx=>by cases hx),fun n hn=>by rw[hnew.1]at hn;unfold ZcZ at hn;obtain⟨j,hj,ej⟩:=QE.mp hn;have:=Q7.mp hj;omega⟩⟩
   have re:=each e he
   obtain⟨de,hde⟩:=re.at'.ob
   refine re.mono fun b o hb hor=>k9 b o hb fun z=>?_
   have hf:=hfr e he
   have hm':=hm
   rw[← z]at hm'
   rcases hor with z2|z2|z2
   ·rw[z2,hf.1]at hm';cases hm'
   ·rw[z2,hf.2.1]at hm';cases hm'
   ·rw[z2,hf.2.2]at hm';cases hm'
  refine⟨_,rfl,m,dx,_,rfl,hm9,ZeD ..,m,rd,sd,L,[],_,0,0,.non,rfl,M9,fun sd' s' w1 k q' H10 hsd' W S Pl M10 b10=>?_⟩
  have free0:∀b,b≠m→H9 b=none→H b=none:=fun b nb hb=>by
   cases e:H b with
   | none=>rfl
   | some o=>rw[k9 b o (k5 b o e nb) nb]at hb;cases hb
  refine q rd sd' L s' w1 k q' H10 (M10.cast (by omega) (by omega)) hnew W S Pl (fun b hb=>?_) (fun b o hb n=>b10 b o (k9 b o (k5 b o hb n) n) n)
  rcases hb with rfl|rfl|rfl|⟨e,he,hb⟩
  ·exact .inl rfl
  ·exact .inr hrd
  ·exact .inr (free0 _ (fun z=>by rw[z,hm9]at hsd';cases hsd') hsd')
  ·have hf:=hfr e he
   rcases hb with rfl|rfl|rfl
   ·exact .inr hf.1
   ·exact .inr hf.2.1
   ·exact .inr hf.2.2
def Zkg(cR cM:Addr):Sp:=fun vs H Q _=>∃ (m rd sd:Addr) (L:List Zv) (s:StL) (nb li lo:Int) (best:V),vs=[.ref m]∧ZQ cR cM H m rd sd L s nb li lo best∧Q (.int li) H
def Zky(cR cM:Addr):Sp:=fun vs H Q _=>∃ (m rd sd:Addr) (L:List Zv) (s:StL) (nb li lo:Int) (best:V),vs=[.ref m]∧ZQ cR cM H m rd sd L s nb li lo best∧Q (.int lo) H
theorem ZgE(T:Zak K mg cRow cMerge):Mf P w K mg base 1 cMerge "likenings" ["self"] (Zkg cRow cMerge):=by
 refine T.t_Merge_likenings.mf Zdr (fun vs H Q E h=>?_) (fun cdv f A outer s H vs Q E hr h=>?_)
 ·obtain⟨m,rd,sd,L,s,nb,li,lo,best,rfl,_⟩:=h
  rfl
 obtain⟨m,rd,sd,L,s,nb,li,lo,best,rfl,M,q⟩:=h
 refine⟨_,#[Zi,#[Zr,#[ZH,‹0›]]],?_⟩
 obtain⟨dx,hm⟩:=M.ob
 exact⟨_,rfl,xw5 m cMerge dx _ _ ⟨rfl,hm,T.cl_Merge,T.na_Merge_likened,ZbT ..,q⟩⟩
theorem Zlq(T:Zak K mg cRow cMerge):Mf P w K mg base 1 cMerge "looks" ["self"] (Zky cRow cMerge):=by
 refine T.t_Merge_looks.mf ZeZ (fun vs H Q E h=>?_) (fun cdv f A outer s H vs Q E hr h=>?_)
 ·obtain⟨m,rd,sd,L,s,nb,li,lo,best,rfl,_⟩:=h
  rfl
 obtain⟨m,rd,sd,L,s,nb,li,lo,best,rfl,M,q⟩:=h
 refine⟨_,#[Zi,#[Zr,#[ZH,‹0›]]],?_⟩
 obtain⟨dx,hm⟩:=M.ob
 exact⟨_,rfl,xw5 m cMerge dx _ _ ⟨rfl,hm,T.cl_Merge,T.na_Merge_looked,ZdE ..,q⟩⟩
def ZeO(cR cM:Addr):Sp:=fun vs H Q _=>∃ (m rd sd:Addr) (L:List Zv) (s:StL) (nb li lo:Int) (w:Option Int),vs=[.ref m]∧ZQ cR cM H m rd sd L s nb li lo (ZaJ w)∧Win (hdM L) (Zs L) w∧∀ (x:V) (H':Hp),ZmT (L.map toL) H' x→Zu H H'→Q x H'
theorem ZjZ(T:Zak K mg cRow cMerge)(f_Row_head:Mf P w K mg base 2 cRow "head" ["self"] (ZeC cRow)):Mf P w K mg base 3 cMerge "coming" ["self"] (ZeO cRow cMerge):=by
 refine T.t_Merge_coming.mf Zcv (fun vs H Q E h=>?_) (fun cdv f A outer s H vs Q E hr h=>?_)
 ·obtain⟨m,rd,sd,L,s,nb,li,lo,w,rfl,_⟩:=h
  rfl
 obtain⟨m,rd,sd,L,s,nb,li,lo,w,rfl,M,W,q⟩:=h
 refine⟨_,#[Zg,#[Zaw,#[Zt,Zco,#[ZH,‹0›],#[Zaj],(Zw _)],#[Zi,#[Zr,#[Zaj]]],(@ZS _)],#[Zg,#[Zy,1,Zcv.nd,(Or.inl rfl),#[ZN,(ixG hr),#[ZH,‹0›],#[ZH,‹0›]]],#[Zi,#[Zr,#[ZaP,#[Za,#[ZH,‹0›],#[Za,#[ZH,‹1›],#[Za,#[ZaC,f_Row_head,T.cl_Row,hr,‹1›],#[Zf]]]]]]]]],?_⟩
 obtain⟨dx,hm⟩:=M.ob
 refine⟨_,rfl,xw5 m cMerge dx _ _ ⟨rfl,hm,T.cl_Merge,T.na_Merge_best,Zb3 ..,rfl,_,rfl,?_⟩⟩
 have W':Win (hdL (L.map toL)) ((L.map toL).map (·.1)) w:=by rw[Zcb];exact W
 cases w with
 | none=>exact ZdT rfl (q _ H (.inl ⟨rfl,W'⟩) (Zu.refl H))
 | some a =>
  obtain⟨e,he,rfl⟩:=ZcY W.1
  have R:=M.each e he
  obtain⟨dp,hp⟩:=R.at'.ob
  have hd:=Zdu M.nd he
  cases hx:e.ss[e.g]? with
  | none=>obtain⟨_,z,hz,_⟩:=W;rw[hd,hx]at hz;cases hz
  | some x =>
  refine Zcu (fun z=>nomatch z) ?_
  refine⟨_,rfl,xw5 m cMerge dx _ _ ⟨rfl,hm,T.cl_Merge,T.na_Merge_rows,ZaT ..,_,rfl,xw5 m cMerge dx _ _ ⟨rfl,hm,T.cl_Merge,T.na_Merge_best,Zb3 ..,rd,_,rfl,Zbq.k' (k:=.inl e.n) M.rows (Zfg M.nd he),?_⟩⟩⟩
  refine⟨_,rfl,xw5 m cMerge dx _ _ ⟨rfl,hm,T.cl_Merge,T.na_Merge_best,Zb3 ..,_,rfl,e.p,cRow,dp,_,_,rfl,hp,T.cl_Row,T.na_Row_gone,ZbB ..,_,rfl,e.p,dp,_,rfl,hp,Zbl ..,xw5 e.p e.k e.f e.ss e.g ⟨rfl,R.at',(by show 3≤sizeLine;decide),fun t ht=>?_⟩⟩⟩
  rw[ZdH hx]
  exact q _ _ (.inr ⟨t,toL e,x,rfl,Qj he,hx,Zd,W'⟩) (Zj ht _)
def ZiN(cR cM:Addr):Sp:=fun vs H Q _=>∃ (m rd sd:Addr) (L:List Zv) (s:StL) (nb li lo:Int) (best:V),vs=[.ref m]∧ZQ cR cM H m rd sd L s nb li lo best∧∀H':Hp,Zu H H'→Q (.int (ZcE (L.map toL)).sum) H'
theorem Zf9(k f:Addr)(g:Int):(ZbO k f g).lookup ("to_go" : Str)=none:=Zes _ _ _ (by ac_rfl) (by ac_rfl) (by ac_rfl)
theorem ZkA(T:Zak K mg cRow cMerge)(f_Row_to_go:Mf P w K mg base 1 cRow "to_go" ["self"] (Zii cRow)):Mf P w K mg base 2 cMerge "left" ["self"] (ZiN cRow cMerge):=by
 refine T.t_Merge_left.mf Zfi (fun vs H Q E h=>?_) (fun cdv f A outer s H vs Q E hr h=>?_)
 ·obtain⟨m,rd,sd,L,s,nb,li,lo,best,rfl,_⟩:=h
  rfl
 obtain⟨m,rd,sd,L,s,nb,li,lo,best,rfl,M,q⟩:=h
 refine⟨_,#[Zi,#[Zr,#[Zo,(Zoq K),(by rfl),T.b.n_sum,boot_sum,#[Za,(@ZiY _ _ _ #[Zbe,ZnW,(@Zma _ _ _ _ _ _ #[ZH,‹0›] (by rfl) (by rfl)),(fun _ _ _ _=>#[cg,1,ZnW]),(fun _ _ _ _=>(@Za5 _)),(fun _ _ _ _=>#[ZaC,f_Row_to_go,T.cl_Row,hr,#[cw,1,ZnW]])]),#[Zf]]]]],?_⟩
 obtain⟨dx,hm⟩:=M.ob
 have hfew:=M.few
 refine⟨rd,_,M.rows,True.intro,_,rfl,xw5 m cMerge dx _ _ ⟨rfl,hm,T.cl_Merge,T.na_Merge_rows,ZaT ..,rd,_,rfl,M.rows,fun ob B hB=>?_⟩⟩
 have hfz:(upd H rd (.frz ob (.dK (kvM L)))) rd=some (.frz ob (.dK (kvM L))):=Zd
 have k1:∀b x,H b=some x→b≠rd→(upd H rd (.frz ob (.dK (kvM L)))) b=some x:=fun b x h n=>by rw[Zc n];exact h
 generalize upd H rd (.frz ob (.dK (kvM L)))=H1 at hfz k1 hB ⊢
 refine Zmz (d:=rd) (o:=ob) (kvs:=kvM L) (fun i zs σ H2=>(∃v:Option V,σ=[some (.ref m),v])∧zs=(ZcE ((L.take i).map toL)).map V.int∧i≤L.length∧H2 B=some (.lst zs)∧Zu H1 H2) ?_ (fun _ _ _ _ h=>h.2.2.2.2 _ _ hfz) ?_ ?_
 ·exact⟨⟨none,rfl⟩,rfl,Qr _,Zd,Zj hB _⟩
 ·rintro i k x zs σ H2 hkx ⟨⟨v,rfl⟩,rfl,hi,hB2,s2⟩
  unfold kvM at hkx
  rw[Qs]at hkx
  cases hu:L[i]? with
  | none=>rw[hu]at hkx;cases hkx
  | some e =>
  rw[hu]at hkx
  cases hkx
  have hil:i<L.length:=(Qf.mp hu).1
  have he:=Qy hu
  have R:=M.each e he
  obtain⟨_,_,_,n1,n2,n3⟩:=M.ne_sd he
  have R2:ZbM cRow H2 e:=R.mono fun b o hb hor=>s2 _ _ (k1 b o hb (by rcases hor with z|z|z<;>rw[z];exact n1.symm;exact n2.symm;exact n3.symm))
  obtain⟨dp,hp⟩:=R2.at'.ob
  refine⟨_,rfl,e.p,dp,_,rfl,hp,Zf9 ..,xw5 e.p e.k e.f e.ss e.g ⟨rfl,R2.at',hB2,(by unfold ZcE;rw[Qa,Qa,Qa,Qw];exact ZY (by omega)),⟨_,rfl⟩,?_,hil,Zd,fun b x hb=>?_⟩⟩
  ·rw[QK,hu,Qe]
   unfold ZcE
   rw[Qe,Qe];rfl
  ·rw[Zc (Zb hb hB)];exact s2 b x hb
 rintro zs σ H2 ⟨⟨v,rfl⟩,rfl,_,hB2,s2⟩
 have hkl:(kvM L).length=L.length:=by unfold kvM;rw[Qa]
 rw[hkl,QD (Qd _)]at hB2
 refine⟨ob,s2 _ _ hfz,?_⟩
 have hB3:(upd H2 rd (.dK (kvM L))) B=some (.lst ((ZcE (L.map toL)).map V.int)):=by rw[Zc (Zb hfz hB).symm];exact hB2
 have s3:Zu H (upd H2 rd (.dK (kvM L))):=fun b x hb=>by
  by_cases e:b=rd
  ·rw[e,M.rows]at hb;rw[e,Zd];exact hb
  ·rw[Zc e];exact s2 _ _ (k1 b x hb e)
 generalize upd H2 rd (.dK (kvM L))=H3 at hB3 s3 ⊢
 refine⟨B,ZcE (L.map toL),rfl,SqL.of hB3,(by unfold ZcE;rw[Qa,Qa];omega),fun n hn=>?_,q H3 s3⟩
 unfold ZcE at hn
 obtain⟨e',he',rfl⟩:=QE.mp hn
 obtain⟨e,he,rfl⟩:=QE.mp he'
 have R:=M.each e he
 have a1:=R.le
 have a2:=R.len
 show 0≤((e.ss.length:Int)-(e.g:Int))∧((e.ss.length:Int)-(e.g:Int))≤_
 omega
def Zph(L:List ZaL):List (Int×Option Str):=L.map fun e=>(e.1,e.2.2.1[e.2.2.2]?)
def Zob(H:Hp)(l:Addr)(E:List (Int×Option Str)):Prop:=∃ts:List (Addr×Int×Option Str),ts.map (·.2)=E∧H l=some (.lst (ts.map fun t=>V.ref t.1))∧∀t∈ts,H t.1=some (.tup [.int t.2.1,oV t.2.2])
theorem Zlu(ss:List Str)(g:Nat):ZdX ss g=oV ss[g]?:=by unfold ZdX oV;cases ss[g]?<;>rfl
def spHeadsM(cR cM:Addr):Sp:=fun vs H Q _=>∃ (m rd sd:Addr) (L:List Zv) (s:StL) (nb li lo:Int) (best:V),vs=[.ref m]∧ZQ cR cM H m rd sd L s nb li lo best∧∀ (l:Addr) (H':Hp),H l=none→Zob H' l (Zph (L.map toL))→Zu H H'→Q (.ref l) H'
def Agr(Lo:List ZaL)(L:List Zv):Prop:=Lo.map (fun e=>(e.1,e.2.2))=L.map (fun e=>(e.n,(e.ss,e.g)))
theorem Zi1:∀ (A B:List ZaL),A.map (fun e=>(e.1,e.2.2))=B.map (fun e=>(e.1,e.2.2))→hdL A=hdL B
 | [],[],_=>rfl
 | [],_::_,h=>by cases h
 | _::_,[],h=>by cases h
 | a::A,b::B,h=>by
  rw[Qg,Qg]at h
  injection h with h1 h2
  injection h1 with h3 h4
  have ih:=Zi1 A B h2
  funext n
  have ihn:=congrFun ih n
  unfold hdL at ihn ⊢
  rw[Qas,Qas,h3]
  split
  ·simp only[Option.bind_some];rw[h4]
  ·exact ihn
theorem ZdQ{α β:Type}:∀ {P:List (α×β)},(P.map (·.1)).Nodup→∀ {p q:α×β},p∈P→q∈P→p.1=q.1→p=q
 | [],_,_,_,h,_,_=>by cases h
 | x::r,nd,p,q,hp,hq,e=>by
  rw[Qg,QN]at nd
  rcases QA.mp hp with h1|h1
  ·rcases QA.mp hq with h2|h2
   ·rw[h1,h2]
   ·exact absurd (show x.1∈r.map (·.1) by rw[← h1,e];exact Qj (f:=fun x:α×β=>x.1) h2) nd.1
  ·rcases QA.mp hq with h2|h2
   ·exact absurd (show x.1∈r.map (·.1) by rw[← h2,← e];exact Qj (f:=fun x:α×β=>x.1) h1) nd.1
   ·exact ZdQ nd.2 h1 h2 e
def Zo2(x:V):Prop:=x=.non∨(∃b,x=.bl b)∨(∃i,x=.int i)∨∃s,x=.str s
structure F2 (R:V→V→Prop) (xs ys:List V):Prop where
 len:xs.length=ys.length
 at':∀ (i:Nat) (x y:V),xs[i]? = some x→ys[i]? = some y→R x y
theorem F2.nil{R:V→V→Prop}:F2 R [] []:=⟨rfl,fun i x y h=>by simp at h⟩
theorem F2.cons{R:V→V→Prop}{x y:V}{xs ys:List V}(h:R x y)(t:F2 R xs ys):F2 R (x::xs) (y::ys):=by
 refine⟨by rw[QI,QI,t.len],fun i a b ha hb=>?_⟩
 cases i with
 | zero=>simp at ha hb;rw[← ha,← hb];exact h
 | succ i=>exact t.at' i a b (by simpa using ha) (by simpa using hb)
theorem ZgU{H:Hp}{n:Nat}{x:V}(h:Zo2 x):IsD H (n+1) x x:=.inl ⟨rfl,h⟩
theorem Zev{H:Hp}{n:Nat}(i:Int):IsD H (n+1) (.int i) (.int i):=ZgU (.inr (.inr (.inl ⟨i,rfl⟩)))
theorem ZdG{H:Hp}{n:Nat}{p q:Addr}{xs ys:List V}(hp:H p=some (.lst xs))(hq:H q=some (.lst ys))(h:xs.length≤1000)(f:F2 (IsD H n) xs ys):IsD H (n+1) (.ref p) (.ref q):=.inr ⟨p,q,xs,ys,rfl,rfl,.inl ⟨hp,hq⟩,f.len,h,f.at'⟩
theorem ZiP{H:Hp}{n:Nat}{p q:Addr}{xs ys:List V}(hp:H p=some (.tup xs))(hq:H q=some (.tup ys))(h:xs.length≤1000)(f:F2 (IsD H n) xs ys):IsD H (n+1) (.ref p) (.ref q):=.inr ⟨p,q,xs,ys,rfl,rfl,.inr ⟨hp,hq⟩,f.len,h,f.at'⟩
theorem Zcz(rd:Addr)(nb li lo:Int)(sd:Addr)(best:V):(mgF rd nb li lo sd best).lookup ("likenings" : Str)=none:=Za7 _ _ _ _ _ _ (by ac_rfl) (by ac_rfl) (by ac_rfl) (by ac_rfl) (by ac_rfl) (by ac_rfl)
theorem Zep(rd:Addr)(nb li lo:Int)(sd:Addr)(best:V):(mgF rd nb li lo sd best).lookup ("looks" : Str)=none:=Za7 _ _ _ _ _ _ (by ac_rfl) (by ac_rfl) (by ac_rfl) (by ac_rfl) (by ac_rfl) (by ac_rfl)
theorem ZdI(rd:Addr)(nb li lo:Int)(sd:Addr)(best:V):(mgF rd nb li lo sd best).lookup ("coming" : Str)=none:=Za7 _ _ _ _ _ _ (by ac_rfl) (by ac_rfl) (by ac_rfl) (by ac_rfl) (by ac_rfl) (by ac_rfl)
theorem Zh9(rd:Addr)(nb li lo:Int)(sd:Addr)(best:V):(mgF rd nb li lo sd best).lookup ("left" : Str)=none:=Za7 _ _ _ _ _ _ (by ac_rfl) (by ac_rfl) (by ac_rfl) (by ac_rfl) (by ac_rfl) (by ac_rfl)
def spStands(cR cM:Addr):Sp:=fun vs H Q _=>∃ (m rd sd:Addr) (L:List Zv) (s:StL) (nb li lo:Int) (w:Option Int) (o ra ga:Addr) (Lo:List ZaL) (nb':Int),vs=[.ref m,.ref o]∧ZQ cR cM H m rd sd L s nb li lo (ZaJ w)∧Win (hdM L) (Zs L) w∧Own H o ra ga Lo nb' li lo∧Agr Lo L∧∀H',Zu H H'→Q (.bl true) H'
def rowsD(rs:List (Addr×List Str)):PyData:=.list (rs.map fun x=>.list (x.2.map PyData.str))
def Z8(M:List Int)(n:Int):List Int:=if n∈lo M then lo M else up M
def Zai(M:List Int)(n:Int):List Int:=if n∈lo M then up M else lo M
def ZO:Nat→List Int→Int→List (List Int)
 | 0,_,_=>[]
 | k+1,M,n=>if 2≤M.length then ZO k (Z8 M n) n++[M] else []
inductive Sub (N:List Int):List Int→Prop
 | top:Sub N N
 | lo {M:List Int}:Sub N M→2≤M.length→Sub N (lo M)
 | up {M:List Int}:Sub N M→2≤M.length→Sub N (up M)
theorem Sub.trans{A B C:List Int}(h:Sub A B)(k:Sub B C):Sub A C:=by
 induction k with
 | top=>exact h
 | lo _ h2 ih=>exact ih.lo h2
 | up _ h2 ih=>exact ih.up h2
theorem Sub.rise{N M:List Int}(h:Sub N M)(r:Z5 N):Z5 M:=by
 induction h with
 | top=>exact r
 | lo _ _ ih=>exact Zc7 ih
 | up _ _ ih=>exact Zc8 ih
theorem Sub.mem{N M:List Int}(h:Sub N M){x:Int}(hx:x∈M):x∈N:=by
 induction h with
 | top=>exact hx
 | lo _ _ ih=>exact ih (Qaj hx)
 | up _ _ ih=>exact ih (Qak hx)
theorem Zg3{M:List Int}(h:2≤M.length)(n:Int):Sub M (Z8 M n):=by
 unfold Z8
 split
 ·exact Sub.top.lo h
 ·exact Sub.top.up h
theorem ZcS{M:List Int}{n:Int}(h:n∈M):n∈Z8 M n:=by
 unfold Z8
 split
 ·assumption
 ·rename_i hn
  rw[← ZbE M]at h
  exact(Qq.mp h).resolve_left hn
theorem ZeY{M:List Int}(r:Z5 M){n:Int}(hn:n∈Z8 M n):n ∉ Zai M n:=by
 intro h
 unfold Zai Z8 at *
 split at h
 ·rename_i hl
  have:=ZD r hl h
  omega
 ·rename_i hl;exact hl h
theorem Zd4(M:List Int)(n:Int):(Z8 M n++Zai M n).Perm M:=by
 unfold Z8 Zai
 split
 ·rw[ZbE]
 ·exact List.perm_append_comm.trans (by rw[ZbE])
def Kys(M:List Int)(k:Int×Int):Prop:=∃M',Sub M M'∧2≤M'.length∧k=ZE M'
theorem ZgD{M:List Int}{k:Int×Int}(h:Kys M k):k.1∈M∧k.2∈M:=by
 obtain⟨M',s,h2,rfl⟩:=h
 have hn:M'≠[]:=Z0 (by omega)
 exact⟨s.mem (Zbx hn),s.mem (Zby hn)⟩
theorem Zks{M:List Int}(r:Z5 M)(h2:2≤M.length){k:Int×Int}(h:Kys (lo M) k):k≠ZE M∧¬ Kys (up M) k:=by
 have:=ZgD h
 refine⟨fun z=>?_,fun m=>?_⟩
 ·have h1:=Zei h2
  rw[z,h1]at this
  have:=ZD r this.2 (Zby (Z0 (Zdx h2).2))
  omega
 ·have:=ZD r this.1 (ZgD m).1
  omega
theorem ZkN{M:List Int}(r:Z5 M)(h2:2≤M.length){k:Int×Int}(h:Kys (up M) k):k≠ZE M∧¬ Kys (lo M) k:=by
 have:=ZgD h
 refine⟨fun z=>?_,fun m=>?_⟩
 ·have h1:=Zeg h2
  rw[z,h1]at this
  have:=ZD r (Zbx (Z0 (ZcQ h2).2)) this.1
  omega
 ·have:=ZD r (ZgD m).1 this.1
  omega
theorem ZgJ{M:List Int}(r:Z5 M)(h2:2≤M.length){n:Int}{k:Int×Int}(h:Kys (Z8 M n) k):k≠ZE M∧¬ Kys (Zai M n) k:=by
 unfold Z8 at h
 unfold Zai
 split
 ·rename_i hl;rw[if_pos hl]at h;exact Zks r h2 h
 ·rename_i hl;rw[if_neg hl]at h;exact ZkN r h2 h
theorem ZgS{M:List Int}(r:Z5 M)(h2:2≤M.length){n:Int}{k:Int×Int}(h:Kys (Zai M n) k):k≠ZE M∧¬ Kys (Z8 M n) k:=by
 unfold Zai at h
 unfold Z8
 split
 ·rename_i hl;rw[if_pos hl]at h;exact ZkN r h2 h
 ·rename_i hl;rw[if_neg hl]at h;exact Zks r h2 h
theorem Zd5{M M':List Int}(h:Sub M M'):M'=M∨(2≤M.length∧(Sub (lo M) M'∨Sub (up M) M')):=by
 induction h with
 | top=>exact .inl rfl
 | lo h h2 ih =>
  rcases ih with rfl|⟨g,ih⟩
  ·exact .inr ⟨h2,.inl .top⟩
  ·exact .inr ⟨g,ih.imp (fun z=>z.lo h2) (fun z=>z.lo h2)⟩
 | up h h2 ih =>
  rcases ih with rfl|⟨g,ih⟩
  ·exact .inr ⟨h2,.inr .top⟩
  ·exact .inr ⟨g,ih.imp (fun z=>z.up h2) (fun z=>z.up h2)⟩
theorem ZkB{M M':List Int}(n:Int)(h:Sub M M'):M'=M∨(2≤M.length∧(Sub (Z8 M n) M'∨Sub (Zai M n) M')):=by
 rcases Zd5 h with h|⟨g,h⟩
 ·exact .inl h
 ·refine .inr ⟨g,?_⟩
  unfold Z8 Zai
  split
  ·exact h
  ·exact h.symm
def Zdh(hd:Hd)(s:StL)(A B:List Int)(k:Int×Int):Prop :=
 (∀a b x y,Win hd A (some a)→Win hd B (some b)→hd a=some x→hd b=some y→∃t lz,ZM s k=some (some (t,lz,((lcp x y:Nat):Int)))∧((Btr x a y b∧lz=b)∨(Btr y b x a∧lz=a))) ∧
 ((Win hd A none∨Win hd B none)→ZM s k=none∨ZM s k=some none)
theorem Zdh.swap{hd:Hd}{s:StL}{A B:List Int}{k:Int×Int}(h:Zdh hd s A B k):Zdh hd s B A k:=by
 refine⟨fun a b x y wa wb hx hy=>?_,fun hw=>h.2 hw.symm⟩
 obtain⟨t,lz,e,o⟩:=h.1 b a y x wb wa hy hx
 exact⟨t,lz,by rw[ZbK x y];exact e,o.symm⟩
def ZX(hd:Hd)(s:StL)(N:List Int):Prop:=∀M,Sub N M→2≤M.length→Zdh hd s (lo M) (up M) (ZE M)
theorem ZX.sub{hd:Hd}{s:StL}{N M:List Int}(h:ZX hd s N)(k:Sub N M):ZX hd s M:=fun M' h' h2=>h M' (k.trans h') h2
theorem ZX.at_side{hd:Hd}{s:StL}{M:List Int}(h:ZX hd s M)(h2:2≤M.length)(n:Int):Zdh hd s (Z8 M n) (Zai M n) (ZE M):=by
 have:=h M .top h2
 unfold Z8 Zai
 split
 ·exact this
 ·exact this.swap
theorem Zb8:∀ (n:Nat) (hd:Hd) (s:StL) (N:List Int),Z5 N→N.length≤2 ^ (n-1)→0<n→Zed hd s n N→ZX hd s N
 | 0,_,_,_,_,_,h,_=>absurd h (by omega)
 | n+1,hd,s,N,r,hl,_,h=>fun M hM h2=>by
  rw[Qaf]at hl
  rcases Zd5 hM with rfl|⟨g,hM⟩
  ·obtain⟨_,_,c1,c2⟩:=h h2
   refine⟨fun a b x y wa wb hx hy=>?_,c2⟩
   obtain⟨t,e⟩:=c1 a b x y wa wb hx hy
   have hab:=ZD r wa.1 wb.1
   by_cases hb:ZF x y<0∨(ZF x y=0∧a<b)
   ·rw[if_pos hb]at e;exact⟨t,b,e,.inl ⟨hb,rfl⟩⟩
   ·rw[if_neg hb]at e;exact⟨t,a,e,.inr ⟨(Btr.total (show a≠b by omega)).resolve_left hb,rfl⟩⟩
  ·obtain⟨h1,h3,_⟩:=h g
   have hn:1≤n:=by
    cases n with
    | zero=>simp at hl;omega
    | succ m=>omega
   have hp:2 ^ n=2*2 ^ (n-1):=by
    obtain⟨m,rfl⟩:∃m,n=m+1:=⟨n-1,by omega⟩
    rw[Nat.pow_succ,Qaf];omega
   rcases hM with hM|hM
   ·exact Zb8 n hd s (lo N) (Zc7 r) (by unfold lo mid;rw[Qw];omega) hn h1 M hM h2
   ·exact Zb8 n hd s (up N) (Zc8 r) (by unfold up mid;rw[QL];omega) hn h3 M hM h2
theorem Zdh.congr{hd hd':Hd}{s s':StL}{A B:List Int}{k:Int×Int}(h:Zdh hd s A B k)(ha:∀m∈A,hd' m=hd m)(hb:∀m∈B,hd' m=hd m)(hk:ZM s' k=ZM s k):Zdh hd' s' A B k:=by
 refine⟨fun a b x y wa wb hx hy=>?_,fun hw=>?_⟩
 ·rw[hk]
  exact h.1 a b x y (wa.congr fun m hm=>(ha m hm).symm) (wb.congr fun m hm=>(hb m hm).symm) (by rw[← ha a wa.1];exact hx) (by rw[← hb b wb.1];exact hy)
 ·rw[hk]
  exact h.2 (hw.imp (fun w=>w.congr fun m hm=>(ha m hm).symm) (fun w=>w.congr fun m hm=>(hb m hm).symm))
theorem ZX.congr{hd hd':Hd}{s s':StL}{M:List Int}(h:ZX hd s M)(hh:∀m∈M,hd' m=hd m)(hk:∀k,Kys M k→ZM s' k=ZM s k):ZX hd' s' M:=fun M' hM h2 =>
 (h M' hM h2).congr (fun m hm=>hh m (hM.mem (Qaj hm))) (fun m hm=>hh m (hM.mem (Qak hm))) (hk _ ⟨M',hM,h2,rfl⟩)
theorem Zjv{hd:Hd}{s:StL}{M:List Int}{n:Int}(h1:ZX hd s (Z8 M n))(h3:ZX hd s (Zai M n))(h:Zdh hd s (Z8 M n) (Zai M n) (ZE M)):ZX hd s M:=fun M' hM h2=>by
 rcases ZkB n hM with rfl|⟨g,hM|hM⟩
 ·unfold Z8 Zai at h
  split at h
  ·exact h
  ·exact h.swap
 ·exact h1 M' hM h2
 ·exact h3 M' hM h2
def low(n:Int)(C:List (List Int)):Nat→List Int
 | 0=>[n]
 | i+1=>C.getD i []
theorem ZeP:∀ (k:Nat) (M:List Int) (n:Int),n∈M→M.length≤2 ^ k→(∀i X,(ZO k M n)[i]? = some X→Sub M X∧2≤X.length∧n∈X∧Z8 X n=low n (ZO k M n) i)∧low n (ZO k M n) (ZO k M n).length=M∧(ZO k M n).length≤k
 | 0,M,n,hn,hl=>by
  refine⟨fun i X h=>by unfold ZO at h;simp at h,?_,Qd _⟩
  have h1:M.length=1:=by
   have:=QaA hn
   simp at hl;omega
  obtain⟨x,rfl⟩:=Qaz.mp h1
  have:n=x:=by simpa using hn
  rw[this];rfl
 | k+1,M,n,hn,hl=>by
  unfold ZO
  by_cases h2:2≤M.length
  ·rw[if_pos h2]
   have hs:(Z8 M n).length≤2 ^ k:=by
    rw[Nat.pow_succ]at hl
    unfold Z8
    split
    ·unfold lo mid;rw[Qw];omega
    ·unfold up mid;rw[QL];omega
   obtain⟨a,b,c⟩:=ZeP k (Z8 M n) n (ZcS hn) hs
   refine⟨fun i X h=>?_,?_,by rw[Qp,Qz];omega⟩
   ·have lw:∀j,j≤(ZO k (Z8 M n) n).length→low n (ZO k (Z8 M n) n++[M]) j=low n (ZO k (Z8 M n) n) j:=fun j hj=>by
     cases j with
     | zero=>rfl
     | succ j =>
      show (ZO k (Z8 M n) n++[M]).getD j []=(ZO k (Z8 M n) n).getD j []
      rw[QB,QB,Q3 (by omega)]
    by_cases hi:i<(ZO k (Z8 M n) n).length
    ·rw[Q3 hi]at h
     obtain⟨g1,g2,g3,g4⟩:=a i X h
     exact⟨(Zg3 h2 n).trans g1,g2,g3,by rw[lw i (by omega)];exact g4⟩
    ·have hi':i=(ZO k (Z8 M n) n).length:=by
      have:=(Qf.mp h).1
      rw[Qp,Qz]at this
      omega
     subst hi'
     rw[Q1 (Qd _),Nat.sub_self]at h
     cases h
     exact⟨.top,h2,hn,by rw[lw _ (Qd _),b]⟩
   ·rw[Qp,Qz]
    show (ZO k (Z8 M n) n++[M]).getD _ []=M
    rw[QB,Q1 (Qd _),Nat.sub_self];rfl
  ·rw[if_neg h2]
   refine⟨fun i X h=>by simp at h,?_,Qr _⟩
   have h1:M.length=1:=by have:=QaA hn;omega
   obtain⟨x,rfl⟩:=Qaz.mp h1
   have:n=x:=by simpa using hn
   rw[this];rfl
structure Tk (hd hd':Hd) (N:List Int) (n:Int) (z:List Nat):Prop where
 win:Win hd N (some n)
 key:hd n=some z
 oth:∀b,b≠n→hd' b=hd b
 nxt:∀x,hd' n=some x→ZF z x≤0
 up:Z5 N
theorem Tk.ge{hd hd':Hd}{N:List Int}{n:Int}{z:List Nat}(h:Tk hd hd' N n z){b:Int}(hb:b∈N){y:List Nat}(hy:hd' b=some y):ZF z y≤0:=by
 by_cases e:b=n
 ·exact h.nxt y (by rw[← e];exact hy)
 ·obtain⟨_,x,hx,hw⟩:=h.win
  rw[h.key]at hx
  cases hx
  rw[h.oth b e]at hy
  rcases hw b hb y hy with z|z
  ·exact absurd z e
  ·rcases z with z|z<;>omega
inductive Ag (hd:Hd) (z:List Nat):List (List Int×List Int)→Int→Int→Prop
 | nil:Ag hd z [] 0 0
 | no {C:List (List Int×List Int)} {A B:List Int} {k q:Int}:Ag hd z C k q→(Win hd A none∨Win hd B none)→Ag hd z (C++[(A,B)]) k q
 | eq {C:List (List Int×List Int)} {A B:List Int} {k q:Int} {a b:Int} {x y:List Nat}:Ag hd z C k q→Win hd A (some a)→Win hd B (some b)→hd a=some x→hd b=some y→lcp x z=lcp y z→Ag hd z (C++[(A,B)]) (k+1) (q+((lcp x y:Nat)-(lcp x z:Nat)+1))
 | ne {C:List (List Int×List Int)} {A B:List Int} {k q:Int} {a b:Int} {x y:List Nat}:Ag hd z C k q→Win hd A (some a)→Win hd B (some b)→hd a=some x→hd b=some y→lcp x z≠lcp y z→Ag hd z (C++[(A,B)]) (k+1) q
theorem Zfd{α:Type}{C D:List α}{c d:α}(h:C++[c]=D++[d]):C=D∧c=d:=by
 have:=List.append_inj' h rfl
 exact⟨this.1,by simpa using this.2⟩
theorem Ag.last{hd:Hd}{z:List Nat}{D:List (List Int×List Int)}{k q:Int}(h:Ag hd z D k q):∀ {C:List (List Int×List Int)} {A B:List Int},D=C++[(A,B)]→∃k0 q0,Ag hd z C k0 q0∧(((Win hd A none∨Win hd B none)∧k=k0∧q=q0)∨(∃a b x y,Win hd A (some a)∧Win hd B (some b)∧hd a=some x∧hd b=some y∧k=k0+1∧q=if lcp x z=lcp y z then q0+((lcp x y:Nat)-(lcp x z:Nat)+1) else q0)):=by
 intro C A B e
 cases h with
 | nil=>simp at e
 | no g hw=>obtain⟨rfl,e2⟩:=Zfd e;cases e2;exact⟨_,_,g,.inl ⟨hw,rfl,rfl⟩⟩
 | eq g wa wb hx hy he=>obtain⟨rfl,e2⟩:=Zfd e;cases e2;exact⟨_,_,g,.inr ⟨_,_,_,_,wa,wb,hx,hy,rfl,by rw[if_pos he]⟩⟩
 | ne g wa wb hx hy he=>obtain⟨rfl,e2⟩:=Zfd e;cases e2;exact⟨_,_,g,.inr ⟨_,_,_,_,wa,wb,hx,hy,rfl,by rw[if_neg he]⟩⟩
theorem Ag.one{hd:Hd}{z:List Nat}{C:List (List Int×List Int)}{k q:Int}(h:Ag hd z C k q):∀ {k' q':Int},Ag hd z C k' q'→k=k'∧q=q':=by
 induction h with
 | nil =>
  intro k' q' g
  generalize hC:([]:List (List Int×List Int))=C at g
  cases g with
  | nil=>exact⟨rfl,rfl⟩
  | no _ _=>simp at hC
  | eq _ _ _ _ _ _=>simp at hC
  | ne _ _ _ _ _ _=>simp at hC
 | no g hw ih =>
  intro k' q' g'
  obtain⟨k0,q0,g0,o⟩:=g'.last rfl
  obtain⟨e1,e2⟩:=ih g0
  rcases o with⟨_,rfl,rfl⟩|⟨a,b,x,y,wa,wb,_⟩
  ·exact⟨e1,e2⟩
  ·rcases hw with hw|hw
   ·exact nomatch hw.one wa
   ·exact nomatch hw.one wb
 | eq g wa wb hx hy he ih =>
  intro k' q' g'
  obtain⟨k0,q0,g0,o⟩:=g'.last rfl
  obtain⟨e1,e2⟩:=ih g0
  rcases o with⟨hw,_⟩|⟨a,b,x,y,wa',wb',hx',hy',rfl,rfl⟩
  ·rcases hw with hw|hw
   ·exact nomatch hw.one wa
   ·exact nomatch hw.one wb
  ·have ea:=Qh (wa.one wa')
   have eb:=Qh (wb.one wb')
   subst ea;subst eb
   rw[hx]at hx';cases hx'
   rw[hy]at hy';cases hy'
   rw[if_pos he]
   exact⟨by rw[e1],by rw[e2]⟩
 | ne g wa wb hx hy he ih =>
  intro k' q' g'
  obtain⟨k0,q0,g0,o⟩:=g'.last rfl
  obtain⟨e1,e2⟩:=ih g0
  rcases o with⟨hw,_⟩|⟨a,b,x,y,wa',wb',hx',hy',rfl,rfl⟩
  ·rcases hw with hw|hw
   ·exact nomatch hw.one wa
   ·exact nomatch hw.one wb
  ·have ea:=Qh (wa.one wa')
   have eb:=Qh (wb.one wb')
   subst ea;subst eb
   rw[hx]at hx';cases hx'
   rw[hy]at hy';cases hy'
   rw[if_neg he]
   exact⟨by rw[e1],e2⟩
theorem Ziz:∀ (x z y:List Nat),lcp z y<lcp x z→ZF x y=ZF z y
 | [],z,y,h=>by rw[lcp_nil']at h;omega
 | _::_,[],y,h=>by rw[Zdd]at h;omega
 | a::x,b::z,[],h=>by unfold ZF;rfl
 | a::x,b::z,c::y,h=>by
  unfold lcp at h
  by_cases e:a=b
  ·subst e
   rw[if_pos rfl]at h
   by_cases e2:a=c
   ·subst e2
    rw[if_pos rfl]at h
    unfold ZF
    rw[if_pos rfl,if_pos rfl]
    exact Ziz x z y (by omega)
   ·unfold ZF
    rw[if_neg e2,if_neg e2]
  ·rw[if_neg e]at h;omega
theorem ZmI{x z y:List Nat}(h:lcp z y<lcp x z):lcp x y=lcp z y:=by
 have:=Zek x y z
 rw[ZbK y z]at this
 omega
theorem ZnX{x z y:List Nat}(h:lcp x z=lcp y z):lcp x z≤lcp x y:=by
 have:=Zek x y z
 omega
theorem ZgZ{x z y:List Nat}{a b:Int}(h:lcp y z<lcp x z)(hz:ZF z y≤0):Btr x a y b∧lcp x y=lcp y z:=by
 rw[ZbK y z]at h ⊢
 refine⟨.inl ?_,ZmI h⟩
 rw[Ziz x z y h]
 rcases Int.lt_or_eq_of_le hz with g|g
 ·exact g
 ·have e:=Zeh _ _ g
  subst e
  rw[Zhh]at h
  have:=(Zez x z).2
  omega
abbrev Com:=Option (Int×Int)
def ZgL(hd:Hd)(z:List Nat)(M:List Int)(c:Com):Prop:=Win hd M (c.map (·.1))∧∀p,c=some p→∃x,hd p.1=some x∧p.2=((lcp x z:Nat):Int)
theorem Zlm{hd hd':Hd}{N M:List Int}{n:Int}{z:List Nat}{s:StL}(T:Tk hd hd' N n z)(hM:Sub N M)(h2:2≤M.length)(hn:n∈M)(ok:ZX hd s N) :
  (Win hd' (Zai M n) none∧(ZM s (ZE M)=none∨ZM s (ZE M)=some none))∨∃t b y,Win hd' (Zai M n) (some b)∧hd' b=some y∧b∈N∧ZM s (ZE M)=some (some (t,b,((lcp y z:Nat):Int))):=by
 have r:=hM.rise T.up
 have nd:=Zc5 r
 have hno:=ZeY r (ZcS hn)
 have nS:=(ok.sub hM).at_side h2 n
 have hoN:∀b∈Zai M n,b∈M:=fun b hb=>(Zd4 M n).mem_iff.mp (Qo _ hb)
 have hsN:∀b∈Z8 M n,b∈M:=fun b hb=>(Zd4 M n).mem_iff.mp (QM _ hb)
 have wS:Win hd (Z8 M n) (some n):=by
  obtain⟨_,x,hx,hw⟩:=T.win
  exact⟨ZcS hn,x,hx,fun b hb y hy=>hw b (hM.mem (hsN b hb)) y hy⟩
 have cO:∀m∈Zai M n,hd' m=hd m:=fun m hm=>T.oth m fun e=>hno (e ▸ hm)
 have ndO:(Zai M n).Nodup:=by unfold Zai;split;exact Zc5 (Zc8 r);exact Zc5 (Zc7 r)
 obtain⟨w,hw⟩:=Win.ex hd (Zai M n) ndO
 cases w with
 | none=>exact .inl ⟨hw.congr cO,nS.2 (.inr hw)⟩
 | some b =>
  obtain⟨y,hy⟩:∃y,hd b=some y:=by obtain⟨_,y,hy,_⟩:=hw;exact⟨y,hy⟩
  obtain⟨t,lz,e,o⟩:=nS.1 n b z y wS hw T.key hy
  have hbM:=hoN b hw.1
  have hbn:b≠n:=fun z=>hno (z ▸ hw.1)
  have hB:Btr z n y b:=by
   obtain⟨_,x,hx,hww⟩:=T.win
   rw[T.key]at hx;cases hx
   exact(hww b (hM.mem hbM) y hy).resolve_left hbn
  have el:lz=b:=by
   rcases o with⟨_,e⟩|⟨e,_⟩
   ·exact e
   ·exact(hB.asym e).elim
  subst el
  exact .inr ⟨t,lz,y,hw.congr cO,by rw[cO lz hw.1];exact hy,hM.mem hbM,by rw[ZbK y z];exact e⟩
theorem Zim(ns:List Int):(Zde ns).length=(ns.length+1) / 2:=by unfold Zde mid;rw[Qw];omega
theorem ZiG(ns:List Int):(Zfp ns).length=ns.length / 2:=by unfold Zfp mid;rw[QL];omega
def Zfr:Nat→List Int→Int→List (List Int)
 | 0,_,_=>[]
 | f+1,ns,n=>if ns.length≤1 then [] else if n∈Zde ns then Zfp ns::Zfr f (Zde ns) n else Zde ns::Zfr f (Zfp ns) n
def Zbs(ns:List Int)(n:Int):List Int:=if n∈Zde ns then Zde ns else Zfp ns
def Zcq(ns:List Int)(n:Int):List Int:=if n∈Zde ns then Zfp ns else Zde ns
theorem ZdY{ns:List Int}{n:Int}(h:1<ns.length):(Zbs ns n).length<ns.length:=by
 unfold Zbs
 split
 ·rw[Zim];omega
 ·rw[ZiG];omega
theorem ZkY{ns:List Int}{n:Int}(h:1<ns.length):0<(Zbs ns n).length:=by
 unfold Zbs
 split
 ·rw[Zim];omega
 ·rw[ZiG];omega
theorem Zd9{f:Nat}{ns:List Int}{n:Int}(h:1<ns.length):Zfr (f+1) ns n=Zcq ns n::Zfr f (Zbs ns n) n:=by
 conv=>lhs;unfold Zfr
 rw[if_neg (by omega)]
 unfold Zcq Zbs
 split<;>rfl
theorem ZbL{f:Nat}{ns:List Int}{n:Int}(h:ns.length≤1):Zfr f ns n=[]:=by
 cases f with
 | zero=>rfl
 | succ f=>unfold Zfr;rw[if_pos h]
theorem ZfI:∀ (f g:Nat) (ns:List Int) (n:Int),ns.length≤f+1→ns.length≤g+1→Zfr f ns n=Zfr g ns n
 | 0,g,ns,n,h,_=>by rw[ZbL (by omega),ZbL (by omega)]
 | f+1,0,ns,n,_,h=>by rw[ZbL (by omega),ZbL (by omega)]
 | f+1,g+1,ns,n,h1,h2=>by
  by_cases h:1<ns.length
  ·have:=ZdY (n:=n) h
   rw[Zd9 h,Zd9 h,ZfI f g _ n (by omega) (by omega)]
  ·rw[ZbL (by omega),ZbL (by omega)]
def way(ns:List Int)(n:Int):List (List Int):=Zfr ns.length ns n
theorem Zha{ns:List Int}{n:Int}(h:1<ns.length):way ns n=Zcq ns n::way (Zbs ns n) n:=by
 unfold way
 cases e:ns.length with
 | zero=>omega
 | succ f =>
  have:=ZdY (n:=n) h
  rw[Zd9 h,ZfI f (Zbs ns n).length _ n (by omega) (by omega)]
theorem Zgd{ns:List Int}{n:Int}(h:ns.length≤1):way ns n=[]:=ZbL h
theorem Zix(n:Int):∀ns:List Int,inV (.int n) (ns.map V.int)=decide (n∈ns)
 | []=>rfl
 | m::r=>by
  have ih:=Zix n r
  unfold inV at ih ⊢
  rw[Qg,Qap,ih]
  by_cases h:m=n
  ·subst h;simp[eqV]
  ·have:(m == n)=false:=by simpa using h
   simp[eqV,this,List.mem_cons,Ne.symm h]
theorem ZfY:∀ns:List Int,(ns.map V.int).all ZdK=true
 | []=>rfl
 | _::r=>by rw[Qg,List.all_cons,ZfY r];rfl
def Rd(H:Hp):List Addr→List (List Int)→Prop
 | [],[]=>True
 | l::ls,d::ds=>H l=some (.lst (d.map V.int))∧Rd H ls ds
 | _,_=>False
theorem Rd.len{H:Hp}:∀ {ls:List Addr} {ds:List (List Int)},Rd H ls ds→ls.length=ds.length
 | [],[],_=>rfl
 | [],_::_,h=>h.elim
 | _::_,[],h=>h.elim
 | _::ls,_::ds,h=>by rw[QI,QI,Rd.len h.2]
theorem Rd.mono{H H':Hp}:∀ {ls:List Addr} {ds:List (List Int)},(∀l∈ls,∀o,H l=some o→H' l=some o)→Rd H ls ds→Rd H' ls ds
 | [],[],_,_=>trivial
 | [],_::_,_,h=>h.elim
 | _::_,[],_,h=>h.elim
 | l::ls,_::ds,k,h=>⟨k l (by simp) _ h.1,Rd.mono (fun x hx=>k x (Qm _ hx)) h.2⟩
theorem Rd.app{H:Hp}:∀ {ls:List Addr} {ds:List (List Int)} {ms:List Addr} {es:List (List Int)},Rd H ls ds→Rd H ms es→Rd H (ls++ms) (ds++es)
 | [],[],_,_,_,h=>h
 | [],_::_,_,_,h,_=>h.elim
 | _::_,[],_,_,h,_=>h.elim
 | _::ls,_::ds,_,_,h,g=>⟨h.1,Rd.app h.2 g⟩
theorem Rd.rev{H:Hp}:∀ {ls:List Addr} {ds:List (List Int)},Rd H ls ds→Rd H ls.reverse ds.reverse
 | [],[],h=>h
 | [],_::_,h=>h.elim
 | _::_,[],h=>h.elim
 | l::ls,d::ds,h=>by
  rw[Qai,Qai]
  exact Rd.app (Rd.rev h.2) ⟨h.1,trivial⟩
def ZkO:Sp:=fun vs H Q _=>∃ (a:Addr) (ns:List Int) (n:Int),vs=[.ref a,.int n]∧H a=some (.lst (ns.map V.int))∧1≤ns.length∧ns.length≤800 ∧
 ∀ (r:Addr) (ls:List Addr) (H':Hp),H r=none→H' r=some (.lst (ls.map V.ref))→r ∉ ls→(∀l∈ls,H l=none)→Rd H' ls (way ns n).reverse→Zu H H'→Q (.ref r) H'
def Dn(H:Hp)(a o:Addr)(ns:List Int)(n:Int)(b:Addr)(cur:List Int)(ls:List Addr)(H2:Hp):Prop :=
 ∃done:List (List Int),H2 b=some (.lst (cur.map V.int))∧b≠o∧1≤cur.length∧cur.length≤800∧way ns n=done++way cur n∧Rd H2 ls done∧H2 o=some (.lst (ls.map V.ref))∧Zu H H2∧(∀l∈ls,H l=none)∧o ∉ ls∧ls.length+cur.length≤800
theorem Dn.step{H:Hp}{a o:Addr}{ns:List Int}{n:Int}{b:Addr}{cur:List Int}{ls:List Addr}{H2 H3:Hp}(D:Dn H a o ns n b cur ls H2)(hO:H o=none)(h1:1<cur.length)(s:Zu H2 H3){x y:Addr}(hx:H3 x=some (.lst ((Zbs cur n).map V.int)))(hy:H3 y=some (.lst ((Zcq cur n).map V.int)))(nx:H2 x=none)(ny:H2 y=none) :
  Dn H a o ns n x (Zbs cur n) (ls++[y]) (upd H3 o (.lst (ls.map V.ref++[.ref y]))):=by
 obtain⟨done,d1,d2,d3,d4,d5,d6,d7,d8,d9,d10,d11⟩:=D
 have xo:x≠o:=(Zb d7 nx).symm
 have yo:y≠o:=(Zb d7 ny).symm
 have sl:=ZdY (n:=n) h1
 have k:∀l,l≠o→∀u,H3 l=some u→(upd H3 o (.lst (ls.map V.ref++[.ref y]))) l=some u:=fun l hl u hu=>by rw[Zc hl];exact hu
 refine⟨done++[Zcq cur n],k x xo _ hx,xo,ZkY h1,by omega,by rw[d5,Zha h1,List.append_assoc];rfl,?_,?_,fun c u hu=>?_,?_,?_,?_⟩
 ·refine Rd.app (Rd.mono (fun l hl u hu=>k l (fun e=>d10 (e ▸ hl)) u (s _ _ hu)) d6) ⟨k y yo _ hy,trivial⟩
 ·rw[Zd,Qe];rfl
 ·rw[Zc (Zb hu hO)];exact s _ _ (d8 _ _ hu)
 ·intro l hl
  rcases Qq.mp hl with hl|hl
  ·exact d9 l hl
  ·rw[Ql.mp hl];exact d8.free ny
 ·intro hm
  rcases Qq.mp hm with hl|hl
  ·exact d10 hl
  ·exact yo (Ql.mp hl).symm
 ·rw[Qp,Qz];omega
theorem ZnL(T:Zak K mg cRow cMerge)(f_halves:Df P w K mg base 1 "halves" ["numbers"] (ZdL K true)):Df P w K mg base 2 "way_up" ["numbers", "n"] ZkO:=by
 refine T.t_way_up.df Za8 (fun vs H Q E h=>?_) (fun cdv f A outer s H vs Q E hr h=>?_)
 ·obtain⟨a,ns,n,rfl,_⟩:=h
  rfl
 obtain⟨a,ns,n,rfl,hA,h1,h100,q⟩:=h
 refine⟨_,#[Zg,#[Zy,2,Za8.nd,(Or.inl rfl),#[ZaX,#[Zf]]],#[Zg,#[Zy,3,Za8.nd,(Or.inl rfl),‹0›],#[Zg,(@Ze5 _ _ _ _ _ _ PassesOwn.never #[Zt,Zhk,#[Zo,(Zdq K),(by rfl),T.b.n_len,QC,#[Za,‹3›,#[Zf]]],#[Zh],(Zw _)] #[Zg,#[Za9,#[ZC,f_halves,hr,#[Za,‹3›,#[Zf]],(by rfl)],#[gT,K,2,#[Zz,#[ZL,4,Za8.nd],#[Zz,#[ZL,5,Za8.nd],(@ZaW _)]]]],#[Zi,#[Zaw,#[Zt,(inQ K),‹1›,‹4›,(by with_unfolding_all rfl)],#[Zg,#[ZaG,#[Zdm,QH,QO,QP,ZaZ,‹2›,#[Za,‹5›,#[Zf]]]],#[Zi,#[Zy,3,Za8.nd,(Or.inl rfl),‹4›]]],#[Zg,#[ZaG,#[Zdm,QH,QO,QP,ZaZ,‹2›,#[Za,‹4›,#[Zf]]]],#[Zi,#[Zy,3,Za8.nd,(Or.inl rfl),‹5›]]]]]]),#[Zg,#[ZaG,(@ZnZ _ _ _ _ _ _ _ _ _ QH PySem.F.slot_list_reverse PySem.F.type_list_reverse ZhG ‹2› (by rfl) (by rfl))],#[Zi,#[Zr,‹2›]]]]]],?_⟩
 refine⟨(by show 0≤sizeLine;decide),fun o hO=>?_⟩
 have nao:a≠o:=Zb hA hO
 refine⟨_,rfl,?_⟩
 refine⟨fun m σ H2=>∃ (b:Addr) (cur:List Int) (ls:List Addr) (v4 v5:Option V),σ=[some (.ref a),some (.int n),some (.ref o),some (.ref b),v4,v5]∧Dn H a o ns n b cur ls H2∧m=cur.length,⟨_,a,ns,[],none,none,rfl,⟨[],?_,nao,h1,h100,rfl,trivial,Zd,Zj hO _,(fun l hl=>by cases hl),(fun hm=>by cases hm),by simpa using h100⟩,rfl⟩,?_⟩
 ·rw[Zc nao];exact hA
 rintro m σ H2 ⟨b,cur,ls,v4,v5,rfl,D,rfl⟩
 obtain⟨done,d1,d2,d3,d4,d5,d6,d7,d8,d9,d10,d11⟩:=id D
 have hlc:(((cur.map V.int).length:Nat):Int)=(cur.length:Int):=by rw[Qa]
 refine⟨_,rfl,b,_,rfl,.inl (SqL.of d1),_,_,rfl,rfl,_,rfl,?_⟩
 refine Zbt (fun c1=>?_) (fun c1=>?_)
 ·have c1':(1:Int)<(((cur.map V.int).length:Nat):Int):=of_decide_eq_true c1
  have hc:1<cur.length:=by omega
  refine⟨_,fun σ' H' h=>h,?_⟩
  refine⟨_,rfl,b,cur,rfl,SqL.of d1,d4,fun t x y H3 ht hx hy nxy et ex ey s3 ntx nty=>?_⟩
  refine⟨t,_,rfl,SqT.of et,rfl,_,_,rfl,_,_,rfl,rfl,?_⟩
  have ho3:=s3 _ _ d7
  have hlt:(ls.map V.ref).length<sizeLine:=by rw[Qa];exact ZY (by omega)
  have sl:=ZdY (n:=n) hc
  refine⟨_,rfl,_,rfl,x,_,rfl,.inl (SqL.of ex),rfl,ZfY _,_,rfl,?_⟩
  show if inV (V.int n) ((Zde cur).map V.int)=true then _ else _
  rw[Zix]
  refine Zbt (fun c2=>?_) (fun c2=>?_)
  ·have c2':n∈Zde cur:=of_decide_eq_true c2
   have e1:Zbs cur n=Zde cur:=by unfold Zbs;rw[if_pos c2']
   have e2:Zcq cur n=Zfp cur:=by unfold Zcq;rw[if_pos c2']
   refine⟨_,rfl,.inl ⟨rfl,_,SqL.of ho3⟩,_,rfl,o,_,_,rfl,rfl,ho3,hlt,_,rfl,_,?_,x,Zbs cur n,ls++[y],_,_,rfl,D.step hO hc s3 (by rw[e1];exact ex) (by rw[e2];exact ey) hx hy,rfl⟩
   exact sl
  ·have c2':¬ n∈Zde cur:=fun z=>c2 (decide_eq_true z)
   have e1:Zbs cur n=Zfp cur:=by unfold Zbs;rw[if_neg c2']
   have e2:Zcq cur n=Zde cur:=by unfold Zcq;rw[if_neg c2']
   refine⟨_,rfl,.inl ⟨rfl,_,SqL.of ho3⟩,_,rfl,o,_,_,rfl,rfl,ho3,hlt,_,rfl,_,?_,y,Zbs cur n,ls++[x],_,_,rfl,D.step hO hc s3 (by rw[e1];exact ey) (by rw[e2];exact ex) hy hx,rfl⟩
   exact sl
 ·have c1':¬ (1:Int)<(((cur.map V.int).length:Nat):Int):=fun z=>c1 (decide_eq_true z)
  have e:way ns n=done:=by rw[d5,Zgd (by omega),Qar]
  refine⟨_,rfl,.inl ⟨rfl,_,SqL.of d7⟩,o,_,rfl,rfl,d7,?_⟩
  refine⟨_,rfl,q o ls.reverse _ hO (by rw[Zd,List.map_reverse]) (fun hm=>d10 (QaE.mp hm)) (fun l hl=>d9 l (QaE.mp hl)) ?_ fun c u hu=>?_⟩
  ·rw[e]
   refine Rd.mono (fun l hl u hu=>?_) d6.rev
   rw[Zc (fun z=>by subst z;exact d10 (QaE.mp hl))]
   exact hu
  ·rw[Zc (Zb hu hO)];exact d8 _ _ hu
theorem ZfV:∀ (k:Nat) (M:List Int) (n:Int),M.length≤2 ^ k→(way M n).reverse=(ZO k M n).map (fun X=>Zai X n)
 | 0,M,n,h=>by
  rw[Zgd (by simpa using h)];rfl
 | k+1,M,n,h=>by
  unfold ZO
  by_cases h2:2≤M.length
  ·rw[if_pos h2,Zha (by omega),Qai,Qe]
   have hs:(Z8 M n).length≤2 ^ k:=by
    rw[Nat.pow_succ]at h
    unfold Z8
    split
    ·unfold lo mid;rw[Qw];omega
    ·unfold up mid;rw[QL];omega
   have e:=ZfV k (Z8 M n) n hs
   rw[← e];rfl
  ·rw[if_neg h2,Zgd (by omega)];rfl
theorem Zlk{M:List Int}(h:2≤M.length)(n:Int):Zai M n≠[]:=by
 unfold Zai
 split
 ·exact Z0 (Zdx h).2
 ·exact Z0 (ZcQ h).2
theorem Zib{M:List Int}(r:Z5 M)(h:2≤M.length)(n:Int):ZE M=(if (Zai M n).headD 0<(Z8 M n).headD 0 then (Zai M n).headD 0 else (Z8 M n).headD 0,if (Zai M n).getLastD 0>(Z8 M n).getLastD 0 then (Zai M n).getLastD 0 else (Z8 M n).getLastD 0):=by
 have a:=Zeg h
 have b:=Zei h
 have l1:=Zbx (Z0 (ZcQ h).2)
 have l2:=Zby (Z0 (ZcQ h).2)
 have u1:=Zbx (Z0 (Zdx h).2)
 have u2:=Zby (Z0 (Zdx h).2)
 have c:=ZD r l1 u1
 have d:=ZD r l2 u2
 unfold Z8 Zai
 split<;>(refine Prod.ext ?_ ?_<;>dsimp only<;>first|omega|(split<;>omega))
theorem Rd.get{H:Hp}:∀ {ls:List Addr} {ds:List (List Int)},Rd H ls ds→∀ {i:Nat} {l:Addr} {d:List Int},ls[i]? = some l→ds[i]? = some d→H l=some (.lst (d.map V.int))
 | [],[],_,i,l,d,h,_=>by simp at h
 | l::ls,d::ds,⟨h1,h2⟩,0,a,b,e1,e2=>by simp at e1 e2;rw[← e1,← e2];exact h1
 | l::ls,d::ds,⟨h1,h2⟩,i+1,a,b,e1,e2=>Rd.get h2 (by simpa using e1) (by simpa using e2)
def Zfv:Sp:=fun vs H Q _=>∃ (a:Addr) (N:List Int) (n:Int),vs=[.ref a,.int n]∧H a=some (.lst (N.map V.int))∧n∈N∧N.length≤60∧Z5 N ∧
 ∀ (r:Addr) (ts:List Addr) (H':Hp),H r=none→H' r=some (.lst (ts.map V.ref))→ts.length=(ZO 8 N n).length→(∀ (i:Nat) (t:Addr) (X:List Int),ts[i]? = some t→(ZO 8 N n)[i]? = some X→H' t=some (.tup [.int (ZE X).1,.int (ZE X).2]))→Zu H H'→Q (.ref r) H'
theorem ZhW(T:Zak K mg cRow cMerge)(f_way_up:Df P w K mg base 2 "way_up" ["numbers", "n"] ZkO):Df P w K mg base 3 "matches_up" ["numbers", "n"] Zfv:=by
 refine T.t_matches_up.df Zan (fun vs H Q E h=>?_) (fun cdv f A outer s H vs Q E hr h=>?_)
 ·obtain⟨a,N,n,rfl,_⟩:=h
  rfl
 obtain⟨a,N,n,rfl,ha,hn,h60,hup,q⟩:=h
 refine⟨_,#[Zg,#[Zy,2,Zan.nd,(Or.inl rfl),#[ZaX,#[Zf]]],#[Zg,#[Zy,3,Zan.nd,(Or.inl rfl),‹1›],#[Zg,#[Zy,4,Zan.nd,(Or.inl rfl),‹1›],#[Zg,#[ZcI,PassesOwn.never,#[iL,K,#[ZC,f_way_up,hr,#[Za,‹0›,#[Za,‹1›,#[Zf]]],(by rfl)]],#[ZL,5,Zan.nd],#[Zg,#[Zy,3,Zan.nd,(Or.inl rfl),#[Zo,(Zjk rfl),(by rfl),T.b.n_min,boot_min,#[Za,‹3›,#[Za,#[ZN,(ixL K),‹5›,#[Zh]],#[Zf]]]]],#[Zg,#[Zy,4,Zan.nd,(Or.inl rfl),#[Zo,(Zja rfl),(by rfl),T.b.n_max,boot_max,#[Za,‹4›,#[Za,#[ZN,(ixL K),‹5›,(@Zhx _ _ _ _ _ _ Ze4 #[Zh])],#[Zf]]]]],#[Zi,#[ZaG,#[Zdm,QH,QO,QP,ZaZ,‹2›,#[Za,#[ZaP,#[Za,‹3›,#[Za,‹4›,#[Zf]]]],#[Zf]]]]]]]],#[Zi,#[Zr,‹2›]]]]]],?_⟩
 have hpos:=QaA hn
 have hpw:N.length≤2 ^ 8:=QG h60 (by decide)
 obtain⟨cok,ctop,clen⟩:=ZeP 8 N n hn hpw
 refine⟨(by show 0≤sizeLine;decide),fun r hr0=>?_⟩
 have s1:=Zj hr0 (.lst [])
 have hr1:(upd H r (.lst [])) r=some (.lst []):=Zd
 generalize upd H r (.lst [])=H1 at s1 hr1 ⊢
 refine⟨_,rfl,_,rfl,_,rfl,_,rfl,a,N,n,rfl,s1 _ _ ha,hpos,by omega,fun wy ls H2 hwy hwy2 hnot hfr hrd s2=>?_⟩
 rw[ZfV 8 N n hpw]at hrd
 have hll:=hrd.len
 rw[Qa]at hll
 have s02:=s1.trans s2
 refine⟨wy,rfl,⟨_,SqL.of hwy2⟩,?_⟩
 refine ZgT (K:=K) (a:=wy) (xs:=ls.map V.ref) (fun i σ H3=>∃ (v5:Option V) (ts:List Addr),σ=[some (.ref a),some (.int n),some (.ref r),some (.int ((low n (ZO 8 N n) i).headD 0)),some (.int ((low n (ZO 8 N n) i).getLastD 0)),v5]∧i≤ls.length∧ts.length=i∧H3 r=some (.lst (ts.map V.ref))∧(∀ (j:Nat) (t:Addr) (X:List Int),ts[j]? = some t→(ZO 8 N n)[j]? = some X→H3 t=some (.tup [.int (ZE X).1,.int (ZE X).2]))∧(∀t∈ts,t≠r∧∃xs,H3 t=some (.tup xs))∧(∀b o,H2 b=some o→b≠r→H3 b=some o)) ⟨_,[],rfl,Qr _,rfl,s2 _ _ hr1,(fun j t X h=>by simp at h),(fun t h=>by cases h),fun b o h _=>h⟩ (fun i σ H3 _ hq=>by obtain⟨_,_,_,_,_,_,_,_,k3⟩:=hq;exact SqL.of (k3 _ _ hwy2 (fun z=>by rw[z,hr1]at hwy;cases hwy))) ?_ ?_
 ·rintro i y σ H3 hy ⟨v5,ts,rfl,hi,htl,hr3,hts,htr,k3⟩
  rw[Qs]at hy
  cases hz:ls[i]? with
  | none=>rw[hz]at hy;cases hy
  | some l =>
  rw[hz]at hy
  cases hy
  have hil:i<ls.length:=(Qf.mp hz).1
  cases hX:(ZO 8 N n)[i]? with
  | none=>rw[Qao]at hX;omega
  | some X =>
  obtain⟨x1,x2,x3,x4⟩:=cok i X hX
  have hl2:H2 l=some (.lst ((Zai X n).map V.int)):=hrd.get hz (by rw[Qs,hX];rfl)
  have nlr:l≠r:=fun z=>by rw[z]at hl2;rw[s2 _ _ hr1]at hl2;have:=hfr l (Qy hz);rw[z,hr1]at this;cases this
  have hl3:=k3 _ _ hl2 nlr
  have hne:=Zlk x2 n
  have e2:=Zib (x1.rise hup) x2 n
  rw[x4]at e2
  have e3:low n (ZO 8 N n) (i+1)=X:=by show (ZO 8 N n).getD i []=X;rw[QB,hX];rfl
  refine⟨_,rfl,_,rfl,xw4 l _ _ _ ⟨rfl,rfl,SqL.of hl3,ZgY hne,_,_,rfl,?_⟩⟩
  refine⟨_,rfl,_,rfl,_,rfl,xw4 l _ _ _ ⟨rfl,rfl,SqL.of hl3,Zg8 hne,_,_,rfl,?_⟩⟩
  refine⟨_,rfl,.inl ⟨rfl,_,SqL.of hr3⟩,_,rfl,_,rfl,(by show 2≤sizeLine;decide),fun t ht=>?_⟩
  have nrt:r≠t:=Zb hr3 ht
  refine⟨r,_,_,rfl,rfl,by rw[Zc nrt];exact hr3,(by rw[Qa];exact ZY (by omega)),?_⟩
  refine⟨some (.ref l),ts++[t],?_,hil,by rw[Qp,Qz];omega,by rw[Zd,Qe];rfl,fun j u Y hu hY=>?_,fun u hu=>?_,fun b o hb nb=>?_⟩
  ·rw[e3]
   have h1:=congrArg Prod.fst e2
   have h2:=congrArg Prod.snd e2
   simp only at h1 h2
   rw[show X.headD 0=(ZE X).1 from rfl,show X.getLastD 0=(ZE X).2 from rfl,h1,h2]
   rfl
  ·have htuple:∀ (u:Addr) (xs:List V),H3 u=some (.tup xs)→(upd (upd H3 t (.tup [.int (if (Zai X n).headD 0<(low n (ZO 8 N n) i).headD 0 then (Zai X n).headD 0 else (low n (ZO 8 N n) i).headD 0),.int (if (Zai X n).getLastD 0>(low n (ZO 8 N n) i).getLastD 0 then (Zai X n).getLastD 0 else (low n (ZO 8 N n) i).getLastD 0)])) r (.lst (ts.map V.ref++[.ref t]))) u=some (.tup xs):=fun u xs hu=>by
    rw[Zc (fun z=>by rw[z,hr3]at hu;cases hu),Zc (Zb hu ht)];exact hu
   by_cases hj:j<ts.length
   ·rw[Q3 hj]at hu
    exact htuple u _ (hts j u Y hu hY)
   ·have ej:j=ts.length:=by have:=(Qf.mp hu).1;rw[Qp,Qz]at this;omega
    subst ej
    rw[Q1 (Qd _),Nat.sub_self]at hu
    cases hu
    rw[htl,hX]at hY
    cases hY
    rw[Zc nrt.symm,Zd,e2]
  ·rcases Qq.mp hu with hu|hu
   ·obtain⟨g1,xs,g2⟩:=htr u hu
    exact⟨g1,xs,by rw[Zc g1,Zc (Zb g2 ht)];exact g2⟩
   ·rw[Ql.mp hu]
    exact⟨nrt.symm,_,by rw[Zc nrt.symm];exact Zd⟩
  ·have:=k3 b o hb nb
   rw[Zc nb,Zc (Zb this ht)];exact this
 ·rintro σ H3 ⟨v5,ts,rfl,_,htl,hr3,hts,_,k3⟩
  rw[Qa]at htl
  exact⟨_,rfl,q r ts H3 hr0 hr3 (by omega) hts (fun b o hb=>k3 b o (s02 b o hb) (Zb hb hr0))⟩
def CV(H:Hp)(v:V)(c:Com):Prop:=(c=none∧v=.non)∨∃ (t:Addr) (p:Int×Int),c=some p∧v=.ref t∧H t=some (.tup [.int p.1,.int p.2])
theorem CV.keep{H H':Hp}{v:V}{c:Com}(h:CV H v c)(k:∀t xs,H t=some (.tup xs)→H' t=some (.tup xs)):CV H' v c:=by
 rcases h with h|⟨t,p,h1,h2,h3⟩
 ·exact .inl h
 ·exact .inr ⟨t,p,h1,h2,k _ _ h3⟩
theorem Zkp{s:StL}{k:Int×Int}{v0:Option (Addr×Int×Int)}(h:ZM s k=some v0):s.any (fun e=>decide (e.1=k))=true:=List.any_eq_true.mpr ⟨_,Zfw h,decide_eq_true rfl⟩
theorem Zd1{s:StL}{k:Int×Int}{v0 v:Option (Addr×Int×Int)}(h:ZM s k=some v0):(ZbP s k v).length=s.length:=by
 unfold ZbP
 rw[if_pos (Zkp h),Qa]
def AgS(hd:Hd)(z:List Nat)(A B:List Int)(k q:Int):Prop:=∀C k0 q0,Ag hd z C k0 q0→Ag hd z (C++[(A,B)]) (k0+k) (q0+q)
def Zio(cR cM:Addr):Sp:=fun vs H Q _=>∃ (m rd sd:Addr) (L:List Zv) (s:StL) (nb li lo:Int) (best:V) (tm:Addr) (v:V) (c:Com) (z:List Nat) (M:List Int) (n:Int),vs=[.ref m,.ref tm,v]∧ZQ cR cM H m rd sd L s nb li lo best∧H tm=some (.tup [.int (ZE M).1,.int (ZE M).2])∧CV H v c∧ZgL (hdM L) z (Z8 M n) c ∧
 ((Win (hdM L) (Zai M n) none∧(ZM s (ZE M)=none∨ZM s (ZE M)=some none))∨∃t b y,Win (hdM L) (Zai M n) (some b)∧hdM L b=some y∧ZM s (ZE M)=some (some (t,b,((lcp y z:Nat):Int)))) ∧
 (∀b∈M,∀y,hdM L b=some y→ZF z y≤0)∧Z5 M∧(∀b∈M,b∈Zs L)∧2≤M.length∧n∈M ∧
 ∀ (v':V) (c':Com) (s':StL) (k q:Int) (H':Hp),CV H' v' c'→ZgL (hdM L) z M c'→Zdh (hdM L) s' (Z8 M n) (Zai M n) (ZE M)→(∀j,j≠ZE M→ZM s' j=ZM s j)→AgS (hdM L) z (Z8 M n) (Zai M n) k q →
  ZQ cR cM H' m rd sd L s' nb (li+k) (lo+q) best→(∀b o,H b=some o→b≠m→b≠sd→H' b=some o)→Q v' H'
theorem ZkM{L:List Zv}(nd:(Zs L).Nodup){b:Int}(hb:b∈Zs L){y:List Nat}(hy:hdM L b=some y):∃e∈L,e.n=b∧∃x,e.ss[e.g]? = some x∧y=cds x:=by
 obtain⟨e,he,rfl⟩:=ZcY hb
 rw[Zdu nd he]at hy
 cases hx:e.ss[e.g]? with
 | none=>rw[hx]at hy;cases hy
 | some x=>rw[hx]at hy;cases hy;exact⟨e,he,rfl,x,hx,rfl⟩
theorem Zkt(T:Zak K mg cRow cMerge)(f_Merge_meet:Mf P w K mg base 3 cMerge "meet" ["self", "one", "other", "far"] (ZhF cRow cMerge)):Mf P w K mg base 4 cMerge "play_again" ["self", "meeting", "comer"] (Zio cRow cMerge):=by
 refine T.t_Merge_play_again.mf Zac (fun vs H Q E h=>?_) (fun cdv f A outer s H vs Q E hr h=>?_)
 ·obtain⟨m,rd,sd,L,s,nb,li,lo,best,tm,v,c,z,M,n,rfl,_⟩:=h
  rfl
 obtain⟨m,rd,sd,L,s,nb,li,lo',best,tm,v,c,z,M,n,rfl,Mg,htm,hcv,⟨wS,hcf⟩,hst,hge,hup,hin,h2,hn,q⟩:=h
 refine⟨_,#[Zg,#[Zy,3,Zac.nd,(Or.inl rfl),(@Znl _ _ _ _ _ _ _ _ hr #[ZH,‹0›] ‹1› (by rfl) (by rfl) (by rfl))],#[Zg,#[Zaw,#[Zt,Zco,‹3›,#[Zaj],(Zw _)],#[Zi,#[Zr,‹2›]],(@ZS _)],#[Zg,#[Zaw,#[Zt,Zco,‹2›,#[Zaj],(Zw _)],#[Zg,#[Za9,#[Zaj],#[ZdD,#[ZH,‹0›],‹1›,(Zj7 hr)]],#[Zi,#[Zr,‹3›]]],(@ZS _)],#[Zg,#[Zaw,#[Zt,Zbo,#[ZN,(ixT K),‹2›,#[Zh]],#[ZN,(ixT K),‹3›,#[Zh]],(Zw _)],#[Zg,#[Za9,#[Zcy,f_Merge_meet,T.cl_Merge,hr,‹0›,#[Za,#[ZN,(ixT K),‹2›,#[Zh]],#[Za,#[ZN,(ixT K),‹3›,#[Zh]],#[Za,#[ZN,(ixT K),‹2›,#[Zh]],#[Zf]]]]],#[gT,K,3,#[Zz,#[ZL,4,Zac.nd],#[Zz,#[ZL,5,Zac.nd],#[Zz,#[ZL,6,Zac.nd],(@ZaW _)]]]]],#[Zg,#[Za9,#[ZaP,#[Za,‹5›,#[Za,‹6›,#[Zf]]]],#[ZdD,#[ZH,‹0›],‹1›,(Zj7 hr)]],#[Zi,#[Zr,#[ZaP,#[Za,‹4›,#[Za,#[ZN,(ixT K),‹2›,#[Zh]],#[Zf]]]]]]]],(@ZS _)],#[Zg,(@Zdc _ _ _ _ _ _ _ _ _ _ ‹0› #[Zh] Zgc),#[Zg,#[Zaw,#[Zt,Zhk,#[ZN,(ixT K),‹2›,#[Zh]],#[ZN,(ixT K),‹3›,#[Zh]],(Zw _)],#[Zi,#[Zr,‹2›]],(@ZS _)],#[Zg,#[Za9,‹2›,#[ZdD,#[ZH,‹0›],‹1›,(Zj7 hr)]],#[Zi,#[Zr,‹3›]]]]]]]]],?_⟩
 obtain⟨dx,hm⟩:=Mg.ob
 have htm':H tm=some (.tup (([.inl (ZE M).1,.inl (ZE M).2]:List Key).map kV)):=htm
 have pm:=Zd4 M n
 have dg:=Zbq.t (k:=[.inl (ZE M).1,.inl (ZE M).2]) Mg.stays htm'
 rw[ZgK]at dg
 have sA:∀b∈Z8 M n,b∈M:=fun b hb=>pm.mem_iff.mp (QM _ hb)
 have sB:∀b∈Zai M n,b∈M:=fun b hb=>pm.mem_iff.mp (Qo _ hb)
 have hno:=ZeY hup (ZcS hn)
 have dis:∀a b,a∈Z8 M n→b∈Zai M n→a≠b:=fun a b ha hb e=>by
  subst e
  unfold Z8 Zai at *
  split at ha
  ·rename_i hl;rw[if_pos hl]at hb;have:=ZD hup ha hb;omega
  ·rename_i hl;rw[if_neg hl]at hb;have:=ZD hup hb ha;omega
 refine⟨_,rfl,xw5 m cMerge dx _ _ ⟨rfl,hm,T.cl_Merge,T.na_Merge_stays,ZbA ..,sd,rfl,.inr ⟨_,.inl Mg.stays⟩,_,rfl,_,dg,?_⟩⟩
 rcases hst with⟨wO,hlk⟩|⟨t,b,y,wO,hy,hlk⟩
 ·have ev:((ZM s (ZE M)).map stV).getD .non=.non:=by rcases hlk with e|e<;>rw[e]<;>rfl
  rw[ev]
  refine⟨_,rfl,rfl,_,rfl,ZdT rfl ⟨_,rfl,q v c s 0 0 H hcv ⟨(Win.left wS wO).perm pm,hcf⟩ ⟨(fun a b x y _ wb _ _=>nomatch wO.one wb),fun _=>hlk⟩ (fun _ _=>rfl) (fun C k0 q0 g=>by rw[Q2,Q2];exact .no g (.inr wO)) (Mg.cast (by omega) (by omega)) (fun b o h _ _=>h)⟩⟩
 have hat:=Mg.ats _ (Zfw hlk) _ rfl
 have e1:((ZM s (ZE M)).map stV).getD .non=.ref t:=by rw[hlk];rfl
 rw[e1]
 have hsf:=Mg.sfew
 have hsl:(kvS s).length<sizeLine:=by unfold kvS;rw[Qa];exact ZY (by omega)
 refine⟨_,rfl,rfl,_,rfl,Zcu (fun z=>nomatch z) ?_⟩
 have hbM:=sB b wO.1
 rcases hcv with⟨rfl,rfl⟩|⟨tc,p,rfl,rfl,htc⟩
 ·refine⟨_,rfl,rfl,_,rfl,ZdT rfl ?_⟩
  refine⟨_,rfl,xw5 m cMerge dx _ _ ⟨rfl,hm,T.cl_Merge,T.na_Merge_stays,ZbA ..,_,rfl,sd,_,rfl,Zea.t (k:=[.inl (ZE M).1,.inl (ZE M).2]) Mg.stays htm' hsl,?_⟩⟩
  rw[show V.non=stV none from rfl,Zeu]
  have hl1:(ZbP s (ZE M) none).length≤800:=by rw[Zd1 hlk];exact hsf
  have M2:=Mg.put (k:=ZE M) (v:=none) (fun t ht=>by cases ht) hl1 (Mg.kb.key hup h2 hin)
  have wS':Win (hdM L) (Z8 M n) none:=wS
  refine⟨_,rfl,q (.ref t) (some (b,((lcp y z:Nat):Int))) _ 0 0 _ (.inr ⟨t,_,rfl,rfl,?_⟩) ⟨(Win.right wS' wO).perm pm,fun p hp=>?_⟩ ⟨(fun a b x y wa _ _ _=>nomatch wS'.one wa),fun _=>.inr ?_⟩ (fun j hj=>?_) (fun C k0 q0 g=>?_) (M2.cast (by omega) (by omega)) (fun b o hb _ n2=>by rw[Zc n2];exact hb)⟩
  ·rw[Zc (fun z=>by rw[z,Mg.stays]at hat;cases hat)];exact hat
  ·cases hp;exact⟨y,hy,rfl⟩
  ·rw[ZaF,if_pos rfl]
  ·rw[ZaF,if_neg hj]
  ·rw[Q2,Q2];exact .no g (.inl wS')
 obtain⟨a,fa⟩:=p
 obtain⟨x,hx,efa⟩:=hcf _ rfl
 simp only at hx efa
 subst efa
 have wS':Win (hdM L) (Z8 M n) (some a):=wS
 have haM:=sA a wS'.1
 have hab:=dis a b wS'.1 wO.1
 obtain⟨ea,hea,rfl,zx,hzx,rfl⟩:=ZkM Mg.nd (hin a haM) hx
 obtain⟨eb,heb,rfl,zy,hzy,rfl⟩:=ZkM Mg.nd (hin b hbM) hy
 have c0:atI [V.int ea.n,.int ((lcp (cds zx) z:Nat):Int)] 0=some (.int ea.n):=Zaz (j:=0) rfl
 have c1:atI [V.int ea.n,.int ((lcp (cds zx) z:Nat):Int)] 1=some (.int ((lcp (cds zx) z:Nat):Int)):=Zaz (j:=1) rfl
 have d0:atI [V.int eb.n,.int ((lcp (cds zy) z:Nat):Int)] 0=some (.int eb.n):=Zaz (j:=0) rfl
 have d1:atI [V.int eb.n,.int ((lcp (cds zy) z:Nat):Int)] 1=some (.int ((lcp (cds zy) z:Nat):Int)):=Zaz (j:=1) rfl
 refine⟨_,rfl,rfl,_,rfl,Zcu (fun z=>nomatch z) ?_⟩
 refine⟨_,rfl,tc,_,_,_,rfl,rfl,SqT.of htc,c1,_,rfl,xw4 t _ _ _ ⟨rfl,rfl,SqT.of hat,d1,rfl,_,rfl,Zbt (fun d=>?_) (fun d=>?_)⟩⟩
 ·have ef:lcp (cds zx) z=lcp (cds zy) z:=by have:=of_decide_eq_true d;injection this with this;omega
  have hle:=ZnX ef
  refine⟨_,rfl,m,dx,_,rfl,hm,Ze7 ..,_,rfl,tc,_,_,_,rfl,rfl,SqT.of htc,c0,_,rfl,xw4 t _ _ _ ⟨rfl,rfl,SqT.of hat,d0,_,rfl,tc,_,_,_,rfl,rfl,SqT.of htc,c1,?_⟩⟩
  refine⟨m,rd,sd,L,s,nb,li,lo',best,ea,eb,zx,zy,lcp (cds zx) z,rfl,Mg,hea,heb,hzx,hzy,hle,fun t5 wi lz H5 hw ht5 ht5' M5 b5=>?_⟩
  refine⟨t5,_,rfl,SqT.of ht5',rfl,_,_,rfl,_,_,rfl,_,_,rfl,rfl,?_⟩
  have sz2:2≤sizeLine:=by decide
  refine⟨_,rfl,_,rfl,sz2,fun t6 ht6=>?_⟩
  have s6:=Zj ht6 (.tup [.int lz,.int ((lcp (cds zx) (cds zy):Nat):Int)])
  have ht66:(upd H5 t6 (.tup [.int lz,.int ((lcp (cds zx) (cds zy):Nat):Int)])) t6=some (.tup [.int lz,.int ((lcp (cds zx) (cds zy):Nat):Int)]):=Zd
  have M6:=M5.same s6
  generalize upd H5 t6 (.tup [.int lz,.int ((lcp (cds zx) (cds zy):Nat):Int)])=H6 at s6 ht66 M6 ⊢
  obtain⟨dx6,hm6⟩:=M6.ob
  have ntm:tm≠m:=fun z=>by rw[z,hm]at htm;cases htm
  have ntc:tc≠m:=fun z=>by rw[z,hm]at htc;cases htc
  have htm6:H6 tm=some (.tup (([.inl (ZE M).1,.inl (ZE M).2]:List Key).map kV)):=s6 _ _ (b5 _ _ htm' ntm)
  refine⟨_,rfl,xw5 m cMerge dx6 _ _ ⟨rfl,hm6,T.cl_Merge,T.na_Merge_stays,ZbA ..,_,rfl,sd,_,rfl,Zea.t (k:=[.inl (ZE M).1,.inl (ZE M).2]) M6.stays htm6 hsl,?_⟩⟩
  rw[show V.ref t6=stV (some (t6,lz,((lcp (cds zx) (cds zy):Nat):Int))) from rfl,Zeu]
  have hl1:(ZbP s (ZE M) (some (t6,lz,((lcp (cds zx) (cds zy):Nat):Int)))).length≤800:=by rw[Zd1 hlk];exact hsf
  have M7:=M6.put (k:=ZE M) (v:=some (t6,lz,((lcp (cds zx) (cds zy):Nat):Int))) (fun t ht=>by injection ht with ht;rw[← ht];exact ht66) hl1 (Mg.kb.key hup h2 hin)
  have b7:∀b o,H b=some o→b≠m→b≠sd→(upd H6 sd (.dT (kvS (ZbP s (ZE M) (some (t6,lz,((lcp (cds zx) (cds zy):Nat):Int))))))) b=some o:=fun b o hb n1 n2=>by rw[Zc n2];exact s6 _ _ (b5 b o hb n1)
  have ntcs:tc≠sd:=fun z=>by rw[z,Mg.stays]at htc;cases htc
  generalize upd H6 sd (.dT (kvS (ZbP s (ZE M) (some (t6,lz,((lcp (cds zx) (cds zy):Nat):Int))))))=H7 at M7 b7 ⊢
  refine⟨_,rfl,_,rfl,tc,_,_,_,rfl,rfl,SqT.of (b7 _ _ htc ntc ntcs),c1,sz2,fun t8 ht8=>?_⟩
  have wn:Win (hdM L) M (some wi):=by
   rcases hw with⟨w0,rfl,_⟩|⟨w0,rfl,_⟩
   ·exact(Win.both wS' wO hx hy w0).perm pm
   ·exact(Win.both' wS' wO hx hy ((Btr.total hab).resolve_left w0)).perm pm
  refine q (.ref t8) (some (wi,((lcp (cds zx) z:Nat):Int))) _ 1 ((lcp (cds zx) (cds zy):Nat)-(lcp (cds zx) z:Nat)+1) _ (.inr ⟨t8,_,rfl,rfl,Zd⟩) ⟨wn,fun p hp=>?_⟩ ⟨fun a b x' y' wa wb hxa hyb=>?_,fun hno=>?_⟩ (fun j hj=>by rw[ZaF,if_neg hj]) (fun C k0 q0 g=>.eq g wS' wO hx hy ef) ((M7.same (Zj ht8 _)).cast rfl rfl) (fun b o hb n1 n2=>Zj ht8 _ _ _ (b7 b o hb n1 n2))
  ·cases hp
   rcases hw with⟨w0,rfl,_⟩|⟨w0,rfl,_⟩
   ·exact⟨_,hx,rfl⟩
   ·exact⟨_,hy,by simp only;rw[ef]⟩
  ·have e1:=Qh (wa.one wS')
   have e2:=Qh (wb.one wO)
   subst e1
   subst e2
   have e3:=Qh (hxa.symm.trans hx)
   have e4:=Qh (hyb.symm.trans hy)
   subst e3
   subst e4
   refine⟨t6,lz,by rw[ZaF,if_pos rfl],?_⟩
   rcases hw with⟨w0,_,rfl⟩|⟨w0,_,rfl⟩
   ·exact .inl ⟨w0,rfl⟩
   ·exact .inr ⟨(Btr.total hab).resolve_left w0,rfl⟩
  ·rcases hno with z|z
   ·exact nomatch z.one wS'
   ·exact nomatch z.one wO
 have nef:lcp (cds zx) z≠lcp (cds zy) z:=fun e=>d (decide_eq_true (by rw[e]))
 refine⟨_,rfl,xw5 m cMerge dx _ _ ⟨rfl,hm,T.cl_Merge,T.na_Merge_likened,ZbT ..,_,_,rfl,rfl,dx,_,hm,ZaH ..,?_⟩⟩
 rw[Zbr]
 have M2:=Mg.obj (nb':=nb) (li':=li+1) (lo':=lo') (best':=best) (dx:=dx)
 have k2:∀b o,H b=some o→b≠m→(upd H m (.ins cMerge dx (mgF rd nb (li+1) lo' sd best))) b=some o:=fun b o hb n=>by rw[Zc n];exact hb
 have ntc:tc≠m:=fun z=>by rw[z,hm]at htc;cases htc
 have ntt:t≠m:=fun z=>by rw[z,hm]at hat;cases hat
 have ntm:tm≠m:=fun z=>by rw[z,hm]at htm;cases htm
 generalize upd H m (.ins cMerge dx (mgF rd nb (li+1) lo' sd best))=H2 at M2 k2 ⊢
 have htc2:=k2 _ _ htc ntc
 have hat2:=k2 _ _ hat ntt
 refine⟨_,rfl,tc,_,_,_,rfl,rfl,SqT.of htc2,c1,_,rfl,xw4 t _ _ _ ⟨rfl,rfl,SqT.of hat2,d1,_,_,rfl,rfl,_,rfl,Zbt (fun g=>?_) (fun g=>?_)⟩⟩
 ·have hgt:lcp (cds zy) z<lcp (cds zx) z:=by have:((lcp (cds zy) z:Nat):Int)<((lcp (cds zx) z:Nat):Int):=of_decide_eq_true g;omega
  obtain⟨bt,el⟩:=ZgZ (a:=ea.n) (b:=eb.n) hgt (hge _ hbM _ hy)
  refine⟨_,rfl,q (.ref tc) (some (ea.n,((lcp (cds zx) z:Nat):Int))) s 1 0 H2 (.inr ⟨tc,_,rfl,rfl,htc2⟩) ⟨(Win.both wS' wO hx hy bt).perm pm,fun p hp=>by cases hp;exact⟨_,hx,rfl⟩⟩ ⟨fun a b x' y' wa wb hxa hyb=>?_,fun hno=>?_⟩ (fun _ _=>rfl) (fun C k0 q0 g=>by rw[Q2];exact .ne g wS' wO hx hy nef) (M2.cast rfl (by omega)) (fun b o hb n1 _=>k2 b o hb n1)⟩
  ·have e1:=Qh (wa.one wS')
   have e2:=Qh (wb.one wO)
   subst e1
   subst e2
   have e3:=Qh (hxa.symm.trans hx)
   have e4:=Qh (hyb.symm.trans hy)
   subst e3
   subst e4
   exact⟨t,_,by rw[el];exact hlk,.inl ⟨bt,rfl⟩⟩
  ·rcases hno with z|z
   ·exact nomatch z.one wS'
   ·exact nomatch z.one wO
 ·have hlt:lcp (cds zx) z<lcp (cds zy) z:=by
   have:¬ ((lcp (cds zy) z:Nat):Int)<((lcp (cds zx) z:Nat):Int):=fun e=>g (decide_eq_true e)
   omega
  obtain⟨bt,el⟩:=ZgZ (a:=eb.n) (b:=ea.n) hlt (hge _ haM _ hx)
  obtain⟨dx2,hm2⟩:=M2.ob
  have htm2:H2 tm=some (.tup (([.inl (ZE M).1,.inl (ZE M).2]:List Key).map kV)):=k2 _ _ htm' ntm
  refine⟨_,rfl,_,rfl,xw5 m cMerge dx2 _ _ ⟨rfl,hm2,T.cl_Merge,T.na_Merge_stays,ZbA ..,_,rfl,sd,_,rfl,Zea.t (k:=[.inl (ZE M).1,.inl (ZE M).2]) M2.stays htm2 hsl,?_⟩⟩
  rw[show V.ref tc=stV (some (tc,ea.n,((lcp (cds zx) z:Nat):Int))) from rfl,Zeu]
  have hl1:(ZbP s (ZE M) (some (tc,ea.n,((lcp (cds zx) z:Nat):Int)))).length≤800:=by rw[Zd1 hlk];exact hsf
  have M3:=M2.put (k:=ZE M) (v:=some (tc,ea.n,((lcp (cds zx) z:Nat):Int))) (fun t ht=>by injection ht with ht;rw[← ht];exact htc2) hl1 (Mg.kb.key hup h2 hin)
  refine⟨_,rfl,q (.ref t) (some (eb.n,((lcp (cds zy) z:Nat):Int))) _ 1 0 _ (.inr ⟨t,_,rfl,rfl,?_⟩) ⟨(Win.both' wS' wO hx hy bt).perm pm,fun p hp=>by cases hp;exact⟨_,hy,rfl⟩⟩ ⟨fun a b x' y' wa wb hxa hyb=>?_,fun hno=>?_⟩ (fun j hj=>by rw[ZaF,if_neg hj]) (fun C k0 q0 g=>by rw[Q2];exact .ne g wS' wO hx hy nef) (M3.cast rfl (by omega)) (fun b o hb n1 n2=>by rw[Zc n2];exact k2 b o hb n1)⟩
  ·rw[Zc (fun z=>by rw[z,M2.stays]at hat2;cases hat2)];exact hat2
  ·have e1:=Qh (wa.one wS')
   have e2:=Qh (wb.one wO)
   subst e1
   subst e2
   have e3:=Qh (hxa.symm.trans hx)
   have e4:=Qh (hyb.symm.trans hy)
   subst e3
   subst e4
   exact⟨tc,_,by rw[ZaF,if_pos rfl,ZbK (cds zx) (cds zy),el],.inr ⟨bt,rfl⟩⟩
  ·rcases hno with z|z
   ·exact nomatch z.one wS'
   ·exact nomatch z.one wO
def Zcj(n:Int)(e:Zv):Zv:=if e.n=n then ⟨e.n,e.p,e.k,e.f,e.ss,e.g+1⟩ else e
def bump(L:List Zv)(n:Int):List Zv:=L.map (Zcj n)
theorem Zcl(n:Int)(e:Zv):(Zcj n e).n=e.n∧(Zcj n e).p=e.p∧(Zcj n e).k=e.k∧(Zcj n e).f=e.f∧(Zcj n e).ss=e.ss:=by unfold Zcj;split<;>exact⟨rfl,rfl,rfl,rfl,rfl⟩
theorem ZdJ{n:Int}{e:Zv}(h:e.n=n):Zcj n e=⟨e.n,e.p,e.k,e.f,e.ss,e.g+1⟩:=if_pos h
theorem ZeQ{n:Int}{e:Zv}(h:¬ e.n=n):Zcj n e=e:=if_neg h
theorem Zba(L:List Zv)(n:Int):Zs (bump L n)=Zs L:=by
 unfold Zs bump
 rw[QF]
 exact QR fun e _=>(Zcl n e).1
theorem Zmd(L:List Zv)(n:Int):(bump L n).map (·.p)=L.map (·.p):=by
 unfold bump
 rw[QF]
 exact QR fun e _=>(Zcl n e).2.1
theorem Zkl(L:List Zv)(n:Int):kvM (bump L n)=kvM L:=by
 unfold kvM bump
 rw[QF]
 refine QR fun e _=>?_
 simp only[Function.comp]
 rw[(Zcl n e).1,(Zcl n e).2.1]
theorem ZmK{m rd sd:Addr}{L:List Zv}{n:Int}{b:Addr}(h:Fp m rd sd (bump L n) b):Fp m rd sd L b:=by
 rcases h with h|h|h|⟨e',he',h⟩
 ·exact .inl h
 ·exact .inr (.inl h)
 ·exact .inr (.inr (.inl h))
 ·obtain⟨e,he,rfl⟩:=QE.mp he'
  obtain⟨_,h1,h2,h3,_⟩:=Zcl n e
  rw[h1,h2,h3]at h
  exact .inr (.inr (.inr ⟨e,he,h⟩))
theorem Fp_bump'{m rd sd:Addr}{L:List Zv}{n:Int}{b:Addr}(h:Fp m rd sd L b):Fp m rd sd (bump L n) b:=by
 rcases h with h|h|h|⟨e,he,h⟩
 ·exact .inl h
 ·exact .inr (.inl h)
 ·exact .inr (.inr (.inl h))
 ·obtain⟨_,h1,h2,h3,_⟩:=Zcl n e
  refine .inr (.inr (.inr ⟨Zcj n e,Qj he,?_⟩))
  rw[h1,h2,h3]
  exact h
theorem ZiX{n b:Int}(h:b≠n):∀L:List Zv,hdM (bump L n) b=hdM L b
 | []=>rfl
 | e::L=>by
  have ih:=ZiX h L
  unfold hdM hdL bump at ih ⊢
  rw[Qg,Qg,Qg,Qas,Qas]
  have e1:(toL (Zcj n e)).1=e.n:=(Zcl n e).1
  rw[e1]
  by_cases he:e.n=b
  ·rw[decide_eq_true he,decide_eq_true (show (toL e).1=b from he),ZeQ (fun z=>h (he.symm.trans z))]
  ·rw[decide_eq_false he,decide_eq_false (show ¬ (toL e).1=b from he)]
   exact ih
theorem Zhd{L:List Zv}(nd:(Zs L).Nodup){e:Zv}(he:e∈L):hdM (bump L e.n) e.n=(e.ss[e.g+1]?).map cds:=by
 have hm:Zcj e.n e∈bump L e.n:=Qj he
 rw[ZdJ rfl]at hm
 exact Zdu (L:=bump L e.n) (by rw[Zba];exact nd) hm
theorem ZdZ(k f:Addr)(g:Int):ZbO k f g=([("all_keys",.ref k),("fars",.ref f),("gone",.int g)]:List (Str×V)):=by
 unfold ZbO
 rw[Za2,Zq nFK,Za2,Zq nGK,Zq nGF,Za2]
theorem Zdj(k f:Addr)(g v:Int):Zm "gone" (.int v) (ZbO k f g)=ZbO k f v:=by
 rw[ZdZ,ZdZ,Zq nGK,Zq nGF,ZbI]
theorem Zg1(k f:Addr)(g:Int):(ZbO k f g).length<1000:=by rw[ZdZ];show 3<1000;decide
theorem Zjz(k f:Addr)(g:Int):(ZbO k f g).lookup ("fars" : Str)=some (.ref f):=by
 unfold ZbO
 rw[Zk,if_neg nGF,Zk,if_pos rfl]
theorem ZoT{L:List Zv}(pd:(L.map (·.p)).Nodup){e e':Zv}(he:e∈L)(he':e'∈L)(h:e.p=e'.p):e=e':=by
 have n2:((L.map fun x=>(x.p,x)).map (·.1)).Nodup:=by rw[QF];exact pd
 have:=ZdQ n2 (Qj (f:=fun x:Zv=>(x.p,x)) he) (Qj (f:=fun x:Zv=>(x.p,x)) he') h
 injection this
theorem ZQ.bump{cR cM:Addr}{H:Hp}{m rd sd:Addr}{L:List Zv}{s:StL}{nb li lo:Int}{best:V}(M:ZQ cR cM H m rd sd L s nb li lo best){e:Zv}(he:e∈L)(hg:e.g<e.ss.length){dp:Addr} :
  ZQ cR cM (upd H e.p (.ins cR dp (ZbO e.k e.f ((e.g+1:Nat):Int)))) m rd sd (My.bump L e.n) s nb li lo best:=by
 obtain⟨dm,hm⟩:=M.ob
 obtain⟨dq,hp⟩:=(M.each e he).at'.ob
 obtain⟨n1,_,_⟩:=M.ne_p he
 obtain⟨n2,_,_,n3,_,_⟩:=M.ne_sd he
 refine⟨⟨dm,by rw[Zc n1];exact hm⟩,by rw[Zc n3,Zkl];exact M.rows,by rw[Zc n2];exact M.stays,fun x hx t ht=>?_,fun e' he'=>?_,by rw[Zba];exact M.up,by rw[Zmd];exact M.pd,by unfold My.bump;rw[Qa];exact M.few,M.sfew,⟨M.kb.1,by rw[Zba];exact M.kb.2⟩⟩
 ·have:=M.ats x hx t ht
  rw[Zc (fun z=>by rw[z,hp]at this;cases this)];exact this
 ·obtain⟨x,hx,rfl⟩:=QE.mp he'
  have R:=M.each x hx
  have kne:∀ {y:Zv},y∈L→y.k≠e.p∧y.f≠e.p:=fun {y} hy=>by
   have Ry:=M.each y hy
   exact⟨(fun z=>by have:=Ry.at'.ks;rw[z,hp]at this;cases this),(fun z=>by have:=Ry.at'.fs;rw[z,hp]at this;cases this)⟩
  obtain⟨k1,k2⟩:=kne hx
  by_cases hn:x.n=e.n
  ·have ex:x=e:=by
    have n2:((L.map fun x=>(x.n,x)).map (·.1)).Nodup:=by rw[QF];exact M.nd
    have:=ZdQ n2 (Qj (f:=fun x:Zv=>(x.n,x)) hx) (Qj (f:=fun x:Zv=>(x.n,x)) he) hn
    injection this
   subst ex
   rw[ZdJ rfl]
   exact⟨⟨⟨dp,Zd⟩,by show (upd H x.p _) x.k=_;rw[Zc k1];exact R.at'.ks,by show (upd H x.p _) x.f=_;rw[Zc k2];exact R.at'.fs⟩,hg,R.len,R.srt,R.str⟩
  ·rw[ZeQ hn]
   exact R.keep (Zc (fun z=>hn (by rw[ZoT M.pd hx he z]))) (Zc k1) (Zc k2)
theorem Zoo{L:List Zv}{e:Zv}{x:Str}(nd:(Zs L).Nodup)(up:Z5 (Zs L))(he:e∈L)(hx:e.ss[e.g]? = some x)(srt:sortedS e.ss=true)(W:Win (hdM L) (Zs L) (some e.n)):Tk (hdM L) (hdM (bump L e.n)) (Zs L) e.n (cds x):=by
 refine⟨W,by rw[Zdu nd he,hx];rfl,fun b hb=>ZiX hb L,fun y hy=>?_,up⟩
 rw[Zhd nd he]at hy
 cases hz:e.ss[e.g+1]? with
 | none=>rw[hz]at hy;cases hy
 | some y'=>rw[hz]at hy;cases hy;exact ZfX srt e.g x y' hx hz
theorem ZnG{c:Bool}{e1 e2:VK→Prop}{Q:VK}(P:V→Hp→Prop)(h1:c=true→∀Q':VK,(∀v H,P v H→Q' v H)→e1 Q')(h2:c=false→∀Q':VK,(∀v H,P v H→Q' v H)→e2 Q')(q:∀v H,P v H→Q v H):if c=true then e1 Q else e2 Q:=by
 cases c with
 | true=>rw[if_pos rfl];exact h1 rfl Q q
 | false=>rw[if_neg (by decide)];exact h2 rfl Q q
def Zda(n:Int)(C:List (List Int)):List (List Int×List Int):=C.map fun X=>(Z8 X n,Zai X n)
theorem Zhj(rd:Addr)(nb li lo:Int)(sd:Addr)(best:V):(mgF rd nb li lo sd best).lookup ("play_again" : Str)=none:=Za7 _ _ _ _ _ _ (by ac_rfl) (by ac_rfl) (by ac_rfl) (by ac_rfl) (by ac_rfl) (by ac_rfl)
def Zlp(cR cM:Addr):Sp:=fun vs H Q _=>∃ (m rd sd:Addr) (L:List Zv) (s:StL) (nb li lo:Int) (best:V) (e:Zv) (x:Str),vs=[.ref m,.int e.n]∧ZQ cR cM H m rd sd L s nb li lo best∧e∈L∧e.ss[e.g]? = some x∧Win (hdM L) (Zs L) (some e.n)∧ZX (hdM L) s (Zs L) ∧
 ∀ (s':StL) (w':Option Int) (k q:Int) (H':Hp),ZQ cR cM H' m rd sd (bump L e.n) s' nb (li+k) (lo+q) (ZaJ w')→Win (hdM (bump L e.n)) (Zs L) w'→ZX (hdM (bump L e.n)) s' (Zs L)→Ag (hdM (bump L e.n)) (cds x) (Zda e.n (ZO 8 (Zs L) e.n)) k q→(∀b o,H b=some o→¬ Fp m rd sd L b→H' b=some o)→Q .non H'
theorem Zl9(T:Zak K mg cRow cMerge)(f_Row_head:Mf P w K mg base 2 cRow "head" ["self"] (ZeC cRow))(f_matches_up:Df P w K mg base 3 "matches_up" ["numbers", "n"] Zfv)(f_Merge_play_again:Mf P w K mg base 4 cMerge "play_again" ["self", "meeting", "comer"] (Zio cRow cMerge)):Mf P w K mg base 5 cMerge "send_out" ["self", "number"] (Zlp cRow cMerge):=by
 refine T.t_Merge_send_out.mf Zam (fun vs H Q E h=>?_) (fun cdv f A outer s H vs Q E hr h=>?_)
 ·obtain⟨m,rd,sd,L,s,nb,li,lo,best,e,x,rfl,_⟩:=h
  rfl
 obtain⟨m,rd,sd,L,s,nb,li,lo',best,e,x,rfl,M,he,hx,W,ok,q⟩:=h
 refine⟨_,#[Zg,#[Zy,2,Zam.nd,(Or.inl rfl),#[ZN,(ixG hr),#[ZH,‹0›],‹1›]],#[Zg,(@Zdc _ _ _ _ _ _ _ _ _ _ ‹2› #[Zh] Zgc),#[Zg,#[Zy,3,Zam.nd,(Or.inl rfl),#[Zbm,#[Zt,Zco,#[ZaC,f_Row_head,T.cl_Row,hr,‹2›],#[Zaj],(Zw _)],#[Zaj],#[ZaP,#[Za,‹1›,#[Za,#[ZN,(ixL K),#[ZH,‹2›],#[ZH,‹2›]],#[Zf]]]]]],#[Zg,#[ZcI,PassesOwn.never,#[iL,K,#[ZC,f_matches_up,hr,#[Za,#[Zch,Zow,T.b.n_list,boot_list,#[Za,#[ZH,‹0›],#[Zf]]],#[Za,‹1›,#[Zf]]],(by rfl)]],#[ZL,4,Zam.nd],#[Zi,#[Zy,3,Zam.nd,(Or.inl rfl),#[Zcy,f_Merge_play_again,T.cl_Merge,hr,‹0›,#[Za,‹4›,#[Za,‹3›,#[Zf]]]]]]],#[Zi,#[ZaA,‹0›,#[Zbm,#[Zt,Zco,‹3›,#[Zaj],(Zw _)],#[Zaj],#[ZN,(ixT K),‹3›,#[Zh]]]]]]]]],?_⟩
 obtain⟨dx,hm⟩:=M.ob
 have R:=M.each e he
 obtain⟨dp,hp⟩:=R.at'.ob
 have hg:e.g<e.ss.length:=(Qf.mp hx).1
 have tk:=Zoo M.nd M.up he hx R.srt W
 refine⟨_,rfl,xw5 m cMerge dx _ _ ⟨rfl,hm,T.cl_Merge,T.na_Merge_rows,ZaT ..,_,rfl,rd,_,rfl,Zbq.k' (k:=.inl e.n) M.rows (Zfg M.nd he),?_⟩⟩
 refine⟨_,rfl,e.p,cRow,dp,_,_,rfl,hp,T.cl_Row,T.na_Row_gone,ZbB ..,_,_,rfl,rfl,dp,_,hp,Zg1 ..,?_⟩
 rw[Zdj,show ((e.g:Int)+1)=((e.g+1:Nat):Int) by omega]
 have M1:=M.bump he hg (dp:=dp)
 have hp1:(upd H e.p (.ins cRow dp (ZbO e.k e.f ((e.g+1:Nat):Int)))) e.p=some (.ins cRow dp (ZbO e.k e.f ((e.g+1:Nat):Int))):=Zd
 have k1:∀b o,H b=some o→b≠e.p→(upd H e.p (.ins cRow dp (ZbO e.k e.f ((e.g+1:Nat):Int)))) b=some o:=fun b o hb n=>by rw[Zc n];exact hb
 generalize upd H e.p (.ins cRow dp (ZbO e.k e.f ((e.g+1:Nat):Int)))=H1 at M1 hp1 k1 ⊢
 have hm':(⟨e.n,e.p,e.k,e.f,e.ss,e.g+1⟩:Zv)∈bump L e.n:=by
  have:Zcj e.n e∈bump L e.n:=Qj he
  rwa [ZdJ rfl]at this
 have R1:=M1.each _ hm'
 have keep1:∀ {H2:Hp},(∀b o,H1 b=some o→b≠m→b≠sd→H2 b=some o)→∀b o,H b=some o→¬ Fp m rd sd L b→H2 b=some o:=fun {H2} k b o hb nf =>
  k b o (k1 b o hb fun z=>nf (.inr (.inr (.inr ⟨e,he,.inl z⟩)))) (fun z=>nf (.inl z)) (fun z=>nf (.inr (.inr (.inl z))))
 have hpos:e.n∈Zs L:=W.1
 have h60:(Zs L).length≤60:=by unfold Zs;rw[Qa];exact M.few
 have hpw:(Zs L).length≤2 ^ 8:=QG h60 (by decide)
 obtain⟨cok,ctop,clen⟩:=ZeP 8 (Zs L) e.n hpos hpw
 have hgo:hdM (bump L e.n) e.n=(e.ss[e.g+1]?).map cds:=Zhd M.nd he
 have hdd:∀ (c:Com),(c=none∧e.ss[e.g+1]? = none)∨(∃y,e.ss[e.g+1]? = some y∧c=some (e.n,((lcp (cds y) (cds x):Nat):Int)))→ZgL (hdM (bump L e.n)) (cds x) [e.n] c:=fun c hc=>by
  have hw:=Win.sing (hd:=hdM (bump L e.n)) (n:=e.n)
  rcases hc with⟨rfl,hn⟩|⟨y,hy,rfl⟩
  ·rw[hgo,hn]at hw
   exact⟨hw,fun p hp=>by cases hp⟩
  ·rw[hgo,hy]at hw
   exact⟨hw,fun p hp=>by cases hp;exact⟨cds y,by rw[hgo,hy];rfl,rfl⟩⟩
 refine⟨_,rfl,e.p,dp,_,rfl,hp1,Zbl ..,e.p,e.k,e.f,e.ss,e.g+1,rfl,R1.at',rfl,_,rfl,?_⟩
 rw[Zlu]
 refine ZnG (fun v H2=>Zu H1 H2∧∃c,CV H2 v c∧ZgL (hdM (bump L e.n)) (cds x) [e.n] c) (fun d Q' hq=>?_) (fun d Q' hq=>?_) (fun v H2 ⟨s2,c,hcv,hok⟩=>?_)
 ·have hn:e.ss[e.g+1]? = none:=by
   have:=of_decide_eq_true d
   cases hy:e.ss[e.g+1]? with
   | none=>rfl
   | some y=>rw[hy]at this;cases this
  exact hq _ _ ⟨Zu.refl _,none,.inl ⟨rfl,rfl⟩,hdd none (.inl ⟨rfl,hn⟩)⟩
 ·obtain⟨y,hy⟩:∃y,e.ss[e.g+1]? = some y:=by
   cases hy:e.ss[e.g+1]? with
   | none=>rw[hy]at d;exact absurd rfl (of_decide_eq_false d)
   | some y=>exact⟨y,rfl⟩
  have hyl:e.g+1<e.ss.length:=(Qf.mp hy).1
  have hal:Zb6 e.ss (e.g+1)=((lcp (cds y) (cds x):Nat):Int):=by
   unfold Zb6
   rw[if_neg (by omega),Qaf,QB,QB,hx,hy,ZbK]
   rfl
  have hat:atI ((List.range e.ss.length).map fun j=>V.int (Zb6 e.ss j)) ((e.g+1:Nat):Int)=some (.int ((lcp (cds y) (cds x):Nat):Int)):=Zaz (by rw[Qs,List.getElem?_range hyl,← hal];rfl)
  refine⟨_,rfl,_,rfl,e.p,cRow,dp,_,_,rfl,hp1,T.cl_Row,T.na_Row_fars,Zjz ..,_,rfl,e.p,cRow,dp,_,_,rfl,hp1,T.cl_Row,T.na_Row_gone,ZbB ..,xw4 e.f _ _ _ ⟨rfl,rfl,SqL.of R1.at'.fs,hat,(by show 2≤sizeLine;decide),fun tc htc=>?_⟩⟩
  exact hq _ _ ⟨Zj htc _,some (e.n,((lcp (cds y) (cds x):Nat):Int)),.inr ⟨tc,_,rfl,rfl,Zd⟩,hdd _ (.inr ⟨y,hy,rfl⟩)⟩
 have M2:=M1.same s2
 obtain⟨dx2,hm2⟩:=M2.ob
 refine⟨_,rfl,xw5 m cMerge dx2 _ _ ⟨rfl,hm2,T.cl_Merge,T.na_Merge_rows,ZaT ..,rd,_,rfl,M2.rows,fun l hl=>?_⟩⟩
 rw[ZkW,Zba]
 have s3:=s2.trans (Zj hl (.lst ((Zs L).map V.int)))
 have hl3:(upd H2 l (.lst ((Zs L).map V.int))) l=some (.lst ((Zs L).map V.int)):=Zd
 have hcv3:CV (upd H2 l (.lst ((Zs L).map V.int))) v c:=hcv.keep fun t xs ht=>Zj hl _ _ _ ht
 generalize upd H2 l (.lst ((Zs L).map V.int))=H3 at s3 hl3 hcv3 ⊢
 refine⟨_,rfl,l,Zs L,e.n,rfl,hl3,hpos,h60,M.up,fun r ts H4 hr0 hr4 htl hts s4=>?_⟩
 have s14:=s3.trans s4
 have M4:=M1.same s14
 have hcv4:CV H4 v c:=hcv3.keep fun t xs ht=>s4 _ _ ht
 refine⟨r,rfl,⟨_,SqL.of hr4⟩,?_⟩
 obtain⟨dm4,hm4⟩:=M4.ob
 obtain⟨dm1,hm1⟩:=M1.ob
 have nrm:r≠m:=(Zb (s3 _ _ hm1) hr0).symm
 have nrs:r≠sd:=(Zb (s3 _ _ M1.stays) hr0).symm
 refine ZgT (K:=K) (a:=r) (xs:=ts.map V.ref) (fun i σ H5=>∃ (v':V) (c':Com) (s':StL) (k q':Int) (v4:Option V),σ=[some (.ref m),some (.int e.n),some (.ref e.p),some v',v4]∧i≤ts.length∧CV H5 v' c'∧ZgL (hdM (bump L e.n)) (cds x) (low e.n (ZO 8 (Zs L) e.n) i) c'∧ZQ cRow cMerge H5 m rd sd (bump L e.n) s' nb (li+k) (lo'+q') best∧ZX (hdM (bump L e.n)) s' (low e.n (ZO 8 (Zs L) e.n) i)∧(∀j,¬ Kys (low e.n (ZO 8 (Zs L) e.n) i) j→ZM s' j=ZM s j)∧Ag (hdM (bump L e.n)) (cds x) (Zda e.n ((ZO 8 (Zs L) e.n).take i)) k q'∧(∀b o,H4 b=some o→b≠m→b≠sd→H5 b=some o)) ?_ (fun i σ H5 _ hq=>by obtain⟨_,_,_,_,_,_,_,_,_,_,_,_,_,_,k5⟩:=hq;exact SqL.of (k5 _ _ hr4 nrm nrs)) ?_ ?_
 ·refine⟨v,c,s,0,0,_,rfl,Qr _,hcv4,hok,M4.cast (by omega) (by omega),fun X hX h2=>?_,fun _ _=>rfl,.nil,fun b o h _ _=>h⟩
  have:=Zd5 hX
  rcases this with rfl|⟨g,_⟩
  ·exact absurd h2 (by show ¬ 2≤1;decide)
  ·exact absurd g (by show ¬ 2≤1;decide)
 ·rintro i y σ H5 hy ⟨v',c',s',k,q',v4,rfl,hi,hcv5,hok5,M5,nok,hlk,ag,k5⟩
  rw[Qs]at hy
  cases hz:ts[i]? with
  | none=>rw[hz]at hy;cases hy
  | some t =>
  rw[hz]at hy
  cases hy
  have hil:i<ts.length:=(Qf.mp hz).1
  cases hX:(ZO 8 (Zs L) e.n)[i]? with
  | none=>rw[Qao]at hX;omega
  | some X =>
  obtain⟨x1,x2,x3,x4⟩:=cok i X hX
  have hup:=x1.rise M.up
  have e3:low e.n (ZO 8 (Zs L) e.n) (i+1)=X:=by show (ZO 8 (Zs L) e.n).getD i []=X;rw[QB,hX];rfl
  have ht5:H5 t=some (.tup [.int (ZE X).1,.int (ZE X).2]):=k5 _ _ (hts i t X hz hX) (fun z=>by have:=hts i t X hz hX;rw[z,hm4]at this;cases this) (fun z=>by have:=hts i t X hz hX;rw[z,M4.stays]at this;cases this)
  obtain⟨dm5,hm5⟩:=M5.ob
  rw[← x4]at hok5 nok hlk
  have was:=Zlm tk x1 x2 x3 ok
  have hkey:ZM s' (ZE X)=ZM s (ZE X):=hlk _ fun z=>(ZgJ hup x2 z).1 rfl
  refine⟨_,rfl,m,dm5,_,rfl,hm5,Zhj ..,_,rfl,_,rfl,m,rd,sd,bump L e.n,s',nb,_,_,best,t,v',c',cds x,X,e.n,rfl,M5,ht5,hcv5,hok5,?_,fun b hb y hy=>tk.ge (x1.mem hb) hy,hup,fun b hb=>by rw[Zba];exact x1.mem hb,x2,x3,fun v6 c6 s6 k6 q6 H6 hcv6 hok6 hnd6 hoth6 hag6 M6 k6'=>?_⟩
  ·rw[hkey]
   rcases was with w|⟨t',b,y,w1,w2,_,w4⟩
   ·exact .inl w
   ·exact .inr ⟨t',b,y,w1,w2,w4⟩
  ·refine⟨v6,c6,s6,k+k6,q'+q6,_,rfl,hil,hcv6,by rw[e3];exact hok6,M6.cast (by omega) (by omega),?_,fun j hj=>?_,?_,fun b o hb n1 n2=>k6' b o (k5 b o hb n1 n2) n1 n2⟩
   ·rw[e3]
    refine Zjv (n:=e.n) (nok.congr (fun _ _=>rfl) fun j hj=>hoth6 j (ZgJ hup x2 hj).1) ?_ hnd6
    have hno:=ZeY hup (ZcS x3)
    have so:Sub X (Zai X e.n):=by unfold Zai;split;exact Sub.top.up x2;exact Sub.top.lo x2
    refine(ok.sub (x1.trans so)).congr (fun b hb=>tk.oth b fun z=>hno (z ▸ hb)) fun j hj=>?_
    rw[hoth6 j (ZgS hup x2 hj).1,hlk j (ZgS hup x2 hj).2]
   ·rw[e3]at hj
    rw[hoth6 j (fun z=>hj ⟨X,.top,x2,z⟩),hlk j (fun hq=>by obtain⟨Y,y1,y2,y3⟩:=hq;exact hj ⟨Y,(Zg3 x2 e.n).trans y1,y2,y3⟩)]
   ·have:=hag6 _ _ _ ag
    unfold Zda at this ⊢
    rw[QK,hX,Qe]
    exact this
 ·rintro σ H5 ⟨v',c',s',k,q',v4,rfl,_,hcv5,hok5,M5,nok,hlk,ag,k5⟩
  rw[Qa,htl,ctop]at hok5 nok
  rw[Qa,htl,QD (Qd _)]at ag
  obtain⟨dm5,hm5⟩:=M5.ob
  have fin:∀w':Option Int,w'=c'.map (·.1)→Q .non (upd H5 m (.ins cMerge dm5 (mgF rd nb (li+k) (lo'+q') sd (ZaJ w')))):=fun w' ew=>by
   subst ew
   refine q s' _ k q' _ M5.obj hok5.1 nok ag fun b o hb nf=>?_
   rw[Zc (fun z=>nf (.inl z))]
   exact keep1 (fun b o hb n1 n2=>k5 b o (s14 b o hb) n1 n2) b o hb nf
  rcases hcv5 with⟨rfl,rfl⟩|⟨t,p,rfl,rfl,ht⟩
  ·refine⟨_,rfl,rfl,_,rfl,ZdT rfl ?_⟩
   refine⟨_,rfl,m,cMerge,dm5,_,rfl,hm5,T.cl_Merge,T.na_Merge_best,ZaH ..,?_⟩
   rw[Za6]
   exact fin none rfl
  ·refine⟨_,rfl,rfl,_,rfl,Zcu (fun z=>nomatch z) ?_⟩
   refine⟨_,rfl,xw4 t _ _ _ ⟨rfl,rfl,SqT.of ht,(show atI [V.int p.1,V.int p.2] 0=some (.int p.1) from Zaz (j:=0) rfl),_,rfl,m,cMerge,dm5,_,rfl,hm5,T.cl_Merge,T.na_Merge_best,ZaH ..,?_⟩⟩
   rw[Za6]
   exact fin (some p.1) rfl
def ZiZ(L:List Zv)(w:Option Int)(x:V)(L':List Zv)(k q:Int)(H':Hp):Prop :=
 (w=none∧x=.non∧L'=L∧k=0∧q=0)∨∃ (e:Zv) (t:Addr) (z:Str),e∈L∧w=some e.n∧x=.ref t∧e.ss[e.g]? = some z∧H' t=some (.tup [.int e.n,.int (e.g:Int),.str z])∧L'=bump L e.n∧Ag (hdM L') (cds z) (Zda e.n (ZO 8 (Zs L) e.n)) k q
theorem ZhU(rd:Addr)(nb li lo:Int)(sd:Addr)(best:V):(mgF rd nb li lo sd best).lookup ("send_out" : Str)=none:=Za7 _ _ _ _ _ _ (by ac_rfl) (by ac_rfl) (by ac_rfl) (by ac_rfl) (by ac_rfl) (by ac_rfl)
theorem ZeG(rd:Addr)(nb li lo:Int)(sd:Addr)(best:V):(mgF rd nb li lo sd best).lookup ("take" : Str)=none:=Za7 _ _ _ _ _ _ (by ac_rfl) (by ac_rfl) (by ac_rfl) (by ac_rfl) (by ac_rfl) (by ac_rfl)
def Zh8(cR cM:Addr):Sp:=fun vs H Q _=>∃ (m rd sd:Addr) (L:List Zv) (s:StL) (nb li lo:Int) (w:Option Int),vs=[.ref m]∧ZQ cR cM H m rd sd L s nb li lo (ZaJ w)∧Win (hdM L) (Zs L) w∧ZX (hdM L) s (Zs L) ∧
 ∀ (x:V) (L':List Zv) (s':StL) (w':Option Int) (k q:Int) (H':Hp),ZiZ L w x L' k q H'→ZQ cR cM H' m rd sd L' s' nb (li+k) (lo+q) (ZaJ w')→Win (hdM L') (Zs L') w'→ZX (hdM L') s' (Zs L')→(∀b o,H b=some o→¬ Fp m rd sd L b→H' b=some o)→Q x H'
theorem ZmB(T:Zak K mg cRow cMerge)(f_Merge_coming:Mf P w K mg base 3 cMerge "coming" ["self"] (ZeO cRow cMerge))(f_Merge_send_out:Mf P w K mg base 5 cMerge "send_out" ["self", "number"] (Zlp cRow cMerge)):Mf P w K mg base 6 cMerge "take" ["self"] (Zh8 cRow cMerge):=by
 refine T.t_Merge_take.mf Zdi (fun vs H Q E h=>?_) (fun cdv f A outer s H vs Q E hr h=>?_)
 ·obtain⟨m,rd,sd,L,s,nb,li,lo,w,rfl,_⟩:=h
  rfl
 obtain⟨m,rd,sd,L,s,nb,li,lo',w,rfl,M,W,ok,q⟩:=h
 refine⟨_,#[Zg,#[Zy,1,Zdi.nd,(Or.inl rfl),#[ZaC,f_Merge_coming,T.cl_Merge,hr,‹0›]],#[Zg,#[Zaw,#[Zt,Zew,‹1›,#[Zaj],(Zw _)],#[Zi,#[ZaG,#[Zcy,f_Merge_send_out,T.cl_Merge,hr,‹0›,#[Za,#[ZH,‹0›],#[Zf]]]]],(@ZS _)],#[Zi,#[Zr,‹1›]]]],?_⟩
 obtain⟨dx,hm⟩:=M.ob
 refine⟨_,rfl,m,dx,_,rfl,hm,ZdI ..,xw9 m rd sd L s nb li lo' w ⟨rfl,M,W,fun x H1 hc s1=>?_⟩⟩
 have M1:=M.same s1
 rcases hc with⟨rfl,hw⟩|⟨t,e',z,rfl,he',hz,ht,hw⟩
 ·have hw':Win (hdM L) (Zs L) none:=by rw[Zcb]at hw;exact hw
  have ew:=W.one hw'
  subst ew
  exact⟨_,rfl,rfl,_,rfl,ZfR rfl ⟨_,rfl,q .non L s none 0 0 H1 (.inl ⟨rfl,rfl,rfl,rfl,rfl⟩) (M1.cast (by omega) (by omega)) W ok (fun b o hb _=>s1 b o hb)⟩⟩
 ·obtain⟨e,he,rfl⟩:=QE.mp he'
  have hw':Win (hdM L) (Zs L) (some e.n):=by rw[Zcb]at hw;exact hw
  have ew:=W.one hw'
  subst ew
  obtain⟨dx1,hm1⟩:=M1.ob
  refine⟨_,rfl,rfl,_,rfl,ZmN (fun z=>nomatch z) ?_⟩
  refine⟨_,rfl,m,dx1,_,rfl,hm1,ZhU ..,_,rfl,xw5 m cMerge dx1 _ _ ⟨rfl,hm1,T.cl_Merge,T.na_Merge_best,Zb3 ..,ZpG m rd sd L s nb li lo' _ e z ⟨rfl,M1,he,hz,W,ok,fun s' w' k q' H2 M2 W2 ok2 ag k2=>?_⟩⟩⟩
  have ht2:H2 t=some (.tup [.int e.n,.int (e.g:Int),.str z]):=k2 _ _ ht fun hf=>by
   have ht':=ht
   rcases hf with h|h|h|⟨y,hy,h⟩
   ·rw[h,hm1]at ht';cases ht'
   ·rw[h,M1.rows]at ht';cases ht'
   ·rw[h,M1.stays]at ht';cases ht'
   ·have R:=(M1.each y hy).at'
    obtain⟨dy,hdy⟩:=R.ob
    rcases h with h|h|h
    ·rw[h,hdy]at ht';cases ht'
    ·rw[h,R.ks]at ht';cases ht'
    ·rw[h,R.fs]at ht';cases ht'
  exact⟨_,rfl,q (.ref t) (bump L e.n) s' w' k q' H2 (.inr ⟨e,t,z,he,rfl,rfl,hz,ht2,rfl,ag⟩) M2 (by rw[Zba];exact W2) (by rw[Zba];exact ok2) (fun b o hb nf=>k2 b o (s1 b o hb) nf)⟩
abbrev ZJ:=Int×List Str×Nat
def pur(Lo:List ZaL):List ZJ:=Lo.map fun e=>(e.1,e.2.2)
def Z3(L:List Zv):List ZJ:=L.map fun e=>(e.n,(e.ss,e.g))
def hdP(P:List ZJ):Hd:=hdL (P.map fun x=>(x.1,0,x.2))
def Zas(P:List ZJ):List Int:=P.map (·.1)
def Zcx(n:Int)(x:ZJ):ZJ:=if x.1=n then (x.1,x.2.1,x.2.2+1) else x
def ZbG(P:List ZJ)(n:Int):List ZJ:=P.map (Zcx n)
theorem Zbf(L:List Zv):hdM L=hdP (Z3 L):=Zi1 _ _ (by unfold Z3;rw[QF,QF,QF];rfl)
theorem ZU(L:List Zv):Zs L=Zas (Z3 L):=by unfold Zas Z3 Zs;rw[QF];rfl
theorem Zf1(L:List Zv)(n:Int):Z3 (bump L n)=ZbG (Z3 L) n:=by
 unfold Z3 bump ZbG
 rw[QF,QF]
 refine QR fun e _=>?_
 simp only[Function.comp]
 unfold Zcx
 by_cases h:e.n=n
 ·rw[ZdJ h,if_pos h]
 ·rw[ZeQ h,if_neg h]
def ZoH(n:Int)(e:ZaL):ZaL:=if e.1=n then (e.1,e.2.1,e.2.2.1,e.2.2.2+1) else e
def Zo0(Lo:List ZaL)(n:Int):List ZaL:=Lo.map (ZoH n)
theorem ZfB(P:List ZJ)(n:Int):Zas (ZbG P n)=Zas P:=by
 unfold Zas ZbG
 rw[QF]
 refine QR fun x _=>?_
 simp only[Function.comp]
 unfold Zcx
 split<;>rfl
theorem Zfb{P:List ZJ}(nd:(Zas P).Nodup){x:ZJ}(h:x∈P):hdP P x.1=(x.2.1[x.2.2]?).map cds :=
 Zh1 (L:=P.map fun x:ZJ=>((x.1,0,x.2):ZaL)) (e:=(x.1,0,x.2)) (by rw[QF];exact nd) (Qj (f:=fun x:ZJ=>((x.1,0,x.2):ZaL)) h)
def Zeo(P:List ZJ)(x:ZJ)(z:Str)(k q:Int):Prop:=x∈P∧x.2.1[x.2.2]? = some z∧Win (hdP P) (Zas P) (some x.1)∧Ag (hdP (ZbG P x.1)) (cds z) (Zda x.1 (ZO 8 (Zas P) x.1)) k q
abbrev ZaE:=Int×Nat×Str
inductive Z6 (P:List ZJ):List ZaE→List ZJ→Int→Int→Prop
 | nil:Z6 P [] P 0 0
 | snoc {ts:List ZaE} {P1:List ZJ} {x:ZJ} {z:Str} {k q k1 q1:Int}:Z6 P ts P1 k q→Zeo P1 x z k1 q1→Z6 P (ts++[(x.1,x.2.2,z)]) (ZbG P1 x.1) (k+k1) (q+q1)
inductive ZcB:List ZJ→Int→Int→Prop
 | stop {P:List ZJ}:Win (hdP P) (Zas P) none→ZcB P 0 0
 | go {P:List ZJ} {x:ZJ} {z:Str} {k q k1 q1:Int}:Zeo P x z k1 q1→ZcB (ZbG P x.1) k q→ZcB P (k1+k) (q1+q)
theorem Zeo.one{P:List ZJ}(nd:(Zas P).Nodup){x y:ZJ}{z u:Str}{k q k' q':Int}(h:Zeo P x z k q)(g:Zeo P y u k' q'):x=y∧z=u∧k=k'∧q=q':=by
 obtain⟨h1,h2,h3,h4⟩:=h
 obtain⟨g1,g2,g3,g4⟩:=g
 have e1:=Qh (h3.one g3)
 have e2:=ZdQ nd h1 g1 e1
 subst e2
 have e3:=Qh (h2.symm.trans g2)
 subst e3
 exact⟨rfl,rfl,h4.one g4⟩
theorem ZcB.one{P:List ZJ}{k q:Int}(h:ZcB P k q):(Zas P).Nodup→∀ {k' q':Int},ZcB P k' q'→k=k'∧q=q':=by
 induction h with
 | stop w =>
  intro nd k' q' g
  cases g with
  | stop _=>exact⟨rfl,rfl⟩
  | go s _=>exact nomatch w.one s.2.2.1
 | go s _ ih =>
  intro nd k' q' g
  cases g with
  | stop w=>exact nomatch w.one s.2.2.1
  | go s' g' =>
   obtain⟨e1,_,e2,e3⟩:=s.one nd s'
   subst e1
   obtain⟨e4,e5⟩:=ih (by rw[ZfB];exact nd) g'
   exact⟨by rw[e2,e4],by rw[e3,e5]⟩
theorem Z6.ends{P P':List ZJ}{ts:List ZaE}{k q:Int}(h:Z6 P ts P' k q):∀ {k' q':Int},ZcB P' k' q'→ZcB P (k+k') (q+q'):=by
 induction h with
 | nil=>intro k' q' g;rw[Int.zero_add,Int.zero_add];exact g
 | snoc _ s ih =>
  intro k' q' g
  have:=ih (.go s g)
  rwa [← Int.add_assoc,← Int.add_assoc]at this
theorem Z6.num{P P':List ZJ}{ts:List ZaE}{k q:Int}(h:Z6 P ts P' k q):Zas P'=Zas P:=by
 induction h with
 | nil=>rfl
 | snoc _ _ ih=>rw[ZfB,ih]
def Zax(P:List ZJ):Nat:=(P.map fun x=>x.2.1.length-x.2.2).sum
theorem Zec:∀ (P:List ZJ),(Zas P).Nodup→∀ {x:ZJ},x∈P→x.2.2<x.2.1.length→Zax (ZbG P x.1)+1=Zax P
 | [],_,_,h,_=>by cases h
 | y::P,nd,x,h,hlt=>by
  unfold Zas at nd
  rw[Qg,QN]at nd
  unfold Zax ZbG
  rw[Qg,Qg,Qg,QZ,QZ]
  rcases QA.mp h with rfl|h
  ·have e:P.map (Zcx x.1)=P:=by
    conv=>rhs;rw[← List.map_id P]
    refine QR fun u hu=>?_
    unfold Zcx
    rw[if_neg (fun z:u.1=x.1=>nd.1 (z ▸ Qj (f:=fun x:ZJ=>x.1) hu))]
    rfl
   rw[e]
   unfold Zcx
   rw[if_pos rfl]
   show x.2.1.length-(x.2.2+1)+_+1=_
   omega
  ·have ih:=Zec P nd.2 h hlt
   unfold Zax ZbG at ih
   have e:Zcx x.1 y=y:=if_neg (fun z:y.1=x.1=>nd.1 (z ▸ Qj (f:=fun x:ZJ=>x.1) h))
   rw[e]
   omega
theorem ZjS{P:List ZJ}(nd:(Zas P).Nodup)(h:Zax P=0)(ok:∀x∈P,x.2.2≤x.2.1.length):Win (hdP P) (Zas P) none:=fun n hn=>by
 obtain⟨x,hx,rfl⟩:=QE.mp hn
 rw[Zfb nd hx]
 have:x.2.1.length-x.2.2=0:=by
  unfold Zax at h
  have h2:∀l:List Nat,l.sum=0→∀a∈l,a=0:=fun l hl a ha=>by
   induction l with
   | nil=>cases ha
   | cons b r ih =>
    rw[QZ]at hl
    rcases QA.mp ha with rfl|ha
    ·omega
    ·exact ih (by omega) ha
  exact h2 _ h _ (Qj (f:=fun x:ZJ=>x.2.1.length-x.2.2) hx)
 rw[QJ (by omega)];rfl
theorem Z6.left{P P':List ZJ}{ts:List ZaE}{k q:Int}(h:Z6 P ts P' k q)(nd:(Zas P).Nodup):Zax P'+ts.length=Zax P:=by
 induction h with
 | nil=>rfl
 | snoc h s ih =>
  have:=Zec _ (by rw[h.num];exact nd) s.1 (Qf.mp s.2.1).1
  rw[Qp,Qz]
  omega
theorem ZfS{L L':List Zv}{w:Option Int}{x:V}{k q:Int}{H:Hp}(W:Win (hdM L) (Zs L) w)(h:ZiZ L w x L' k q H):(Win (hdP (Z3 L)) (Zas (Z3 L)) none∧x=.non∧L'=L∧k=0∧q=0)∨∃ (y:ZJ) (z:Str) (t:Addr),Zeo (Z3 L) y z k q∧Z3 L'=ZbG (Z3 L) y.1∧x=.ref t∧H t=some (.tup [.int y.1,.int (y.2.2:Int),.str z]):=by
 rw[Zbf,ZU]at W
 rcases h with⟨rfl,h1,h2,h3,h4⟩|⟨e,t,z,he,rfl,rfl,hz,ht,rfl,ag⟩
 ·exact .inl ⟨W,h1,h2,h3,h4⟩
 ·refine .inr ⟨(e.n,(e.ss,e.g)),z,t,⟨Qj (f:=fun e:Zv=>(e.n,(e.ss,e.g))) he,hz,W,?_⟩,Zf1 L e.n,rfl,ht⟩
  rw[Zbf,Zf1,ZU]at ag
  exact ag
def ZgV(K:PySem.W.Frag)(cR cM:Addr):Sp:=fun vs H Q _=>∃ (m rd sd:Addr) (L:List Zv) (s:StL) (nb li lo:Int) (w:Option Int) (many:Int),vs=[.ref m,.int many]∧ZQ cR cM H m rd sd L s nb li lo (ZaJ w)∧Win (hdM L) (Zs L) w∧ZX (hdM L) s (Zs L)∧Zax (Z3 L)≤100000 ∧
 ∀ (r:Addr) (us:List (Addr×ZaE)) (L':List Zv) (s':StL) (w':Option Int) (k q:Int) (H':Hp),H r=none→H' r=some (.lst (us.map fun u=>V.ref u.1))→(∀u∈us,H' u.1=some (.tup [.int u.2.1,.int (u.2.2.1:Int),.str u.2.2.2]))→Z6 (Z3 L) (us.map (·.2)) (Z3 L') k q→((us.length:Int)<many→w'=none)→(us≠[]→(us.length:Int)≤many)→ZQ cR cM H' m rd sd L' s' nb (li+k) (lo+q) (ZaJ w')→Win (hdM L') (Zs L') w'→ZX (hdM L') s' (Zs L')→(∀b,Fp m rd sd L' b↔Fp m rd sd L b)→(∀b o,H b=some o→¬ Fp m rd sd L b→H' b=some o)→Q (.ref r) H'
theorem ZiZ.fp{L L':List Zv}{w:Option Int}{x:V}{k q:Int}{H:Hp}(h:ZiZ L w x L' k q H){m rd sd b:Addr}:Fp m rd sd L' b↔Fp m rd sd L b:=by
 rcases h with⟨_,_,rfl,_⟩|⟨e,t,z,_,_,_,_,_,rfl,_⟩
 ·exact Iff.rfl
 ·exact⟨ZmK,Fp_bump'⟩
theorem ZQ.fp_live{cR cM:Addr}{H:Hp}{m rd sd:Addr}{L:List Zv}{s:StL}{nb li lo:Int}{best:V}(M:ZQ cR cM H m rd sd L s nb li lo best){b:Addr}(h:Fp m rd sd L b):∃o,H b=some o∧∀xs,o≠.tup xs:=by
 rcases h with rfl|rfl|rfl|⟨e,he,h⟩
 ·obtain⟨dx,hd⟩:=M.ob;exact⟨_,hd,fun xs z=>by cases z⟩
 ·exact⟨_,M.rows,fun xs z=>by cases z⟩
 ·exact⟨_,M.stays,fun xs z=>by cases z⟩
 ·have R:=(M.each e he).at'
  obtain⟨dx,hd⟩:=R.ob
  rcases h with rfl|rfl|rfl
  ·exact⟨_,hd,fun xs z=>by cases z⟩
  ·exact⟨_,R.ks,fun xs z=>by cases z⟩
  ·exact⟨_,R.fs,fun xs z=>by cases z⟩
theorem ZQ.fp_fresh{cR cM:Addr}{H:Hp}{m rd sd:Addr}{L:List Zv}{s:StL}{nb li lo:Int}{best:V}(M:ZQ cR cM H m rd sd L s nb li lo best){b:Addr}(h:H b=none):¬ Fp m rd sd L b:=fun z=>by
 obtain⟨o,ho,_⟩:=M.fp_live z
 rw[h]at ho;cases ho
theorem ZQ.fp_tup{cR cM:Addr}{H:Hp}{m rd sd:Addr}{L:List Zv}{s:StL}{nb li lo:Int}{best:V}(M:ZQ cR cM H m rd sd L s nb li lo best){b:Addr}{xs:List V}(h:H b=some (.tup xs)):¬ Fp m rd sd L b:=fun z=>by
 obtain⟨o,ho,hn⟩:=M.fp_live z
 rw[h]at ho;cases ho;exact hn xs rfl
theorem ZnB(T:Zak K mg cRow cMerge)(f_Merge_take:Mf P w K mg base 6 cMerge "take" ["self"] (Zh8 cRow cMerge)):Mf P w K mg base 7 cMerge "take_few" ["self", "many"] (ZgV K cRow cMerge):=by
 refine T.t_Merge_take_few.mf ZbR (fun vs H Q E h=>?_) (fun cdv f A outer s H vs Q E hr h=>?_)
 ·obtain⟨m,rd,sd,L,s,nb,li,lo,w,many,rfl,_⟩:=h
  rfl
 obtain⟨m,rd,sd,L,s,nb,li,lo',w,many,rfl,M,W,ok,hleft,q⟩:=h
 refine⟨_,#[Zg,#[Zy,2,ZbR.nd,(Or.inl rfl),#[ZaX,#[Zf]]],#[Zg,(@Ze5 _ _ _ _ _ _ PassesOwn.never (@PW.pt _ _ _ #[ZdA,#[Zt,Ze0,#[Zo,(Zdq K),(by rfl),T.b.n_len,QC,#[Za,‹2›,#[Zf]]],‹1›,(Zw _)],(@Zc4 _ _ _ _ #[Zt,Zew,#[ZH,‹0›],#[Zaj],(Zw _)])]) #[Zi,#[ZaG,#[Zdm,QH,QO,QP,ZaZ,‹2›,#[Za,#[ZaC,f_Merge_take,T.cl_Merge,hr,‹0›],#[Zf]]]]]),#[Zi,#[Zr,‹2›]]]],?_⟩
 have nd:(Zas (Z3 L)).Nodup:=by rw[← ZU];exact M.nd
 refine⟨(by show 0≤sizeLine;decide),fun r hr0=>?_⟩
 have nfr:=M.fp_fresh hr0
 refine⟨fun mm σ H2=>∃ (us:List (Addr×ZaE)) (L':List Zv) (s':StL) (w':Option Int) (k q':Int),σ=[some (.ref m),some (.int many),some (.ref r)]∧H2 r=some (.lst (us.map fun u=>V.ref u.1))∧(∀u∈us,u.1≠r∧H2 u.1=some (.tup [.int u.2.1,.int (u.2.2.1:Int),.str u.2.2.2]))∧Z6 (Z3 L) (us.map (·.2)) (Z3 L') k q'∧(us≠[]→(us.length:Int)≤many)∧ZQ cRow cMerge H2 m rd sd L' s' nb (li+k) (lo'+q') (ZaJ w')∧Win (hdM L') (Zs L') w'∧ZX (hdM L') s' (Zs L')∧(∀b,Fp m rd sd L' b↔Fp m rd sd L b)∧(∀b o,H b=some o→¬ Fp m rd sd L b→H2 b=some o)∧mm=Zax (Z3 L'),⟨_,[],L,s,w,0,0,rfl,Zd,(fun u h=>by cases h),.nil,(fun h=>absurd rfl h),(M.same (Zj hr0 _)).cast (by omega) (by omega),W,ok,fun _=>Iff.rfl,fun b o hb _=>Zj hr0 _ _ _ hb,rfl⟩,?_⟩
 rintro mm σ H2 ⟨us,L1,s1,w1,k,q',rfl,hr2,hus,htk,hmany,M2,W2,ok2,hfp,k2,rfl⟩
 have hul:(((us.map fun u=>V.ref u.1).length:Nat):Int)=(us.length:Int):=by rw[Qa]
 have hlf:=htk.left nd
 rw[Qa]at hlf
 obtain⟨dx2,hm2⟩:=M2.ob
 have done:((us.length:Int)<many→w1=none)→Q (.ref r) H2:=fun hd=>q r us L1 s1 w1 k q' H2 hr0 hr2 (fun u hu=>(hus u hu).2) htk hd hmany M2 W2 ok2 hfp k2
 refine⟨_,rfl,r,_,rfl,.inl (SqL.of hr2),_,rfl,_,_,rfl,rfl,_,rfl,Zbt (fun d1=>?_) (fun d1=>?_)⟩
 ·have d1':(us.length:Int)<many:=by have:=of_decide_eq_true d1;omega
  refine⟨_,rfl,xw5 m cMerge dx2 _ _ ⟨rfl,hm2,T.cl_Merge,T.na_Merge_best,Zb3 ..,rfl,_,rfl,?_⟩⟩
  cases w1 with
  | none=>exact ZfR rfl ⟨_,rfl,done fun _=>rfl⟩
  | some a =>
  refine ZmN (fun z=>nomatch z) ?_
  refine⟨_,fun σ' H' h=>h,?_⟩
  refine⟨_,rfl,.inl ⟨rfl,_,SqL.of hr2⟩,_,rfl,m,dx2,_,rfl,hm2,ZeG ..,m,rd,sd,L1,s1,nb,_,_,some a,rfl,M2,W2,ok2,fun x L3 s3 w3 k3 q3 H3 hR M3 W3 ok3 kp3=>?_⟩
  have hr3:H3 r=some (.lst (us.map fun u=>V.ref u.1)):=kp3 _ _ hr2 (fun z=>nfr ((hfp r).mp z))
  rcases ZfS W2 hR with⟨w0,_⟩|⟨y,z,t,stp,eL,rfl,ht⟩
  ·rw[Zbf,ZU]at W2
   exact nomatch w0.one W2
  have hbl:=Zec _ (by rw[htk.num];exact nd) stp.1 (Qf.mp stp.2.1).1
  have htr:t≠r:=fun e=>by rw[e,hr3]at ht;cases ht
  refine⟨r,_,_,rfl,rfl,hr3,(by rw[Qa,sizeLine_eq];omega),Zax (Z3 L3),by rw[eL];omega,us++[(t,(y.1,y.2.2,z))],L3,s3,w3,k+k3,q'+q3,rfl,by rw[Zd,Qe];rfl,fun u hu=>?_,?_,fun _=>by rw[Qp,Qz];omega,?_,W3,ok3,fun b=>(hR.fp).trans (hfp b),fun b o hb nf=>?_,rfl⟩
  ·rcases Qq.mp hu with hu|hu
   ·obtain⟨g2,g3⟩:=hus u hu
    exact⟨g2,by rw[Zc g2];exact kp3 _ _ g3 (M2.fp_tup g3)⟩
   ·rw[Ql.mp hu]
    exact⟨htr,by rw[Zc htr];exact ht⟩
  ·rw[Qe,eL]
   exact .snoc htk stp
  ·refine ZQ.cast (M3.keep fun b o hb hor=>?_) (by omega) (by omega)
   rw[Zc (fun e=>?_)]
   ·exact hb
   ·subst e
    rcases hor with hf|⟨xs,rfl⟩
    ·exact nfr ((hfp b).mp (hR.fp.mp hf))
    ·rw[hr3]at hb;cases hb
  ·rw[Zc (Zb hb hr0)]
   exact kp3 b o (k2 b o hb nf) (fun z=>nf ((hfp b).mp z))
 ·refine Zb5 ⟨_,rfl,done fun h=>?_⟩
  have:¬ ((((us.map fun u=>V.ref u.1).length:Nat):Int)<many):=fun z=>d1 (decide_eq_true z)
  omega
def spLWay:Sp:=fun vs H Q _=>∃ (a:Addr) (N:List Int) (n:Int),vs=[.ref a,.int n]∧H a=some (.lst (N.map V.int))∧n∈N∧N.length≤60∧Z5 N ∧
 ∀ (r:Addr) (ts:List (Addr×Addr×Addr)) (H':Hp),H r=none→H' r=some (.lst (ts.map fun t=>V.ref t.1))→ts.length=(ZO 8 N n).length→(∀ (i:Nat) (t:Addr×Addr×Addr) (X:List Int),ts[i]? = some t→(ZO 8 N n)[i]? = some X→H' t.1=some (.tup [.ref t.2.1,.ref t.2.2])∧H' t.2.1=some (.lst ((Z8 X n).map V.int))∧H' t.2.2=some (.lst ((Zai X n).map V.int)))→Zu H H'→Q (.ref r) H'
def Zno(Lo:List ZaL)(x:V)(Lo':List ZaL)(k q:Int)(H':Hp):Prop :=
 (x=.non∧Win (hdL Lo) (Lo.map (·.1)) none∧Lo'=Lo∧k=0∧q=0)∨∃ (e:ZaL) (t:Addr) (z:Str),e∈Lo∧Win (hdL Lo) (Lo.map (·.1)) (some e.1)∧x=.ref t∧e.2.2.1[e.2.2.2]? = some z∧H' t=some (.tup [.int e.1,.int (e.2.2.2:Int),.str z])∧Lo'=Zo0 Lo e.1∧Ag (hdL Lo') (cds z) (Zda e.1 (ZO 8 (Lo.map (·.1)) e.1)) k q
def spLTaken:Sp:=fun vs H Q _=>∃ (o ra ga:Addr) (Lo:List ZaL) (nb li lo:Int),vs=[.ref o]∧Own H o ra ga Lo nb li lo∧(Lo.map (·.1)).Pairwise (·<·) ∧
 ∀ (x:V) (Lo':List ZaL) (k q:Int) (H':Hp),Zno Lo x Lo' k q H'→Own H' o ra ga Lo' nb (li+k) (lo+q)→(∀b u,H b=some u→b≠o→b≠ga→H' b=some u)→Q x H'
structure MS where
 m:Addr
 rd:Addr
 sd:Addr
 L:List Zv
 s:StL
 nb:Int
 li:Int
 lo:Int
 w:Option Int
structure OS where
 o:Addr
 ra:Addr
 ga:Addr
 Lo:List ZaL
 nb:Int
def Zpg(Y:OS)(b:Addr):Prop:=b=Y.o∨b=Y.ra∨b=Y.ga∨∃e∈Y.Lo,b=e.2.1
def MFp(X:MS)(b:Addr):Prop:=Fp X.m X.rd X.sd X.L b
structure MOk (cR cM:Addr) (H:Hp) (X:MS):Prop where
 M:ZQ cR cM H X.m X.rd X.sd X.L X.s X.nb X.li X.lo (ZaJ X.w)
 W:Win (hdM X.L) (Zs X.L) X.w
 ok:ZX (hdM X.L) X.s (Zs X.L)
structure Pair (cR cM:Addr) (H:Hp) (X:MS) (Y:OS):Prop where
 mg:MOk cR cM H X
 ow:Own H Y.o Y.ra Y.ga Y.Lo Y.nb X.li X.lo
 ag:Agr Y.Lo X.L
 sep:∀b,MFp X b→¬ Zpg Y b
theorem MOk.same{cR cM:Addr}{H H':Hp}{X:MS}(h:MOk cR cM H X)(s:Zu H H'):MOk cR cM H' X:=⟨h.M.same s,h.W,h.ok⟩
theorem ZjG{P:List ZJ}(nd:(Zas P).Nodup)(h:Win (hdP P) (Zas P) none)(ok:∀x∈P,x.2.2≤x.2.1.length):Zax P=0:=by
 unfold Zax
 have:∀l:List Nat,(∀a∈l,a=0)→l.sum=0:=fun l hl=>by
  induction l with
  | nil=>rfl
  | cons b r ih=>rw[QZ,hl b (by simp),ih fun a ha=>hl a (Qm _ ha)]
 refine this _ fun a ha=>?_
 obtain⟨x,hx,rfl⟩:=QE.mp ha
 have hh:=h x.1 (Qj (f:=fun x:ZJ=>x.1) hx)
 rw[Zfb nd hx]at hh
 cases hg:x.2.1[x.2.2]? with
 | none=>rw[Qao]at hg;show x.2.1.length-x.2.2=0;omega
 | some y=>rw[hg]at hh;cases hh
def ZcX(rs:List (Addr×List Str)):List ZJ:=(ZcZ 0 rs.length).zip (rs.map fun x=>(x.2,0))
theorem Ziv{α β γ:Type}(f:α→β)(g:α→γ):∀l:List α,l.map (fun x=>(f x,g x))=(l.map f).zip (l.map g)
 | []=>rfl
 | x::r=>by rw[Qg,Qg,Qg,List.zip_cons_cons,Ziv f g r]
theorem ZdP{L:List Zv}{rs:List (Addr×List Str)}(h:ZnU L rs):Z3 L=ZcX rs:=by
 unfold Z3 ZcX
 rw[Ziv (fun e:Zv=>e.n) (fun e=>(e.ss,e.g)) L,← h.1,← h.2];rfl
theorem ZcO(rs:List (Addr×List Str)):Zax (ZcX rs)=(rs.map fun x=>x.2.length).sum:=by
 unfold Zax ZcX
 have e:((ZcZ 0 rs.length).zip (rs.map fun x=>(x.2,0))).map (fun x:ZJ=>x.2.1.length-x.2.2)=((((ZcZ 0 rs.length).zip (rs.map fun x=>(x.2,0))).map (·.2))).map (fun y:List Str×Nat=>y.1.length-y.2):=by rw[QF];rfl
 rw[e,List.map_snd_zip (by rw[Qa,ZeE];exact Qd _),QF]
 rfl
def Zc9:Sp:=fun vs H Q _=>∃ (r:Addr) (rs:List (Addr×List Str)),vs=[.ref r]∧ZaQ H r rs∧∀H':Hp,Zu H H'→Q (.int (((rs.map fun x=>x.2.length).sum:Nat):Int)) H'
theorem Zhu:∀rs:List (Addr×List Str),(rs.map fun x=>(x.2.length:Int)).sum=(((rs.map fun x=>x.2.length).sum:Nat):Int)
 | []=>rfl
 | x::r=>by rw[Qg,Qg,QZ,QZ,Zhu r,Int.natCast_add]
theorem Zhm(T:Zak K mg cRow cMerge):Df P w K mg base 1 "how_many" ["rows"] Zc9:=by
 refine T.t_how_many.df Zhf (fun vs H Q E h=>?_) (fun cdv f A outer s H vs Q E hr h=>?_)
 ·obtain⟨r,rs,rfl,_⟩:=h
  rfl
 obtain⟨r,rs,rfl,hrs,q⟩:=h
 refine⟨_,#[Zi,#[Zr,#[Zo,(Zoq K),(by rfl),T.b.n_sum,boot_sum,#[Za,#[Zbe,Zmb,#[iL,K,‹0›],(fun _ _ _ _=>#[cg,1,Zmb]),(fun _ _ _ _=>(@Za5 _)),(fun _ _ _ _=>#[Zo,(Zdq K),(Zb1 Zmb rfl (by ac_rfl)),T.b.n_len,QC,#[Za,#[cw,1,Zmb],#[Zf]]])],#[Zf]]]]],?_⟩
 have hfew:=hrs.few
 refine⟨_,rfl,r,rfl,⟨_,SqL.of hrs.at'⟩,fun D hD=>?_⟩
 refine Zcc (K:=K) (a:=r) (xs:=rs.map fun x=>V.ref x.1) (fun i zs σ H2=>(∃v:Option V,σ=[some (.ref r),v])∧zs=((rs.take i).map fun x=>(x.2.length:Int)).map V.int∧i≤rs.length∧H2 D=some (.lst zs)∧Zu H H2) ?_ (fun _ _ _ _ h=>SqL.of (h.2.2.2.2 _ _ hrs.at')) ?_ ?_
 ·exact⟨⟨none,rfl⟩,rfl,Qr _,Zd,Zj hD _⟩
 ·rintro i y zs σ H2 hy ⟨⟨v,rfl⟩,rfl,hi,hD2,s2⟩
  rw[Qs]at hy
  cases hz:rs[i]? with
  | none=>rw[hz]at hy;cases hy
  | some x =>
  rw[hz]at hy
  cases hy
  have hil:i<rs.length:=(Qf.mp hz).1
  refine⟨_,rfl,x.1,_,rfl,.inl (SqL.of (s2 _ _ (hrs.lst x (Qy hz)).1)),hD2,(by rw[Qa,Qa,Qw];exact ZY (by omega)),⟨_,rfl⟩,?_,hil,Zd,fun b u hb=>?_⟩
  ·rw[QK,hz,Qe,Qe,Qa];rfl
  ·rw[Zc (Zb hb hD)];exact s2 b u hb
 rintro zs σ H2 ⟨⟨v,rfl⟩,rfl,_,hD2,s2⟩
 rw[Qa,QD (Qd _)]at hD2
 refine⟨D,_,rfl,SqL.of hD2,by rw[Qa];omega,fun n hn=>?_,?_⟩
 ·obtain⟨x,hx,rfl⟩:=QE.mp hn
  have:=(hrs.lst x hx).2.1
  omega
 ·rw[Zhu];exact q H2 s2
def Zlx:Sp:=fun vs H Q _=>∃ (r:Addr) (rs:List (Addr×List Str)),vs=[.ref r]∧ZaQ H r rs∧(∀x∈rs,sortedS x.2=true)∧∀ (t:Addr) (k0 q0 k1 q1:Int) (H':Hp),ZbF (hdP (ZcX rs)) 8 (Zas (ZcX rs)) k0 q0→ZcB (ZcX rs) k1 q1→H' t=some (.tup [.int (k0+k1),.int (q0+q1)])→Zu H H'→Q (.ref t) H'
theorem Zb2(rd:Addr)(nb li lo:Int)(sd:Addr)(best:V):(mgF rd nb li lo sd best).lookup ("take_few" : Str)=none:=Za7 _ _ _ _ _ _ (by ac_rfl) (by ac_rfl) (by ac_rfl) (by ac_rfl) (by ac_rfl) (by ac_rfl)
theorem ZhJ(rs:List (Addr×List Str))(h:∀x∈rs,x.2.length≤800):(rs.map fun x=>x.2.length).sum≤rs.length*800:=by
 induction rs with
 | nil=>exact Qd _
 | cons x r ih =>
  have:=ih fun y hy=>h y (Qm _ hy)
  have:=h x (by simp)
  rw[Qg,QZ,QI]
  omega
theorem ZjO(T:Zak K mg cRow cMerge)(f_Merge_init:Cf P w K mg base 14 cMerge "Merge" ["self", "rows"] (Zbn cRow cMerge))(f_Merge_take_few:Mf P w K mg base 7 cMerge "take_few" ["self", "many"] (ZgV K cRow cMerge))(f_how_many:Df P w K mg base 1 "how_many" ["rows"] Zc9)
  (f_Merge_likenings:Mf P w K mg base 1 cMerge "likenings" ["self"] (Zkg cRow cMerge)) (f_Merge_looks:Mf P w K mg base 1 cMerge "looks" ["self"] (Zky cRow cMerge)):Df P w K mg base 16 "counts" ["rows"] Zlx:=by
 refine T.t_counts.df ZfZ (fun vs H Q E h=>?_) (fun cdv f A outer s H vs Q E hr h=>?_)
 ·obtain⟨r,rs,rfl,_⟩:=h
  rfl
 obtain⟨r,rs,rfl,hrs,hsrt,q⟩:=h
 refine⟨_,#[Zg,#[Zy,1,ZfZ.nd,(Or.inl rfl),#[ZeK,f_Merge_init,hr,#[Za,‹0›,#[Zf]]]],#[Zg,#[ZaG,#[Zcy,f_Merge_take_few,T.cl_Merge,hr,‹1›,#[Za,#[ZC,f_how_many,hr,#[Za,‹0›,#[Zf]],(by rfl)],#[Zf]]]],#[Zi,#[Zr,#[ZaP,#[Za,#[ZaC,f_Merge_likenings,T.cl_Merge,hr,‹1›],#[Za,#[ZaC,f_Merge_looks,T.cl_Merge,hr,‹1›],#[Zf]]]]]]]],?_⟩
 refine⟨_,rfl,fun m dx hm hdx nmd=>?_⟩
 have s1:Zu H (upd (upd H dx (.own m)) m (.ins cMerge dx [])):=fun b o hb=>by rw[Zc (Zb hb hm),Zc (Zb hb hdx)];exact hb
 have hm1:(upd (upd H dx (.own m)) m (.ins cMerge dx [])) m=some (.ins cMerge dx []):=Zd
 generalize upd (upd H dx (.own m)) m (.ins cMerge dx [])=H1 at s1 hm1 ⊢
 refine(xw4 m dx r rs ⟨rfl,hm1,hrs.same s1,hsrt,fun rd sd L st w0 k0 q0 H2 M2 hnew W2 S2 P2 fp2 k2=>⟨rfl,?_⟩⟩)
 have s2:Zu H H2:=fun b o hb=>k2 b o (s1 b o hb) (Zb hb hm)
 have fpH:∀b,Fp m rd sd L b→H b=none:=fun b hb=>by
  rcases fp2 b hb with z|z
  ·rw[z];exact hm
  ·exact s1.free z
 have ok2:=Zb8 8 (hdM L) st (Zs L) M2.up (QG (show (Zs L).length≤60 by unfold Zs;rw[Qa];exact M2.few) (by decide)) (by decide) S2
 have eP:=ZdP hnew
 obtain⟨dx2,hm2⟩:=M2.ob
 have hsum:=ZhJ rs fun x hx=>(hrs.lst x hx).2.1
 have hfew:=hrs.few
 have hl:=ZcO rs
 refine⟨_,rfl,m,dx2,_,rfl,hm2,Zb2 ..,_,rfl,r,rs,rfl,hrs.same s2,fun H3 s3=>?_⟩
 have M3:=M2.same s3
 refine⟨m,rd,sd,L,st,_,k0,q0,w0,_,rfl,M3,W2,ok2,by rw[eP,hl];omega,fun rr us L' s' w' k1 q1 H4 hrr hrr4 hus htk hfin hmany M4 W4 ok4 fp4 k4=>?_⟩
 have s4:Zu H H4:=fun b o hb=>k4 b o (s3 b o (s2 b o hb)) fun z=>by rw[fpH b z]at hb;cases hb
 have nd:(Zas (Z3 L)).Nodup:=by rw[← ZU];exact M2.nd
 have hlf:=htk.left nd
 rw[Qa,eP,hl]at hlf
 have nd':(Zas (Z3 L')).Nodup:=by rw[htk.num];exact nd
 have wn:Win (hdP (Z3 L')) (Zas (Z3 L')) none:=by
  by_cases hlt:(us.length:Int)<(((rs.map fun x=>x.2.length).sum:Nat):Int)
  ·have:=hfin hlt
   subst this
   rw[Zbf,ZU]at W4
   exact W4
  ·refine ZjS nd' (by omega) fun x hx=>?_
   obtain⟨e,he,rfl⟩:=QE.mp hx
   exact(M4.each e he).le
 have hends:=htk.ends (.stop wn)
 rw[Q2,Q2,eP]at hends
 obtain⟨dx4,hm4⟩:=M4.ob
 refine⟨_,rfl,m,dx4,_,rfl,hm4,Zcz ..,m,rd,sd,L',s',xw4 _ _ _ _ ⟨rfl,M4,?_⟩⟩
 refine⟨_,rfl,m,dx4,_,rfl,hm4,Zep ..,m,rd,sd,L',s',xw4 _ _ _ _ ⟨rfl,M4,(by show 2≤sizeLine;decide),fun t ht=>?_⟩⟩
 exact q t k0 q0 k1 q1 _ (by rw[← eP,← Zbf,← ZU];exact P2) hends Zd (s4.trans (Zj ht _))
theorem Z6.one{P:List ZJ}(nd:(Zas P).Nodup){ts:List ZaE}{P1:List ZJ}{k q:Int}(h:Z6 P ts P1 k q):∀ {us:List ZaE} {P2:List ZJ} {k' q':Int},Z6 P us P2 k' q'→ts.length=us.length→ts=us∧P1=P2∧k=k'∧q=q':=by
 induction h with
 | nil =>
  intro us P2 k' q' g hl
  cases g with
  | nil=>exact⟨rfl,rfl,rfl,rfl⟩
  | snoc _ _=>rw[Qp,Qz]at hl;exact absurd hl (by simp)
 | snoc h s ih =>
  intro us P2 k' q' g hl
  cases g with
  | nil=>rw[Qp,Qz]at hl;exact absurd hl (by simp)
  | snoc g' s' =>
   rw[Qp,Qp,Qz,Qz]at hl
   obtain⟨e1,e2,e3,e4⟩:=ih g' (by omega)
   subst e1
   subst e2
   subst e3
   subst e4
   obtain⟨f1,f2,f3,f4⟩:=s.one (by rw[h.num];exact nd) s'
   subst f1
   subst f2
   subst f3
   subst f4
   exact⟨rfl,rfl,rfl,rfl⟩
theorem Zfe{L':List Zv}{P:List ZJ}{ts:List ZaE}{k q:Int}{w':Option Int}{many:Nat}(nd:(Zas P).Nodup)(h:Z6 P ts (Z3 L') k q)(h1:(ts.length:Int)<(many:Int)→w'=none)(h2:ts≠[]→(ts.length:Int)≤(many:Int))(W:Win (hdM L') (Zs L') w')(ok:∀x∈Z3 L',x.2.2≤x.2.1.length):ts.length=min many (Zax P):=by
 have hl:=h.left nd
 by_cases hlt:(ts.length:Int)<(many:Int)
 ·have e:=h1 hlt
  subst e
  rw[Zbf,ZU]at W
  have hz:=ZjG (by rw[h.num];exact nd) W ok
  omega
 ·by_cases hn:ts=[]
  ·subst hn
   simp only[List.length_nil]at hlt ⊢
   omega
  ·have:=h2 hn
   omega
theorem Zel:∀a b:List Nat,Spec.ltCps a b=true↔a<b
 | [],[]=>by simp[Spec.ltCps]
 | [],y::s=>by simp[Spec.ltCps]
 | x::r,[]=>by simp[Spec.ltCps]
 | x::r,y::s=>by
  have ih:=Zel r s
  rw[List.cons_lt_cons_iff]
  simp[Spec.ltCps,ih]
def LeS(a b:Str):Prop:=¬ b.cps.toList<a.cps.toList
theorem LeS.trans{a b c:Str}(h:LeS a b)(k:LeS b c):LeS a c:=List.not_lt.mpr (List.le_trans (List.not_lt.mp h) (List.not_lt.mp k))
theorem ZfT:∀ (r:List Str) (x:Str),risingS x r=true↔(x::r).Pairwise LeS
 | [],x=>by simp[risingS]
 | y::r,x=>by
  have ih:=ZfT r y
  rw[List.pairwise_cons]
  unfold risingS
  rw[Q5,Bool.not_eq_true']
  constructor
  ·rintro⟨h1,h2⟩
   have p:=ih.mp h2
   have hxy:LeS x y:=fun z=>by rw[(Zel _ _).mpr z]at h1;cases h1
   refine⟨fun b hb=>?_,p⟩
   rcases QA.mp hb with rfl|hb
   ·exact hxy
   ·exact hxy.trans ((List.pairwise_cons.mp p).1 b hb)
  ·rintro⟨h1,h2⟩
   exact⟨Qay.mpr fun z=>h1 y (by simp) ((Zel _ _).mp z),ih.mpr h2⟩
theorem ZdU(ss:List Str):sortedS ss=true↔ss.Pairwise LeS:=by
 cases ss with
 | nil=>simp[sortedS]
 | cons x r=>exact ZfT r x
theorem Zl2{c:Bool}(b2:Bool){e:(Bool→Hp→Prop)→Prop}{T:Bool→Hp→Prop}{H:Hp}(h1:c=true→∀T':Bool→Hp→Prop,(∀H',Zu H H'→T' b2 H')→e T')(q:∀H',Zu H H'→T (c&&b2) H'):if c=true then e T else T false H:=by
 cases c with
 | true=>rw[if_pos rfl];exact h1 rfl T q
 | false=>rw[if_neg Qi];exact q H (Zu.refl H)
theorem Zhr{H:Hp}{n:Nat}:∀ (us vs:List (Addr×ZaE)),us.map (·.2)=vs.map (·.2)→(∀u∈us,H u.1=some (.tup [.int u.2.1,.int (u.2.2.1:Int)]))→(∀u∈vs,H u.1=some (.tup [.int u.2.1,.int (u.2.2.1:Int)]))→F2 (IsD H (n+2)) (us.map fun u=>V.ref u.1) (vs.map fun u=>V.ref u.1)
 | [],[],_,_,_=>.nil
 | [],_::_,e,_,_=>by cases e
 | _::_,[],e,_,_=>by cases e
 | u::us,v::vs,e,h,g=>by
  rw[Qg,Qg]at e
  obtain⟨e1,e2⟩:=List.cons.inj e
  have hu:=h u (by simp)
  have hv:=g v (by simp)
  rw[← e1]at hv
  exact .cons (ZiP hu hv (by show 2≤1000;decide) (.cons (Zev _) (.cons (Zev _) .nil))) (Zhr us vs e2 (fun x hx=>h x (Qm _ hx)) (fun x hx=>g x (Qm _ hx)))
def Zj8:Sp:=fun vs H Q _=>∃ (r:Addr) (rs:List (Addr×List Str)),vs=[.ref r]∧ZaQ H r rs∧(∀x∈rs,sortedS x.2=true) ∧
 ∀ (t:Addr) (us:List (Addr×ZaE)) (P':List ZJ) (k q:Int) (H':Hp),Z6 (ZcX rs) (us.map (·.2)) P' k q→us.length=(rs.map fun x=>x.2.length).sum→H' t=some (.lst (us.map fun u=>V.ref u.1))→(∀u∈us,H' u.1=some (.tup [.int u.2.1,.int (u.2.2.1:Int)]))→H t=none→(∀u∈us,H u.1=none)→Zu H H'→Q (.ref t) H'
theorem ZjV(T:Zak K mg cRow cMerge)(f_Merge_init:Cf P w K mg base 14 cMerge "Merge" ["self", "rows"] (Zbn cRow cMerge))(f_Merge_take_few:Mf P w K mg base 7 cMerge "take_few" ["self", "many"] (ZgV K cRow cMerge))(f_how_many:Df P w K mg base 1 "how_many" ["rows"] Zc9):Df P w K mg base 16 "merged" ["rows"] Zj8:=by
 refine T.t_merged.df ZjK (fun vs H Q E h=>?_) (fun cdv f A outer s H vs Q E hr h=>?_)
 ·obtain⟨r,rs,rfl,_⟩:=h
  rfl
 obtain⟨r,rs,rfl,hrs,hsrt,q⟩:=h
 refine⟨_,#[Zi,#[Zr,#[Zbe,ZjN,#[iL,K,#[Zcy,f_Merge_take_few,T.cl_Merge,hr,#[ZeK,f_Merge_init,hr,#[Za,‹0›,#[Zf]]],#[Za,#[ZC,f_how_many,hr,#[Za,‹0›,#[Zf]],(by rfl)],#[Zf]]]],(fun _ _ _ _=>#[gT,K,3,#[Zz,#[cg,1,ZjN],#[Zz,#[cg,2,ZjN],#[Zz,#[cg,3,ZjN],(@ZaW _)]]]]),(fun _ _ _ _=>(@Za5 _)),(fun _ _ _ _=>#[ZaP,#[Za,#[cw,1,ZjN],#[Za,#[cw,2,ZjN],#[Zf]]]])]]],?_⟩
 refine⟨_,rfl,fun m dx hm hdx nmd=>?_⟩
 have s1:Zu H (upd (upd H dx (.own m)) m (.ins cMerge dx [])):=fun b o hb=>by rw[Zc (Zb hb hm),Zc (Zb hb hdx)];exact hb
 have hm1:(upd (upd H dx (.own m)) m (.ins cMerge dx [])) m=some (.ins cMerge dx []):=Zd
 generalize upd (upd H dx (.own m)) m (.ins cMerge dx [])=H1 at s1 hm1 ⊢
 refine(xw4 m dx r rs ⟨rfl,hm1,hrs.same s1,hsrt,fun rd sd L st w0 k0 q0 H2 M2 hnew W2 S2 P2 fp2 k2=>⟨rfl,?_⟩⟩)
 have s2:Zu H H2:=fun b o hb=>k2 b o (s1 b o hb) (Zb hb hm)
 have fpH:∀b,Fp m rd sd L b→H b=none:=fun b hb=>by
  rcases fp2 b hb with z|z
  ·rw[z];exact hm
  ·exact s1.free z
 have ok2:=Zb8 8 (hdM L) st (Zs L) M2.up (QG (show (Zs L).length≤60 by unfold Zs;rw[Qa];exact M2.few) (by decide)) (by decide) S2
 have eP:=ZdP hnew
 obtain⟨dx2,hm2⟩:=M2.ob
 have hsum:=ZhJ rs fun x hx=>(hrs.lst x hx).2.1
 have hfew:=hrs.few
 have hl:=ZcO rs
 refine⟨m,dx2,_,rfl,hm2,Zb2 ..,_,rfl,r,rs,rfl,hrs.same s2,fun H3 s3=>?_⟩
 have M3:=M2.same s3
 refine⟨m,rd,sd,L,st,_,k0,q0,w0,_,rfl,M3,W2,ok2,by rw[eP,hl];omega,fun rr us L' s' w' k1 q1 H4 hrr hrr4 hus htk hfin hmany M4 W4 ok4 fp4 k4=>?_⟩
 have s4:Zu H H4:=fun b o hb=>k4 b o (s3 b o (s2 b o hb)) fun z=>by rw[fpH b z]at hb;cases hb
 have nd:(Zas (Z3 L)).Nodup:=by rw[← ZU];exact M2.nd
 have hlen:=Zfe (ts:=us.map (·.2)) (many:=(rs.map fun x=>x.2.length).sum) nd htk (by rw[Qa];exact hfin) (by rw[Qa];exact fun z=>hmany fun y=>z (by rw[y];rfl)) W4 (fun x hx=>by obtain⟨e,he,rfl⟩:=QE.mp hx;exact(M4.each e he).le)
 rw[Qa,eP,hl,Nat.min_self]at hlen
 rw[eP]at htk
 refine⟨rr,rfl,⟨_,SqL.of hrr4⟩,fun D hD=>?_⟩
 have hDH:H D=none:=s4.free hD
 refine Zcc (K:=K) (a:=rr) (xs:=us.map fun u=>V.ref u.1) (fun i zs σ H5=>(∃v1 v2 v3:Option V,σ=[some (.ref r),v1,v2,v3])∧(∃ws:List (Addr×ZaE),zs=(ws.map fun u=>V.ref u.1)∧ws.map (·.2)=(us.take i).map (·.2)∧∀u∈ws,u.1≠D∧H u.1=none∧H5 u.1=some (.tup [.int u.2.1,.int (u.2.2.1:Int)]))∧i≤us.length∧H5 D=some (.lst zs)∧Zu H4 H5) ?_ (fun _ _ _ _ h=>SqL.of (h.2.2.2.2 _ _ hrr4)) ?_ ?_
 ·exact⟨⟨none,none,none,rfl⟩,⟨[],rfl,rfl,fun u h=>by cases h⟩,Qr _,Zd,Zj hD _⟩
 ·rintro i y zs σ H5 hy ⟨⟨v1,v2,v3,rfl⟩,⟨ws,rfl,hw,hws⟩,hi,hD5,s5⟩
  rw[Qs]at hy
  cases hz:us[i]? with
  | none=>rw[hz]at hy;cases hy
  | some u =>
  rw[hz]at hy
  cases hy
  have hil:i<us.length:=(Qf.mp hz).1
  have hwl:ws.length=i:=by
   have:=congrArg List.length hw
   rw[Qa,Qa,Qw]at this
   omega
  refine⟨u.1,_,rfl,SqT.of (s5 _ _ (hus u (Qy hz))),rfl,_,_,rfl,_,_,rfl,_,_,rfl,rfl,?_⟩
  refine⟨_,rfl,_,rfl,(by show 2≤sizeLine;decide),fun n hn0=>?_⟩
  have sn:=Zj hn0 (.tup [.int u.2.1,.int (u.2.2.1:Int)])
  have nDn:D≠n:=Zb hD5 hn0
  refine⟨sn _ _ hD5,(by rw[Qa,hwl,sizeLine_eq];omega),⟨_,_,_,rfl⟩,⟨ws++[(n,u.2)],by rw[Qe];rfl,?_,fun x hx=>?_⟩,hil,Zd,fun b o hb=>?_⟩
  ·rw[QK,hz,Qe,Qe,hw];rfl
  ·rcases Qq.mp hx with hx|hx
   ·obtain⟨g1,g2,g3⟩:=hws x hx
    exact⟨g1,g2,by rw[Zc g1];exact sn _ _ g3⟩
   ·rw[Ql.mp hx]
    exact⟨nDn.symm,s4.free (s5.free hn0),by rw[Zc nDn.symm];exact Zd⟩
  ·rw[Zc (Zb hb hD)];exact sn _ _ (s5 b o hb)
 rintro zs σ H5 ⟨⟨v1,v2,v3,rfl⟩,⟨ws,rfl,hw,hws⟩,_,hD5,s5⟩
 rw[Qa,QD (Qd _)]at hw
 exact q D ws _ k1 q1 H5 (by rw[hw];exact htk) (by have:=congrArg List.length hw;rw[Qa,Qa]at this;omega) hD5 (fun u hu=>(hws u hu).2.2) hDH (fun u hu=>(hws u hu).2.1) (s4.trans s5)
def ZdC(P:List ZJ):List Str:=P.flatMap fun x=>x.2.1.drop x.2.2
theorem ZiK{ss:List Str}{g:Nat}{z:Str}(h:ss[g]? = some z):ss.drop g=z::ss.drop (g+1):=by
 obtain⟨hlt,e⟩:=Qf.mp h
 rw[List.drop_eq_getElem_cons hlt,e]
theorem ZgI:∀ (P:List ZJ),(Zas P).Nodup→∀ {x:ZJ} {z:Str},x∈P→x.2.1[x.2.2]? = some z→(z::ZdC (ZbG P x.1)).Perm (ZdC P)
 | [],_,_,_,h,_=>by cases h
 | y::P,nd,x,z,h,hz=>by
  unfold Zas at nd
  rw[Qg,QN]at nd
  unfold ZdC ZbG
  rw[Qg,QaB,QaB]
  rcases QA.mp h with rfl|h
  ·have e:P.map (Zcx x.1)=P:=by
    conv=>rhs;rw[← List.map_id P]
    refine QR fun u hu=>?_
    unfold Zcx
    rw[if_neg (fun z:u.1=x.1=>nd.1 (z ▸ Qj (f:=fun x:ZJ=>x.1) hu))]
    rfl
   rw[e,ZiK hz]
   unfold Zcx
   rw[if_pos rfl]
   exact List.Perm.refl _
  ·have ih:=ZgI P nd.2 h hz
   unfold ZdC ZbG at ih
   have e:Zcx x.1 y=y:=if_neg (fun z:y.1=x.1=>nd.1 (z ▸ Qj (f:=fun x:ZJ=>x.1) h))
   rw[e]
   exact List.perm_middle.symm.trans (ih.append_left _)
theorem Zlw{a b:Str}(h:ZF (cds a) (cds b)≤0):LeS a b:=fun z=>by
 have z':cds b<cds a:=z
 have:=(Zgx _ _).mp z'
 have:=Za4 (cds a) (cds b)
 omega
theorem LeS.refl(a:Str):LeS a a:=Zlw (by rw[ZfL];exact Int.le_refl _)
theorem LeS.anti{a b:Str}(h:LeS a b)(k:LeS b a):a=b:=by
 have h1:¬ ZF (cds b) (cds a)<0:=fun z=>h ((Zgx _ _).mpr z)
 have h2:¬ ZF (cds a) (cds b)<0:=fun z=>k ((Zgx _ _).mpr z)
 have:=Za4 (cds a) (cds b)
 have e:cds a=cds b:=Zeh _ _ (by omega)
 obtain⟨⟨a⟩⟩:=a
 obtain⟨⟨b⟩⟩:=b
 have e':a=b:=e
 rw[e']
def Zg6(P:List ZJ):Prop:=∀x∈P,sortedS x.2.1=true
theorem Zg6.bump{P:List ZJ}(h:Zg6 P)(n:Int):Zg6 (ZbG P n):=fun x hx=>by
 obtain⟨y,hy,rfl⟩:=QE.mp hx
 unfold Zcx
 split
 ·exact h y hy
 ·exact h y hy
theorem Zeo.le{P:List ZJ}(nd:(Zas P).Nodup)(srt:Zg6 P){x:ZJ}{z:Str}{k q:Int}(h:Zeo P x z k q):∀y∈ZdC P,LeS z y:=fun y hy=>by
 obtain⟨hx,hz,W,_⟩:=h
 obtain⟨_,zc,hzc,hall⟩:=W
 rw[Zfb nd hx,hz]at hzc
 have hzc':cds z=zc:=Qh hzc
 subst hzc'
 obtain⟨u,hu,hyu⟩:=List.mem_flatMap.mp hy
 cases hh:u.2.1[u.2.2]? with
 | none=>rw[List.drop_eq_nil_of_le (List.getElem?_eq_none_iff.mp hh)]at hyu;cases hyu
 | some hd =>
  have hle:LeS hd y:=by
   have p:(u.2.1.drop u.2.2).Pairwise LeS:=((ZdU _).mp (srt u hu)).sublist (List.drop_sublist _ _)
   rw[ZiK hh]at p hyu
   rcases QA.mp hyu with rfl|hyu
   ·exact LeS.refl _
   ·exact(List.pairwise_cons.mp p).1 y hyu
  have hd':=Zfb nd hu
  rw[hh]at hd'
  rcases hall u.1 (Qj (f:=fun x:ZJ=>x.1) hu) _ hd' with e|b
  ·have e2:=ZdQ nd hu hx e
   subst e2
   have:=Qh (hz.symm.trans hh)
   rw[this];exact hle
  ·refine(Zlw ?_).trans hle
   rcases b with b|⟨b,_⟩<;>omega
theorem ZjH{P P':List ZJ}{ts:List ZaE}{k q:Int}(h:Z6 P ts P' k q)(nd:(Zas P).Nodup)(srt:Zg6 P):Zg6 P'∧(ts.map (·.2.2)++ZdC P').Perm (ZdC P)∧(ts.map (·.2.2)).Pairwise LeS∧∀a∈ts.map (·.2.2),∀b∈ZdC P',LeS a b:=by
 induction h with
 | nil=>exact⟨srt,List.Perm.refl _,List.Pairwise.nil,fun a ha=>by cases ha⟩
 | snoc h s ih =>
  obtain⟨i1,i2,i3,i4⟩:=ih
  have nd1:=nd
  rw[← h.num]at nd1
  have pm:=ZgI _ nd1 s.1 s.2.1
  have le:=s.le nd1 i1
  refine⟨i1.bump _,?_,?_,fun a ha b hb=>?_⟩
  ·rw[Qe,List.append_assoc]
   exact(pm.append_left _).trans i2
  ·rw[Qe]
   refine List.pairwise_append.mpr ⟨i3,List.pairwise_singleton _ _,fun a ha b hb=>?_⟩
   have eb:=Ql.mp hb
   rw[eb]
   exact i4 a ha _ (pm.mem_iff.mp (QW ..))
  ·have hb':=pm.mem_iff.mp (Qm _ hb)
   rw[Qe]at ha
   rcases Qq.mp ha with ha|ha
   ·exact i4 a ha b hb'
   ·rw[Ql.mp ha]
    exact le b hb'
theorem ZiE{P:List ZJ}(h:Zax P=0):ZdC P=[]:=by
 have e:(ZdC P).length=Zax P:=by
  unfold ZdC Zax
  rw[List.length_flatMap]
  congr 1
  refine QR fun x _=>?_
  rw[QL]
 exact List.eq_nil_of_length_eq_zero (e.trans h)
theorem Zjn{P P':List ZJ}{ts:List ZaE}{k q:Int}(h:Z6 P ts P' k q)(nd:(Zas P).Nodup)(srt:Zg6 P)(hl:Zax P'=0):(ts.map (·.2.2)).Perm (ZdC P)∧sortedS (ts.map (·.2.2))=true:=by
 obtain⟨_,p,s,_⟩:=ZjH h nd srt
 rw[ZiE hl,Qar]at p
 exact⟨p,(ZdU _).mpr s⟩
theorem ZlL{a b:List Str}(ha:sortedS a=true)(hb:sortedS b=true)(p:a.Perm b):a=b:=List.Perm.eq_of_pairwise (fun x y _ _ h1 h2=>h1.anti h2) ((ZdU _).mp ha) ((ZdU _).mp hb) p
theorem Zfq(k f:Addr)(g:Int):(ZbO k f g).lookup ("copied" : Str)=none:=Zes _ _ _ (by ac_rfl) (by ac_rfl) (by ac_rfl)
def Zhs(C:Addr):Sp:=fun vs H Q _=>∃ (p k f:Addr) (ss:List Str) (g:Nat),vs=[.ref p]∧Zf5 C H p k f ss g∧ss.length≤800∧(∀s∈ss,s.length≤1000) ∧
 ∀ (u k' f':Addr) (H':Hp),H u=none→H k'=none→H f'=none→Zf5 C H' u k' f' ss g→Zu H H'→Q (.ref u) H'
theorem Zjl(T:Zak K mg cRow cMerge)(f_Row_init:Cf P w K mg base 4 cRow "Row" ["self", "keys"] (Zd3 cRow)):Mf P w K mg base 6 cRow "copied" ["self"] (Zhs cRow):=by
 refine T.t_Row_copied.mf Zdo (fun vs H Q E h=>?_) (fun cdv f A outer s H vs Q E hr h=>?_)
 ·obtain⟨p,k,f,ss,g,rfl,_⟩:=h
  rfl
 obtain⟨p,k,f0,ss,g,rfl,R,h100,h1000,q⟩:=h
 refine⟨_,#[Zg,#[Zy,1,Zdo.nd,(Or.inl rfl),#[ZeK,f_Row_init,hr,#[Za,#[ZH,‹0›],#[Zf]]]],#[Zg,#[ZaA,‹1›,#[ZH,‹0›]],#[Zi,#[Zr,‹1›]]]],?_⟩
 obtain⟨dx,hp⟩:=R.ob
 refine⟨_,rfl,xw5 p cRow dx _ _ ⟨rfl,hp,T.cl_Row,T.na_Row_all_keys,ZbZ _ _ _,fun u dy hu hdy ndu=>?_⟩⟩
 have s1:Zu H (upd (upd H dy (.own u)) u (.ins cRow dy [])):=fun b o hb=>by rw[Zc (Zb hb hu),Zc (Zb hb hdy)];exact hb
 have hu1:(upd (upd H dy (.own u)) u (.ins cRow dy [])) u=some (.ins cRow dy []):=Zd
 generalize upd (upd H dy (.own u)) u (.ins cRow dy [])=H1 at s1 hu1 ⊢
 refine⟨u,dy,k,ss,rfl,hu1,s1 _ _ R.ks,h100,h1000,fun k' f' H2 hk hf nkf R2 k2=>⟨rfl,?_⟩⟩
 obtain⟨dz,hu2⟩:=R2.ob
 have s2:Zu H H2:=fun b o hb=>k2 b o (s1 b o hb) (Zb hb hu)
 refine⟨_,rfl,xw5 p cRow dx _ _ ⟨rfl,s2 _ _ hp,T.cl_Row,T.na_Row_gone,ZbB _ _ _,_,rfl,u,cRow,dz,_,rfl,hu2,T.cl_Row,T.na_Row_gone,Zg1 ..,?_⟩⟩
 rw[Zdj]
 have nuk:k'≠u:=fun z=>by rw[z,hu1]at hk;cases hk
 have nuf:f'≠u:=fun z=>by rw[z,hu1]at hf;cases hf
 exact⟨_,rfl,q u k' f' _ hu (s1.free hk) (s1.free hf) ⟨⟨dz,Zd⟩,by rw[Zc nuk];exact R2.ks,by rw[Zc nuf];exact R2.fs⟩ fun b o hb=>by rw[Zc (Zb hb hu)];exact s2 b o hb⟩
def Zli(cR cM:Addr):Sp:=fun vs H Q _=>∃ (m rd sd:Addr) (L:List Zv) (s:StL) (nb li lo:Int) (best:V),vs=[.ref m]∧ZQ cR cM H m rd sd L s nb li lo best∧nb≤35 ∧
 ∀ (m' rd' sd':Addr) (L':List Zv) (H':Hp),ZQ cR cM H' m' rd' sd' L' s nb li lo best→Z3 L'=Z3 L→(∀b,Fp m' rd' sd' L' b→H b=none)→Zu H H'→Q (.ref m') H'
theorem Zmg(T:Zak K mg cRow cMerge)(f_Merge_init:Cf P w K mg base 14 cMerge "Merge" ["self", "rows"] (Zbn cRow cMerge))(f_Row_copied:Mf P w K mg base 6 cRow "copied" ["self"] (Zhs cRow)):Mf P w K mg base 16 cMerge "twin" ["self"] (Zli cRow cMerge):=by
 refine T.t_Merge_twin.mf Zdp (fun vs H Q E h=>?_) (fun cdv f A outer s H vs Q E hr h=>?_)
 ·obtain⟨m,rd,sd,L,s,nb,li,lo,best,rfl,_⟩:=h
  rfl
 obtain⟨m,rd,sd,L,s,nb,li,lo',best,rfl,M,h35,q⟩:=h
 refine⟨_,#[Zg,#[Zy,1,Zdp.nd,(Or.inl rfl),#[ZeK,f_Merge_init,hr,#[Za,#[ZaX,#[Zf]],#[Zf]]]],#[Zg,#[ZaA,‹1›,(@ZiY _ _ _ (@Zkq _ _ _ _ _ _ _ _ _ _ _ _ _ _ _ _ Zlt rfl rfl rfl (@Zkj _ _ _ _ _ _ _ _ #[ZH,‹0›] (by rfl) (by rfl)) (fun _ _ _ _=>#[gT,K,2,#[Zz,#[cg,2,Zlt],#[Zz,#[cg,3,Zlt],(@ZaW _)]]]) (fun _ _ _ _=>(@Za5 _)) (fun _ _ _ _=>#[cw,2,Zlt]) (fun _ _ _ _=>#[ZaC,f_Row_copied,T.cl_Row,hr,#[cw,3,Zlt]]) (by intro _;rfl)))],#[Zg,#[ZaA,‹1›,#[ZH,‹0›]],#[Zg,#[ZaA,‹1›,#[ZH,‹0›]],#[Zg,#[ZaA,‹1›,#[ZH,‹0›]],#[Zg,#[ZaA,‹1›,#[Zch,ZhK,T.b.n_dict,boot_dict,#[Za,#[ZH,‹0›],#[Zf]]]],#[Zg,#[ZaA,‹1›,#[ZH,‹0›]],#[Zi,#[Zr,‹1›]]]]]]]]],?_⟩
 obtain⟨dx,hm⟩:=M.ob
 have hfew:=M.few
 refine⟨by decide,fun r hr m' dy hm' hdy ndm=>?_⟩
 have sr:=Zj hr (.lst [])
 have hr1:(upd H r (.lst [])) r=some (.lst []):=Zd
 generalize upd H r (.lst [])=Hr at sr hr1 hm' hdy ⊢
 have s1:Zu Hr (upd (upd Hr dy (.own m')) m' (.ins cMerge dy [])):=fun b o hb=>by rw[Zc (Zb hb hm'),Zc (Zb hb hdy)];exact hb
 have hm1:(upd (upd Hr dy (.own m')) m' (.ins cMerge dy [])) m'=some (.ins cMerge dy []):=Zd
 generalize upd (upd Hr dy (.own m')) m' (.ins cMerge dy [])=H1 at s1 hm1 ⊢
 refine⟨m',dy,r,[],rfl,hm1,⟨s1 _ _ hr1,by decide,(fun x hx=>by cases hx)⟩,(fun x hx=>by cases hx),fun rd0 sd0 L0 st0 w0 k0 q0 H2 M2 _ _ _ _ fp2 k2=>⟨rfl,?_⟩⟩
 have hmf:H m'=none:=sr.free hm'
 have s2:Zu H H2:=fun b o hb=>k2 b o (s1 b o (sr b o hb)) (Zb hb hmf)
 obtain⟨dz,hm2⟩:=M2.ob
 clear fp2 k2 M2
 have N:=M.same s2
 refine⟨rd,_,N.rows,True.intro,_,rfl,xw5 m cMerge dx _ _ ⟨rfl,s2 _ _ hm,T.cl_Merge,T.na_Merge_rows,ZaT ..,rd,_,rfl,N.rows,fun ob B hB=>?_⟩⟩
 have hfz:(upd H2 rd (.frz ob (.dK (kvM L)))) rd=some (.frz ob (.dK (kvM L))):=Zd
 have k1:∀b x,H2 b=some x→b≠rd→(upd H2 rd (.frz ob (.dK (kvM L)))) b=some x:=fun b x h n=>by rw[Zc n];exact h
 have fr1:∀b,(upd H2 rd (.frz ob (.dK (kvM L)))) b=none→H2 b=none:=fun b hb=>by
  cases e:H2 b with
  | none=>rfl
  | some o =>
   by_cases z:b=rd
   ·rw[z,show (upd H2 rd (.frz ob (.dK (kvM L)))) rd=some (.frz ob (.dK (kvM L))) from Zd]at hb;cases hb
   ·rw[k1 b o e z]at hb;cases hb
 generalize upd H2 rd (.frz ob (.dK (kvM L)))=H3 at hfz k1 hB fr1 ⊢
 refine Zmr (d:=rd) (o:=ob) (kvs:=kvM L) (fun i zs σ H4=>(∃v1 v2:Option V,σ=[some (.ref m),some (.ref m'),v1,v2])∧(∃L':List Zv,Z3 L'=Z3 (L.take i)∧zs=kvM L'∧(L'.map (·.p)).Nodup∧∀e∈L',ZbM cRow H4 e∧(H3 e.p=none∧H3 e.k=none∧H3 e.f=none)∧e.p≠B∧e.k≠B∧e.f≠B)∧i≤L.length∧H4 B=some (.dK zs)∧Zu H3 H4) ?_ (fun _ _ _ _ h=>h.2.2.2.2 _ _ hfz) ?_ ?_
 ·exact⟨⟨none,none,rfl⟩,⟨[],rfl,rfl,List.nodup_nil,(fun t h=>by cases h)⟩,Qr _,Zd,Zj hB _⟩
 ·rintro i k x zs σ H4 p hkx ⟨⟨v1,v2,rfl⟩,⟨L',hp',rfl,nd',hall⟩,hi,hB2,s4⟩ hp0
  unfold kvM at hkx
  rw[Qs]at hkx
  cases hu:L[i]? with
  | none=>rw[hu]at hkx;cases hkx
  | some e =>
  rw[hu]at hkx
  cases hkx
  have hil:i<L.length:=(Qf.mp hu).1
  have he:=Qy hu
  have R:=N.each e he
  obtain⟨_,_,_,n1,n2,n3⟩:=N.ne_sd he
  have s5:=Zj hp0 (.tup [kV (.inl e.n),.ref e.p])
  have hp5:(upd H4 p (.tup [kV (.inl e.n),.ref e.p])) p=some (.tup [.int e.n,.ref e.p]):=Zd
  generalize upd H4 p (.tup [kV (.inl e.n),.ref e.p])=H5 at s5 hp5 ⊢
  have R5:ZbM cRow H5 e:=R.mono fun b o hb hor=>s5 _ _ (s4 _ _ (k1 b o hb (by rcases hor with z|z|z<;>rw[z];exact n1.symm;exact n2.symm;exact n3.symm)))
  obtain⟨dp,hp⟩:=R5.at'.ob
  refine⟨p,_,rfl,SqT.of hp5,rfl,_,_,rfl,_,_,rfl,rfl,_,rfl,_,rfl,e.p,dp,_,rfl,hp,Zfq ..,xw5 e.p e.k e.f e.ss e.g ⟨rfl,R5.at',R5.len,fun s hs=>(R5.str s hs).1,fun u k' f' H6 hu6 hk6 hf6 R6 s6=>?_⟩⟩
  have hB5:=s5 _ _ hB2
  have s45:=s4.trans s5
  have up:=N.up
  unfold Zs at up
  have eL:L=L.take i++e::L.drop (i+1):=by
   have h:=(Qah i L).symm
   rw[List.drop_eq_getElem_cons hil,(Qf.mp hu).2]at h
   exact h
  have eN:Zs L'=Zs (L.take i):=by rw[ZU,ZU,hp']
  have hne:∀y∈L',y.n≠e.n:=fun y hy z=>by
   have h1:y.n∈Zs (L.take i):=by rw[← eN];exact Qj (f:=fun e:Zv=>e.n) hy
   unfold Zs at h1
   rw[eL,Qe]at up
   have:=(List.pairwise_append.mp up).2.2 _ h1 e.n (by simp)
   omega
  have hn1:Za1 (kvM L') (.inl e.n)=none:=by
   cases hv:Za1 (kvM L') (.inl e.n) with
   | none=>rfl
   | some v=>obtain⟨y,hy,z⟩:=QE.mp (Zg5 hv);injection z with z _;exact absurd (Sum.inl.inj z) (hne y hy)
  have hll:L'.length=i:=by have h:=congrArg List.length eN;unfold Zs at h;rw[Qa,Qa,Qw]at h;omega
  have nu:u≠B∧k'≠B∧f'≠B:=⟨(Zb hB5 hu6).symm,(Zb hB5 hk6).symm,(Zb hB5 hf6).symm⟩
  refine⟨.inl e.n,rfl,s6 _ _ hB5,by unfold kvM;rw[Qa];exact ZY (by omega),?_⟩
  rw[Zhi _ hn1,show kvM L'++[((.inl e.n:Key),V.ref u)]=kvM (L'++[⟨e.n,u,k',f',e.ss,e.g⟩]) by unfold kvM;rw[Qe];rfl]
  refine⟨⟨_,_,rfl⟩,⟨L'++[⟨e.n,u,k',f',e.ss,e.g⟩],?_,rfl,?_,fun y hy=>?_⟩,hil,Zd,fun b o hb=>by rw[Zc (Zb hb hB)];exact s6 _ _ (s45 _ _ hb)⟩
  ·unfold Z3 at hp' ⊢
   rw[Qe,hp',QK,hu,Qe];rfl
  ·rw[Qe]
   refine List.nodup_append.mpr ⟨nd',by simp,fun a ha b hb=>?_⟩
   obtain⟨y,hy,rfl⟩:=QE.mp ha
   have hb':b=u:=by simpa using hb
   rw[hb']
   obtain⟨de,hde⟩:=(hall y hy).1.at'.ob
   exact Zb (s5 _ _ hde) hu6
  ·rcases Qq.mp hy with hy|hy
   ·obtain⟨g1,g2,g3,g4,g5⟩:=hall y hy
    exact⟨g1.mono fun b o hb hor=>by rw[Zc (by rcases hor with z|z|z<;>rw[z];exact g3;exact g4;exact g5)];exact s6 _ _ (s5 _ _ hb),g2,g3,g4,g5⟩
   ·rw[Ql.mp hy]
    exact⟨ZbM.keep (H:=H6) ⟨R6,R5.le,R5.len,R5.srt,R5.str⟩ (Zc nu.1) (Zc nu.2.1) (Zc nu.2.2),⟨s45.free hu6,s45.free hk6,s45.free hf6⟩,nu⟩
 rintro zs σ H4 ⟨⟨v1,v2,rfl⟩,⟨L',hp',rfl,nd',hall⟩,_,hB2,s4⟩
 have hkl:(kvM L).length=L.length:=by unfold kvM;rw[Qa]
 rw[hkl,QD (Qd _)]at hp'
 refine⟨ob,s4 _ _ hfz,?_⟩
 have nBr:B≠rd:=(Zb hfz hB).symm
 have hB5:(upd H4 rd (.dK (kvM L))) B=some (.dK (kvM L')):=by rw[Zc nBr];exact hB2
 have s5:Zu H2 (upd H4 rd (.dK (kvM L))):=fun b x hb=>by
  by_cases e:b=rd
  ·rw[e,N.rows]at hb;rw[e,Zd];exact hb
  ·rw[Zc e];exact s4 _ _ (k1 b x hb e)
 have all5:∀e∈L',ZbM cRow (upd H4 rd (.dK (kvM L))) e∧H2 e.p=none∧H2 e.k=none∧H2 e.f=none:=fun e he=>by
  obtain⟨g1,⟨g2,g3,g4⟩,_⟩:=hall e he
  exact⟨g1.keep (Zc (Zb hfz g2).symm) (Zc (Zb hfz g3).symm) (Zc (Zb hfz g4).symm),fr1 _ g2,fr1 _ g3,fr1 _ g4⟩
 have hB2':=fr1 _ hB
 clear hall hB2 s4 k1 hfz fr1
 generalize upd H4 rd (.dK (kvM L))=H5 at hB5 s5 all5 ⊢
 have nmm:m≠m':=Zb hm hmf
 have hm5:=s5 _ _ (s2 _ _ hm)
 refine⟨_,rfl,m',cMerge,dz,_,rfl,s5 _ _ hm2,T.cl_Merge,T.na_Merge_rows,ZaH ..,?_⟩
 rw[Zgg]
 refine⟨_,rfl,xw5 m cMerge dx _ _ ⟨rfl,by rw[Zc nmm];exact hm5,T.cl_Merge,T.na_Merge_next_number,Zh0 ..,_,rfl,m',cMerge,dz,_,rfl,Zd,T.cl_Merge,T.na_Merge_next_number,ZaH ..,?_⟩⟩
 rw[ZeI]
 refine⟨_,rfl,xw5 m cMerge dx _ _ ⟨rfl,by rw[Zc nmm,Zc nmm];exact hm5,T.cl_Merge,T.na_Merge_likened,ZbT ..,_,rfl,m',cMerge,dz,_,rfl,Zd,T.cl_Merge,T.na_Merge_likened,ZaH ..,?_⟩⟩
 rw[Zbr]
 refine⟨_,rfl,xw5 m cMerge dx _ _ ⟨rfl,by rw[Zc nmm,Zc nmm,Zc nmm];exact hm5,T.cl_Merge,T.na_Merge_looked,ZdE ..,_,rfl,m',cMerge,dz,_,rfl,Zd,T.cl_Merge,T.na_Merge_looked,ZaH ..,?_⟩⟩
 rw[ZcG]
 have k8:∀b,b≠m'→(upd (upd (upd (upd H5 m' (.ins cMerge dz (mgF B ((([]:List (Addr×List Str)).length:Nat):Int) k0 q0 sd0 (ZaJ w0)))) m' (.ins cMerge dz (mgF B nb k0 q0 sd0 (ZaJ w0)))) m' (.ins cMerge dz (mgF B nb li q0 sd0 (ZaJ w0)))) m' (.ins cMerge dz (mgF B nb li lo' sd0 (ZaJ w0)))) b=H5 b:=fun b n=>by rw[Zc n,Zc n,Zc n,Zc n]
 have hm8:(upd (upd (upd (upd H5 m' (.ins cMerge dz (mgF B ((([]:List (Addr×List Str)).length:Nat):Int) k0 q0 sd0 (ZaJ w0)))) m' (.ins cMerge dz (mgF B nb k0 q0 sd0 (ZaJ w0)))) m' (.ins cMerge dz (mgF B nb li q0 sd0 (ZaJ w0)))) m' (.ins cMerge dz (mgF B nb li lo' sd0 (ZaJ w0)))) m'=some (.ins cMerge dz (mgF B nb li lo' sd0 (ZaJ w0))):=Zd
 generalize (upd (upd (upd (upd H5 m' (.ins cMerge dz (mgF B ((([]:List (Addr×List Str)).length:Nat):Int) k0 q0 sd0 (ZaJ w0)))) m' (.ins cMerge dz (mgF B nb k0 q0 sd0 (ZaJ w0)))) m' (.ins cMerge dz (mgF B nb li q0 sd0 (ZaJ w0)))) m' (.ins cMerge dz (mgF B nb li lo' sd0 (ZaJ w0))))=H8 at k8 hm8 ⊢
 have ne':∀ {b o},H b=some o→b≠m':=fun hb=>Zb hb hmf
 have s8:Zu H H8:=fun b o hb=>by rw[k8 b (ne' hb)];exact s5 _ _ (s2 _ _ hb)
 have all8:∀e∈L',ZbM cRow H8 e∧H e.p=none∧H e.k=none∧H e.f=none:=fun e he=>by
  obtain⟨g1,g2,g3,g4⟩:=all5 e he
  exact⟨g1.keep (k8 _ (Zb hm2 g2).symm) (k8 _ (Zb hm2 g3).symm) (k8 _ (Zb hm2 g4).symm),s2.free g2,s2.free g3,s2.free g4⟩
 have nBm:B≠m':=(Zb hm2 hB2').symm
 have hB8:H8 B=some (.dK (kvM L')):=by rw[k8 B nBm];exact hB5
 have hBH:=s2.free hB2'
 clear all5 hB5 s5 hm5 k8 hm2 N s2
 refine⟨_,rfl,xw5 m cMerge dx _ _ ⟨rfl,s8 _ _ hm,T.cl_Merge,T.na_Merge_stays,ZbA ..,sd,kvS s,rfl,s8 _ _ M.stays,fun P w x hx y hy e=>?_,fun D hD=>?_⟩⟩
 ·unfold kvS at hx hy
  rw[QF]at hx hy
  obtain⟨a,ha,rfl⟩:=QE.mp hx
  obtain⟨b,hb,rfl⟩:=QE.mp hy
  obtain⟨a1,a2,a3⟩:=M.kb.1 a ha
  obtain⟨b1,b2,b3⟩:=M.kb.1 b hb
  obtain⟨e1,e2⟩:=ZjC (P:=P) (w:=w) ⟨a1,a2,by omega⟩ ⟨b1,b2,by omega⟩ e
  show ([.inl a.1.1,.inl a.1.2]:List Key)=[.inl b.1.1,.inl b.1.2]
  rw[e1,e2]
 have s9:=Zj hD (.dT (kvS s))
 have hD9:(upd H8 D (.dT (kvS s))) D=some (.dT (kvS s)):=Zd
 have hDH:=s8.free hD
 have nDm:D≠m':=(Zb hm8 hD).symm
 generalize upd H8 D (.dT (kvS s))=H9 at s9 hD9 ⊢
 refine⟨_,rfl,m',cMerge,dz,_,rfl,s9 _ _ hm8,T.cl_Merge,T.na_Merge_stays,ZaH ..,?_⟩
 rw[Zdl]
 refine⟨_,rfl,xw5 m cMerge dx _ _ ⟨rfl,by rw[Zc nmm];exact s9 _ _ (s8 _ _ hm),T.cl_Merge,T.na_Merge_best,Zb3 ..,_,rfl,m',cMerge,dz,_,rfl,Zd,T.cl_Merge,T.na_Merge_best,ZaH ..,?_⟩⟩
 rw[Za6]
 have kE:∀b o,H9 b=some o→b≠m'→(upd (upd H9 m' (.ins cMerge dz (mgF B nb li lo' D (ZaJ w0)))) m' (.ins cMerge dz (mgF B nb li lo' D best))) b=some o:=fun b o hb n=>by rw[Zc n,Zc n];exact hb
 have hmE:(upd (upd H9 m' (.ins cMerge dz (mgF B nb li lo' D (ZaJ w0)))) m' (.ins cMerge dz (mgF B nb li lo' D best))) m'=some (.ins cMerge dz (mgF B nb li lo' D best)):=Zd
 generalize upd (upd H9 m' (.ins cMerge dz (mgF B nb li lo' D (ZaJ w0)))) m' (.ins cMerge dz (mgF B nb li lo' D best))=HE at kE hmE ⊢
 have sE:Zu H HE:=fun b o hb=>kE b o (s9 _ _ (s8 _ _ hb)) (ne' hb)
 have eN:Zs L'=Zs L:=by rw[ZU,ZU,hp']
 have hll:L'.length=L.length:=by have h:=congrArg List.length hp';unfold Z3 at h;rw[Qa,Qa]at h;exact h
 refine⟨_,rfl,q m' B D L' HE ⟨⟨dz,hmE⟩,kE _ _ (s9 _ _ hB8) nBm,kE _ _ hD9 nDm,fun e he t ht=>sE _ _ (M.ats e he t ht),fun e he=>?_,by rw[eN];exact M.up,nd',by rw[hll];exact hfew,M.sfew,⟨M.kb.1,by rw[eN];exact M.kb.2⟩⟩ hp' (fun b hb=>?_) sE⟩
 ·obtain⟨g1,g2,g3,g4⟩:=all8 e he
  obtain⟨de,hde⟩:=g1.at'.ob
  refine g1.mono fun b o hb hor=>kE b o (s9 _ _ hb) fun z=>?_
  rw[z,hm8]at hb
  injection hb with hb
  subst hb
  rcases hor with z2|z2|z2
  ·rw[← z2,z,hm8]at hde
   injection hde with hde
   injection hde with _ _ hde
   have a:=ZbZ e.k e.f (e.g:Int)
   rw[← hde,Za7 _ _ _ _ _ _ (by ac_rfl) (by ac_rfl) (by ac_rfl) (by ac_rfl) (by ac_rfl) (by ac_rfl)]at a
   cases a
  ·have:=g1.at'.ks;rw[← z2,z,hm8]at this;cases this
  ·have:=g1.at'.fs;rw[← z2,z,hm8]at this;cases this
 ·rcases hb with rfl|rfl|rfl|⟨e,he,hb⟩
  ·exact hmf
  ·exact hBH
  ·exact hDH
  ·obtain⟨_,g2,g3,g4⟩:=all8 e he
   rcases hb with rfl|rfl|rfl
   ·exact g2
   ·exact g3
   ·exact g4
def ZlW:Sp:=fun vs H Q _=>∃ (r:Addr) (rs:List (Addr×List Str)),vs=[.ref r]∧ZaQ H r rs∧(∀x∈rs,sortedS x.2=true) ∧
 ∀ (t:Addr) (ts:List ZaE) (P':List ZJ) (k q:Int) (H':Hp),Z6 (ZcX rs) ts P' k q→ts.length=(rs.map fun x=>x.2.length).sum→H' t=some (.lst ((ts.map (·.2.2)).map V.str))→H t=none→Zu H H'→Q (.ref t) H'
theorem Zkc(T:Zak K mg cRow cMerge)(f_Merge_init:Cf P w K mg base 14 cMerge "Merge" ["self", "rows"] (Zbn cRow cMerge))(f_Merge_take_few:Mf P w K mg base 7 cMerge "take_few" ["self", "many"] (ZgV K cRow cMerge))(f_how_many:Df P w K mg base 1 "how_many" ["rows"] Zc9):Df P w K mg base 16 "merged_keys" ["rows"] ZlW:=by
 refine T.t_merged_keys.df Zfc (fun vs H Q E h=>?_) (fun cdv f A outer s H vs Q E hr h=>?_)
 ·obtain⟨r,rs,rfl,_⟩:=h
  rfl
 obtain⟨r,rs,rfl,hrs,hsrt,q⟩:=h
 refine⟨_,#[Zi,#[Zr,#[Zbe,ZkP,#[iL,K,#[Zcy,f_Merge_take_few,T.cl_Merge,hr,#[ZeK,f_Merge_init,hr,#[Za,‹0›,#[Zf]]],#[Za,#[ZC,f_how_many,hr,#[Za,‹0›,#[Zf]],(by rfl)],#[Zf]]]],(fun _ _ _ _=>#[gT,K,3,#[Zz,#[cg,1,ZkP],#[Zz,#[cg,2,ZkP],#[Zz,#[cg,3,ZkP],(@ZaW _)]]]]),(fun _ _ _ _=>(@Za5 _)),(fun _ _ _ _=>#[cw,3,ZkP])]]],?_⟩
 refine⟨_,rfl,fun m dx hm hdx nmd=>?_⟩
 have s1:Zu H (upd (upd H dx (.own m)) m (.ins cMerge dx [])):=fun b o hb=>by rw[Zc (Zb hb hm),Zc (Zb hb hdx)];exact hb
 have hm1:(upd (upd H dx (.own m)) m (.ins cMerge dx [])) m=some (.ins cMerge dx []):=Zd
 generalize upd (upd H dx (.own m)) m (.ins cMerge dx [])=H1 at s1 hm1 ⊢
 refine(xw4 m dx r rs ⟨rfl,hm1,hrs.same s1,hsrt,fun rd sd L st w0 k0 q0 H2 M2 hnew W2 S2 P2 fp2 k2=>⟨rfl,?_⟩⟩)
 have s2:Zu H H2:=fun b o hb=>k2 b o (s1 b o hb) (Zb hb hm)
 have fpH:∀b,Fp m rd sd L b→H b=none:=fun b hb=>by
  rcases fp2 b hb with z|z
  ·rw[z];exact hm
  ·exact s1.free z
 have ok2:=Zb8 8 (hdM L) st (Zs L) M2.up (QG (show (Zs L).length≤60 by unfold Zs;rw[Qa];exact M2.few) (by decide)) (by decide) S2
 have eP:=ZdP hnew
 obtain⟨dx2,hm2⟩:=M2.ob
 have hsum:=ZhJ rs fun x hx=>(hrs.lst x hx).2.1
 have hfew:=hrs.few
 have hl:=ZcO rs
 refine⟨m,dx2,_,rfl,hm2,Zb2 ..,_,rfl,r,rs,rfl,hrs.same s2,fun H3 s3=>?_⟩
 have M3:=M2.same s3
 refine⟨m,rd,sd,L,st,_,k0,q0,w0,_,rfl,M3,W2,ok2,by rw[eP,hl];omega,fun rr us L' s' w' k1 q1 H4 hrr hrr4 hus htk hfin hmany M4 W4 ok4 fp4 k4=>?_⟩
 have s4:Zu H H4:=fun b o hb=>k4 b o (s3 b o (s2 b o hb)) fun z=>by rw[fpH b z]at hb;cases hb
 have nd:(Zas (Z3 L)).Nodup:=by rw[← ZU];exact M2.nd
 have hlen:=Zfe (ts:=us.map (·.2)) (many:=(rs.map fun x=>x.2.length).sum) nd htk (by rw[Qa];exact hfin) (by rw[Qa];exact fun z=>hmany fun y=>z (by rw[y];rfl)) W4 (fun x hx=>by obtain⟨e,he,rfl⟩:=QE.mp hx;exact(M4.each e he).le)
 rw[Qa,eP,hl,Nat.min_self]at hlen
 rw[eP]at htk
 refine⟨rr,rfl,⟨_,SqL.of hrr4⟩,fun D hD=>?_⟩
 have hDH:H D=none:=s4.free hD
 refine Zcc (K:=K) (a:=rr) (xs:=us.map fun u=>V.ref u.1) (fun i zs σ H5=>(∃v1 v2 v3:Option V,σ=[some (.ref r),v1,v2,v3])∧zs=(((us.take i).map (·.2)).map (·.2.2)).map V.str∧i≤us.length∧H5 D=some (.lst zs)∧Zu H4 H5) ?_ (fun _ _ _ _ h=>SqL.of (h.2.2.2.2 _ _ hrr4)) ?_ ?_
 ·exact⟨⟨none,none,none,rfl⟩,rfl,Qr _,Zd,Zj hD _⟩
 ·rintro i y zs σ H5 hy ⟨⟨v1,v2,v3,rfl⟩,rfl,hi,hD5,s5⟩
  rw[Qs]at hy
  cases hz:us[i]? with
  | none=>rw[hz]at hy;cases hy
  | some u =>
  rw[hz]at hy
  cases hy
  have hil:i<us.length:=(Qf.mp hz).1
  refine⟨u.1,_,rfl,SqT.of (s5 _ _ (hus u (Qy hz))),rfl,_,_,rfl,_,_,rfl,_,_,rfl,rfl,?_⟩
  refine⟨_,rfl,hD5,(by rw[Qa,Qa,Qa,Qw,sizeLine_eq];omega),⟨_,_,_,rfl⟩,?_,hil,Zd,fun b o hb=>?_⟩
  ·rw[QK,hz,Qe,Qe,Qe];rfl
  ·rw[Zc (Zb hb hD)];exact s5 b o hb
 rintro zs σ H5 ⟨⟨v1,v2,v3,rfl⟩,rfl,_,hD5,s5⟩
 rw[Qa,QD (Qd _)]at hD5
 exact q D (us.map (·.2)) _ k1 q1 H5 htk (by rw[Qa];omega) hD5 hDH (s4.trans s5)
theorem Z6.app{P P1 P2:List ZJ}{us ts:List ZaE}{k q k' q':Int}(h:Z6 P us P1 k q)(g:Z6 P1 ts P2 k' q'):Z6 P (us++ts) P2 (k+k') (q+q'):=by
 induction g with
 | nil=>rw[Qar,Q2,Q2];exact h
 | snoc _ s ih=>rw[← List.append_assoc,← Int.add_assoc,← Int.add_assoc];exact .snoc ih s
theorem Z6.cast{P P1:List ZJ}{us:List ZaE}{k q k' q':Int}(h:Z6 P us P1 k q)(e1:k=k')(e2:q=q'):Z6 P us P1 k' q':=by subst e1;subst e2;exact h
def Zf0(H:Hp)(u:Addr×ZaE):Prop:=H u.1=some (.tup [.int u.2.1,.int (u.2.2.1:Int),.str u.2.2.2])
structure Pcs (cR cM:Addr) (H0:Hp) (F:Addr→Prop) (p D:Addr) (P0:List ZJ) (li0 lo0:Int) (H:Hp) (X:MS) (us:List (Addr×ZaE)):Prop where
 mg:MOk cR cM H X
 nb:X.nb≤35
 tk:Z6 P0 (us.map (·.2)) (Z3 X.L) (X.li-li0) (X.lo-lo0)
 fp:∀b,MFp X b→F b∨H0 b=none
 np:¬ MFp X p
 nD:¬ MFp X D
 d:H D=some (.lst (us.map fun u=>V.ref u.1))
 tu:∀u∈us,Zf0 H u
 kp:∀b o,H0 b=some o→b≠p→¬ F b→H b=some o
section
variable {cR cM:Addr} {H0 H H':Hp} {F:Addr→Prop} {p D:Addr} {P0:List ZJ} {li0 lo0:Int} {X X':MS} {us ts:List (Addr×ZaE)}
theorem Pcs.same(h:Pcs cR cM H0 F p D P0 li0 lo0 H X us)(s:Zu H H'):Pcs cR cM H0 F p D P0 li0 lo0 H' X us :=
 ⟨h.mg.same s,h.nb,h.tk,h.fp,h.np,h.nD,s _ _ h.d,fun u hu=>s _ _ (h.tu u hu),fun b o hb n f=>s _ _ (h.kp b o hb n f)⟩
theorem Pcs.draw(h:Pcs cR cM H0 F p D P0 li0 lo0 H X us){c:Int}(l:Zau H p c)(nDp:D≠p)(B:But p H H'):Pcs cR cM H0 F p D P0 li0 lo0 H' X us:=by
 obtain⟨a,b,hp,_⟩:=l
 refine⟨⟨h.mg.M.keep fun b o hb hor=>B b o hb fun z=>?_,h.mg.W,h.mg.ok⟩,h.nb,h.tk,h.fp,h.np,h.nD,B _ _ h.d nDp,fun u hu=>B _ _ (h.tu u hu) fun z=>?_,fun b o hb n f=>B _ _ (h.kp b o hb n f) n⟩
 ·rcases hor with f|⟨xs,rfl⟩
  ·exact h.np (z ▸ f)
  ·rw[z,hp]at hb;cases hb
 ·have:=h.tu u hu
  unfold Zf0 at this
  rw[z,hp]at this;cases this
theorem Pcs.took(h:Pcs cR cM H0 F p D P0 li0 lo0 H X us)(hD:H0 D=none){k q:Int}(m':MOk cR cM H' X')(e1:X'.nb=X.nb)(e2:X'.li=X.li+k)(e3:X'.lo=X.lo+q)(tk:Z6 (Z3 X.L) (ts.map (·.2)) (Z3 X'.L) k q)(fp:∀b,MFp X' b→MFp X b)(kk:∀b o,H b=some o→¬ MFp X b→H' b=some o)(tt:∀u∈ts,Zf0 H' u) :
  Pcs cR cM H0 F p D P0 li0 lo0 (upd H' D (.lst ((us++ts).map fun u=>V.ref u.1))) X' (us++ts):=by
 have hD':=kk _ _ h.d h.nD
 refine⟨⟨m'.M.keep fun b o hb hor=>?_,m'.W,m'.ok⟩,by rw[e1];exact h.nb,by rw[Qe];exact(h.tk.app tk).cast (by omega) (by omega),fun b hb=>h.fp b (fp b hb),fun z=>h.np (fp _ z),fun z=>h.nD (fp _ z),Zd,fun u hu=>?_,fun b o hb n f=>?_⟩
 ·rw[Zc (fun z=>?_)]
  ·exact hb
  ·rcases hor with f|⟨xs,rfl⟩
   ·exact h.nD (fp _ (z ▸ f))
   ·rw[z,hD']at hb;cases hb
 ·have hu':Zf0 H' u:=by
   rcases Qq.mp hu with hu|hu
   ·exact kk _ _ (h.tu u hu) (h.mg.M.fp_tup (h.tu u hu))
   ·exact tt u hu
  unfold Zf0 at hu' ⊢
  rw[Zc (fun z=>by rw[z,hD']at hu';cases hu')];exact hu'
 ·rw[Zc (Zb hb hD)]
  exact kk _ _ (h.kp b o hb n f) fun z=>by
   rcases h.fp b z with g|g
   ·exact f g
   ·rw[g]at hb;cases hb
theorem Pcs.twin(h:Pcs cR cM H0 F p D P0 li0 lo0 H X us){c:Int}(l:Zau H p c){m' rd' sd':Addr}{L':List Zv}(M:ZQ cR cM H' m' rd' sd' L' X.s X.nb X.li X.lo (ZaJ X.w))(e:Z3 L'=Z3 X.L)(fr:∀b,Fp m' rd' sd' L' b→H b=none)(s:Zu H H'):Pcs cR cM H0 F p D P0 li0 lo0 H' ⟨m',rd',sd',L',X.s,X.nb,X.li,X.lo,X.w⟩ us:=by
 have e1:hdM L'=hdM X.L:=by rw[Zbf,Zbf,e]
 have e2:Zs L'=Zs X.L:=by rw[ZU,ZU,e]
 refine⟨⟨M,by show Win (hdM L') (Zs L') X.w;rw[e1,e2];exact h.mg.W,by show ZX (hdM L') X.s (Zs L');rw[e1,e2];exact h.mg.ok⟩,h.nb,by show Z6 P0 _ (Z3 L') _ _;rw[e];exact h.tk,fun b hb=>?_,fun z=>?_,fun z=>?_,s _ _ h.d,fun u hu=>s _ _ (h.tu u hu),fun b o hb n f=>s _ _ (h.kp b o hb n f)⟩
 ·have hb0:=fr b hb
  by_cases f:F b
  ·exact .inl f
  ·refine .inr ?_
   cases e0:H0 b with
   | none=>rfl
   | some o =>
    by_cases z:b=p
    ·obtain⟨_,_,hp,_⟩:=l;rw[z,hp]at hb0;cases hb0
    ·rw[h.kp b o e0 z f]at hb0;cases hb0
 ·obtain⟨_,_,hp,_⟩:=l
  have:=fr p z;rw[hp]at this;cases this
 ·have:=fr D z;rw[h.d]at this;cases this
end
theorem Zne{L:List Zv}(h:∀e∈L,e.g≤e.ss.length):(ZcE (L.map toL)).sum=((Zax (Z3 L):Nat):Int):=by
 induction L with
 | nil=>rfl
 | cons e r ih =>
  have i:=ih fun x hx=>h x (Qm _ hx)
  have g:=h e (by simp)
  unfold ZcE Zax Z3 at i ⊢
  rw[Qg,Qg,Qg,Qg,QZ,QZ,i,Int.natCast_add]
  congr 1
  show (e.ss.length:Int)-(e.g:Int)=((e.ss.length-e.g:Nat):Int)
  omega
def Zkd(cR cM:Addr):Sp:=fun vs H Q _=>∃ (p:Addr) (c:Int) (X:MS),vs=[.ref p,.ref X.m]∧Zau H p c∧c<2 ^ 40∧MOk cR cM H X∧X.nb≤35∧Zax (Z3 X.L)≤20000∧¬ MFp X p ∧
 ∀ (t r t2:Addr) (us:List (Addr×ZaE)) (P':List ZJ) (k q c':Int) (H':Hp),Z6 (Z3 X.L) (us.map (·.2)) P' k q→Zax P'=0→H' t=some (.tup [.ref r,.ref t2])→H' r=some (.lst (us.map fun u=>V.ref u.1))→(∀u∈us,Zf0 H' u)→H' t2=some (.tup [.int (X.li+k),.int (X.lo+q)])→H r=none→Zau H' p c'→c'≤c+400→(∀b o,H b=some o→b≠p→¬ MFp X b→H' b=some o)→Q (.ref t) H'
theorem Zik(rd:Addr)(nb li lo:Int)(sd:Addr)(best:V):(mgF rd nb li lo sd best).lookup ("twin" : Str)=none:=Za7 _ _ _ _ _ _ (by ac_rfl) (by ac_rfl) (by ac_rfl) (by ac_rfl) (by ac_rfl) (by ac_rfl)
theorem ZjF(T:Zak K mg cRow cMerge)(f_l_pick:Df P w K mg base 2 "_law_pick" ["_law_left_here", "_law_many_here"] Zc1)(f_Merge_twin:Mf P w K mg base 16 cMerge "twin" ["self"] (Zli cRow cMerge))(f_Merge_coming:Mf P w K mg base 3 cMerge "coming" ["self"] (ZeO cRow cMerge))(f_Merge_take:Mf P w K mg base 6 cMerge "take" ["self"] (Zh8 cRow cMerge))(f_Merge_take_few:Mf P w K mg base 7 cMerge "take_few" ["self", "many"] (ZgV K cRow cMerge))(f_Merge_left:Mf P w K mg base 2 cMerge "left" ["self"] (ZiN cRow cMerge))(f_Merge_likenings:Mf P w K mg base 1 cMerge "likenings" ["self"] (Zkg cRow cMerge))(f_Merge_looks:Mf P w K mg base 1 cMerge "looks" ["self"] (Zky cRow cMerge)):Df P w K mg base 17 "_law_pieces" ["_law_left_here", "_law_merge"] (Zkd cRow cMerge):=by
 refine T.t_l_pieces.df Zbj (fun vs H Q E h=>?_) (fun cdv f A outer s H vs Q E hr h=>?_)
 ·obtain⟨p,c,X,rfl,_⟩:=h
  rfl
 obtain⟨p,c,X,rfl,Lp,hc,mg0,h35,hleft,np0,q⟩:=h
 refine⟨_,#[Zg,#[Zy,2,Zbj.nd,(Or.inl rfl),#[ZaX,#[Zf]]],#[Zg,#[ZcI,PassesOwn.never,#[Zbw,T.b.n_range,#[Za,#[Zh],#[Zf]]],#[ZL,3,Zbj.nd],#[Zg,#[Zy,4,Zbj.nd,(Or.inl rfl),#[ZC,f_l_pick,hr,#[Za,‹0›,#[Za,#[Zh],#[Zf]]],(by rfl)]],#[Zi,#[Zaw,#[Zt,Zbo,‹4›,#[Zh],(Zw _)],#[Zi,#[Zy,1,Zbj.nd,(Or.inl rfl),#[ZaC,f_Merge_twin,T.cl_Merge,hr,‹1›]]],#[Zi,#[Zaw,(@PW.pt _ _ _ #[ZdA,#[Zt,Zbo,‹4›,#[Zh],(Zw _)],(@Zc4 _ _ _ _ #[Zt,Zew,#[ZaC,f_Merge_coming,T.cl_Merge,hr,‹1›],#[Zaj],(Zw _)])]),#[Zi,#[ZaG,#[Zdm,QH,QO,QP,ZaZ,‹2›,#[Za,#[ZaC,f_Merge_take,T.cl_Merge,hr,‹1›],#[Zf]]]]],#[Zi,#[ZaG,#[Zdm,QH,PySem.F.slot_list_extend,PySem.F.type_list_extend,ZfK,‹2›,#[Za,#[Zcy,f_Merge_take_few,T.cl_Merge,hr,‹1›,#[Za,#[ZC,f_l_pick,hr,#[Za,‹0›,#[Za,#[Zh],#[Zf]]],(by rfl)],#[Zf]]],#[Zf]]]]]]]]]]],#[Zg,#[ZaG,#[Zdm,QH,PySem.F.slot_list_extend,PySem.F.type_list_extend,ZfK,‹2›,#[Za,#[Zcy,f_Merge_take_few,T.cl_Merge,hr,‹1›,#[Za,#[ZaC,f_Merge_left,T.cl_Merge,hr,‹1›],#[Zf]]],#[Zf]]]],#[Zi,#[Zr,#[ZaP,#[Za,‹2›,#[Za,#[ZaP,#[Za,#[ZaC,f_Merge_likenings,T.cl_Merge,hr,‹1›],#[Za,#[ZaC,f_Merge_looks,T.cl_Merge,hr,‹1›],#[Zf]]]],#[Zf]]]]]]]]],?_⟩
 have nd:(Zas (Z3 X.L)).Nodup:=by rw[← ZU];exact mg0.M.nd
 refine⟨by decide,fun D hD=>?_⟩
 have nDp:D≠p:=fun z=>by obtain⟨_,_,hp,_⟩:=Lp;rw[z,hp]at hD;cases hD
 have sD:=Zj hD (.lst [])
 have P1:Pcs cRow cMerge H (MFp X) p D (Z3 X.L) X.li X.lo (upd H D (.lst [])) X []:=⟨mg0.same sD,h35,Z6.cast .nil (by omega) (by omega),fun b hb=>.inl hb,np0,mg0.M.fp_fresh hD,Zd,(fun u h=>by cases h),fun b o hb _ _=>sD b o hb⟩
 have L1:=Lp.same sD
 generalize upd H D (.lst [])=H1 at P1 L1 ⊢
 refine⟨_,rfl,by decide,by decide,?_⟩
 refine Zc3 (fun i σ H2=>∃ (v3 v4:Option V) (Y:MS) (us:List (Addr×ZaE)) (c1:Int),σ=[some (.ref p),some (.ref Y.m),some (.ref D),v3,v4]∧Pcs cRow cMerge H (MFp X) p D (Z3 X.L) X.li X.lo H2 Y us∧Zau H2 p c1∧c1≤c+2*(i:Int)) ⟨_,_,X,[],c,rfl,P1,L1,by omega⟩ ?_ ?_
 ·rintro i σ H2 hi ⟨v3,v4,Y,us,c1,rfl,P2,L2,hc1⟩
  refine⟨_,rfl,p,c1,4,rfl,L2,by omega,by decide,by decide,fun r H3 hr0 hr4 L3 B3=>?_⟩
  have P3:=P2.draw L2 nDp B3
  clear P2 L2 B3
  have hul:=P3.tk.left nd
  rw[Qa]at hul
  refine⟨_,rfl,rfl,_,rfl,Zbt (fun d=>?_) (fun d=>?_)⟩
  ·obtain⟨dx,hm⟩:=P3.mg.M.ob
   exact⟨_,rfl,Y.m,dx,_,rfl,hm,Zik ..,Y.m,Y.rd,Y.sd,Y.L,Y.s,Y.nb,Y.li,Y.lo,ZaJ Y.w,rfl,P3.mg.M,P3.nb,fun m' rd' sd' L' H4 M4 e4 fr4 s4=>⟨_,_,⟨m',rd',sd',L',Y.s,Y.nb,Y.li,Y.lo,Y.w⟩,us,c1+1,rfl,P3.twin L3 M4 e4 fr4 s4,L3.same s4,by omega⟩⟩
  refine⟨_,rfl,rfl,_,rfl,?_⟩
  refine Zl2 Y.w.isSome (fun _ T' h1=>?_) (fun H4 s4=>?_)
  ·obtain⟨dx,hm⟩:=P3.mg.M.ob
   refine⟨_,rfl,Y.m,dx,_,rfl,hm,ZdI ..,xw9 Y.m Y.rd Y.sd Y.L Y.s Y.nb Y.li Y.lo Y.w ⟨rfl,P3.mg.M,P3.mg.W,fun x H4 hc s4=>⟨rfl,_,rfl,?_⟩⟩⟩
   have e:Y.w.isSome = !decide (x=V.non):=by
    have W':=P3.mg.W
    rcases hc with⟨rfl,w0⟩|⟨t,e,z,rfl,_,_,_,w0⟩
    ·rw[Zcb]at w0;rw[W'.one w0];rfl
    ·rw[Zcb]at w0;rw[W'.one w0];rfl
   have:=h1 H4 s4
   rw[e]at this
   exact this
  have P4:=P3.same s4
  have L4:=L3.same s4
  obtain⟨dx,hm⟩:=P4.mg.M.ob
  refine Zbt (fun d2=>?_) (fun d2=>?_)
  ·refine⟨_,rfl,.inl ⟨rfl,_,SqL.of P4.d⟩,_,rfl,Y.m,dx,_,rfl,hm,ZeG ..,xw9 Y.m Y.rd Y.sd Y.L Y.s Y.nb Y.li Y.lo Y.w ⟨rfl,P4.mg.M,P4.mg.W,P4.mg.ok,fun x L5 s5 w5 k5 q5 H5 hR M5 W5 ok5 kp5=>?_⟩⟩
   rcases ZfS P4.mg.W hR with⟨w0,_⟩|⟨y,z,t,stp,eL,rfl,ht⟩
   ·have W':=P4.mg.W
    rw[Zbf,ZU]at W'
    rw[W'.one w0]at d2
    rw[Bool.and_comm]at d2
    cases d2
   have hD5:=kp5 _ _ P4.d P4.nD
   have P6:=P4.took (X':=⟨Y.m,Y.rd,Y.sd,L5,s5,Y.nb,Y.li+k5,Y.lo+q5,w5⟩) (ts:=[(t,(y.1,y.2.2,z))]) (k:=k5) (q:=q5) hD ⟨M5,W5,ok5⟩ rfl rfl rfl (by show Z6 _ _ (Z3 L5) _ _;rw[eL];exact(Z6.snoc .nil stp).cast (by omega) (by omega)) (fun b hb=>hR.fp.mp hb) kp5 (fun u hu=>by rw[Ql.mp hu];exact ht)
   rw[Qe]at P6
   obtain⟨a1,a2,hp,c0⟩:=L4
   exact⟨D,_,_,rfl,rfl,hD5,(by rw[Qa,sizeLine_eq];omega),_,_,⟨Y.m,Y.rd,Y.sd,L5,s5,Y.nb,Y.li+k5,Y.lo+q5,w5⟩,_,c1+1,rfl,P6,⟨a1,a2,by rw[Zc nDp.symm];exact kp5 _ _ hp P4.np,c0⟩,by omega⟩
  ·refine⟨_,rfl,.inl ⟨rfl,_,SqL.of P4.d⟩,_,rfl,Y.m,dx,_,rfl,hm,Zb2 ..,_,rfl,p,c1+1,9,rfl,L4,by omega,by decide,by decide,fun r2 H5 _ _ L5 B5=>?_⟩
   have P5:=P4.draw L4 nDp B5
   refine⟨Y.m,Y.rd,Y.sd,Y.L,Y.s,Y.nb,Y.li,Y.lo,Y.w,r2,rfl,P5.mg.M,P5.mg.W,P5.mg.ok,by omega,fun rr ts L6 s6 w6 k6 q6 H6 hrr hrr6 hts htk _ _ M6 W6 ok6 fp6 kp6=>?_⟩
   have hD6:=kp6 _ _ P5.d P5.nD
   have P6:=P5.took (X':=⟨Y.m,Y.rd,Y.sd,L6,s6,Y.nb,Y.li+k6,Y.lo+q6,w6⟩) (ts:=ts) (k:=k6) (q:=q6) hD ⟨M6,W6,ok6⟩ rfl rfl rfl htk (fun b hb=>(fp6 b).mp hb) kp6 hts
   have htl:=htk.left (by rw[P5.tk.num];exact nd)
   rw[Qa]at htl
   rw[Qe]at P6
   obtain⟨a1,a2,hp,c0⟩:=L5
   exact⟨D,rr,_,_,rfl,rfl,hD6,hrr6,(by rw[Qa,Qa,sizeLine_eq];omega),_,_,⟨Y.m,Y.rd,Y.sd,L6,s6,Y.nb,Y.li+k6,Y.lo+q6,w6⟩,_,c1+1+1,rfl,P6,⟨a1,a2,by rw[Zc nDp.symm];exact kp6 _ _ hp P5.np,c0⟩,by omega⟩
 ·rintro σ H2 ⟨v3,v4,Y,us,c1,rfl,P2,L2,hc1⟩
  have hc2:c1≤c+400:=hc1
  obtain⟨dx,hm⟩:=P2.mg.M.ob
  have hul:=P2.tk.left nd
  rw[Qa]at hul
  refine⟨_,rfl,.inl ⟨rfl,_,SqL.of P2.d⟩,_,rfl,Y.m,dx,_,rfl,hm,Zb2 ..,_,rfl,Y.m,dx,_,rfl,hm,Zh9 ..,Y.m,Y.rd,Y.sd,Y.L,Y.s,Y.nb,Y.li,Y.lo,ZaJ Y.w,rfl,P2.mg.M,fun H3 s3=>?_⟩
  have P3:=P2.same s3
  have L3:=L2.same s3
  rw[Zne fun e he=>(P2.mg.M.each e he).le]
  refine(Zpw Y.m Y.rd Y.sd Y.L Y.s Y.nb Y.li Y.lo Y.w _ ⟨rfl,P3.mg.M,P3.mg.W,P3.mg.ok,by omega,fun rr ts L6 s6 w6 k6 q6 H6 hrr hrr6 hts htk hfin hmany M6 W6 ok6 fp6 kp6=>?_⟩)
  have hD6:=kp6 _ _ P3.d P3.nD
  have P6:=P3.took (X':=⟨Y.m,Y.rd,Y.sd,L6,s6,Y.nb,Y.li+k6,Y.lo+q6,w6⟩) (ts:=ts) (k:=k6) (q:=q6) hD ⟨M6,W6,ok6⟩ rfl rfl rfl htk (fun b hb=>(fp6 b).mp hb) kp6 hts
  have ndY:(Zas (Z3 Y.L)).Nodup:=by rw[P3.tk.num];exact nd
  have htl:=htk.left ndY
  have hmn:=Zfe (ts:=ts.map (·.2)) (many:=Zax (Z3 Y.L)) ndY htk (by rw[Qa];exact hfin) (by rw[Qa];exact fun z=>hmany fun y=>z (by rw[y];rfl)) W6 (fun x hx=>by obtain⟨e,he,rfl⟩:=QE.mp hx;exact(M6.each e he).le)
  rw[Nat.min_self,Qa]at hmn
  rw[Qa]at htl
  rw[Qe]at P6
  obtain⟨a1,a2,hp,c0⟩:=L3
  refine⟨D,rr,_,_,rfl,rfl,hD6,hrr6,(by rw[Qa,Qa,sizeLine_eq];omega),?_⟩
  have L7:Zau (upd H6 D (.lst ((us.map fun u=>V.ref u.1)++ts.map fun u=>V.ref u.1))) p c1:=⟨a1,a2,by rw[Zc nDp.symm];exact kp6 _ _ hp P3.np,c0⟩
  generalize upd H6 D (.lst ((us.map fun u=>V.ref u.1)++ts.map fun u=>V.ref u.1))=H7 at P6 L7 ⊢
  obtain⟨dz,hm7⟩:=P6.mg.M.ob
  refine⟨_,rfl,_,rfl,Y.m,dz,_,rfl,hm7,Zcz ..,Y.m,Y.rd,Y.sd,L6,s6,Y.nb,Y.li+k6,Y.lo+q6,ZaJ w6,rfl,P6.mg.M,?_⟩
  refine⟨_,rfl,Y.m,dz,_,rfl,hm7,Zep ..,Y.m,Y.rd,Y.sd,L6,s6,Y.nb,Y.li+k6,Y.lo+q6,ZaJ w6,rfl,P6.mg.M,(by show 2≤sizeLine;decide),fun t2 ht2=>⟨(by show 2≤sizeLine;decide),fun t ht=>?_⟩⟩
  have s8:=Zj ht2 (.tup [.int (Y.li+k6),.int (Y.lo+q6)])
  have s9:=Zj ht (.tup [.ref D,.ref t2])
  have P9:=(P6.same s8).same s9
  have hP:=P9.tk
  refine q t D t2 (us++ts) (Z3 L6) (Y.li+k6-X.li) (Y.lo+q6-X.lo) c1 _ hP (by omega) Zd P9.d P9.tu ?_ hD ((L7.same s8).same s9) hc2 P9.kp
  rw[show X.li+(Y.li+k6-X.li)=Y.li+k6 by omega,show X.lo+(Y.lo+q6-X.lo)=Y.lo+q6 by omega]
  exact s9 _ _ Zd
theorem ZiL:∀ (ns:List Int) (rs:List (Addr×List Str)),ns.length=rs.length→ZdC (ns.zip (rs.map fun x=>(x.2,0)))=rs.flatMap (·.2)
 | [],[],_=>rfl
 | [],_::_,h=>by cases h
 | _::_,[],h=>by cases h
 | n::ns,x::rs,h=>by
  have ih:=ZiL ns rs (Nat.succ.inj h)
  unfold ZdC at ih ⊢
  rw[Qg,List.zip_cons_cons,QaB,QaB,ih]
  rfl
theorem Zl5(rs:List (Addr×List Str)):ZdC (ZcX rs)=rs.flatMap (·.2):=ZiL _ _ (by unfold ZcZ;rw[Qa,List.length_range])
theorem ZiM:∀ (ns:List Int) (rs:List (Addr×List Str)),(∀x∈rs,sortedS x.2=true)→Zg6 (ns.zip (rs.map fun x=>(x.2,0)))
 | [],_,_=>fun x hx=>by rw[List.zip_nil_left]at hx;cases hx
 | _::_,[],_=>fun x hx=>by cases hx
 | n::ns,y::rs,h=>fun x hx=>by
  rw[Qg,List.zip_cons_cons]at hx
  rcases QA.mp hx with rfl|hx
  ·exact h y (by simp)
  ·exact ZiM ns rs (fun z hz=>h z (Qm _ hz)) x hx
theorem Zef(rs:List (Addr×List Str)):(Zas (ZcX rs)).Nodup:=by
 have e:Zas (ZcX rs)=ZcZ 0 rs.length:=by
  unfold Zas ZcX
  rw[List.map_fst_zip]
  unfold ZcZ
  rw[Qa,Qa,List.length_range]
  exact Qd _
 rw[e]
 exact(Zg7 _).imp fun h=>by omega
def AllK(rs:List (Addr×List Str))(ks:List Str):Prop:=ks.Perm (rs.flatMap (·.2))∧sortedS ks=true
theorem AllK.of{rs:List (Addr×List Str)}{ts:List ZaE}{P':List ZJ}{k q:Int}(h:Z6 (ZcX rs) ts P' k q)(hl:ts.length=(rs.map fun x=>x.2.length).sum)(srt:∀x∈rs,sortedS x.2=true):AllK rs (ts.map (·.2.2)):=by
 have h1:=h.left (Zef rs)
 rw[ZcO]at h1
 have h2:=Zjn h (Zef rs) (ZiM _ rs srt) (by omega)
 rw[Zl5]at h2
 exact h2
theorem AllK.one{rs rs':List (Addr×List Str)}{ks ks':List Str}(h:AllK rs ks)(h':AllK rs' ks')(p:(rs.flatMap (·.2)).Perm (rs'.flatMap (·.2))):ks=ks':=ZlL h.2 h'.2 ((h.1.trans p).trans h'.1.symm)
theorem AllK.len{rs:List (Addr×List Str)}{ks:List Str}(h:AllK rs ks):ks.length=(rs.map fun x=>x.2.length).sum:=by
 rw[h.1.length_eq,List.length_flatMap]
theorem AllK.az{rs:List (Addr×List Str)}{ks:List Str}(h:AllK rs ks)(hz:∀x∈rs,∀s∈x.2,s.length≤1000∧AZ s):∀s∈ks,s.length≤1000∧AZ s:=fun s hs=>by
 obtain⟨x,hx,hsx⟩:=List.mem_flatMap.mp (h.1.mem_iff.mp hs)
 exact hz x hx s hsx
theorem ZhN{P:List ZJ}(nd:(Zas P).Nodup)(h:Zax P=0):Win (hdP P) (Zas P) none:=fun n hn=>by
 obtain⟨x,hx,rfl⟩:=QE.mp hn
 rw[Zfb nd hx,QJ (List.drop_eq_nil_iff.mp (List.flatMap_eq_nil_iff.mp (ZiE h) x hx))]
 rfl
theorem Zk5(rs:List (Addr×List Str))(h:∀x∈rs,x.2.length≤60):(rs.map fun x=>x.2.length).sum≤rs.length*60:=by
 induction rs with
 | nil=>exact Qd _
 | cons x r ih =>
  have:=ih fun y hy=>h y (Qm _ hy)
  have:=h x (by simp)
  rw[Qg,QZ,QI]
  omega
theorem cut_to'(xs:List V)(m:Nat)(h:m≤xs.length):ZcW xs none (some (m:Int))=xs.take m:=by
 unfold ZcW
 have e:HT.sIx xs.length xs.length (some (m:Int))=m:=by
  unfold HT.sIx
  simp only
  rw[if_neg (by omega)]
  omega
 have e0:HT.sIx xs.length 0 none=0:=rfl
 rw[e,e0,List.drop_zero,Nat.sub_zero]
theorem cut_from'(xs:List V)(m:Nat)(h:m≤xs.length):ZcW xs (some (m:Int)) none=xs.drop m:=by
 unfold ZcW
 have e:HT.sIx xs.length 0 (some (m:Int))=m:=by
  unfold HT.sIx
  simp only
  rw[if_neg (by omega)]
  omega
 have e0:HT.sIx xs.length xs.length none=xs.length:=rfl
 rw[e,e0,QD (by rw[QL];omega)]
theorem AllK.rev(rs:List (Addr×List Str)):(rs.reverse.flatMap (·.2)).Perm (rs.flatMap (·.2)):=(List.reverse_perm rs).flatMap_right _
theorem ZaQ.sub{H:Hp}{r l:Addr}{rs rs':List (Addr×List Str)}(h:ZaQ H r rs)(hl:H l=none)(hm:∀x∈rs',x∈rs)(hlen:rs'.length≤60):ZaQ (upd H l (.lst (rs'.map fun x=>V.ref x.1))) l rs':=⟨Zd,hlen,fun x hx=>(h.same (Zj hl _)).lst x (hm x hx)⟩
theorem Zet{H:Hp}{n:Nat}:∀ks:List Str,F2 (IsD H (n+1)) (ks.map V.str) (ks.map V.str)
 | []=>.nil
 | k::ks=>.cons (ZgU (.inr (.inr (.inr ⟨k,rfl⟩)))) (Zet ks)
def Ziy(K:PySem.W.Frag):Sp:=fun vs H Q _=>∃ (a:Addr) (ns:List Int),vs=[.ref a]∧SqL K H a (ns.map V.int)∧ns.length≤63∧∀H',Q (.bl true) H'
theorem ZnD{f:Addr}{fd:FuncData}(F:Fun K "law" "law" ZbJ f fd)(T:Zak K mg cRow cMerge):Zdf P w K mg base CX0 18 f fd ["_law_script"] (Ziy K):=by
 have f_l_mix:Df P w K mg base 1 "_law_mix" ["_law_cell", "_law_k"] Zlg:=Zng T
 have f_l_left:Df P w K mg base 1 "_law_left" ["_law_script", "_law_k"] (Zlf K):=Zl1 T
 have f_l_pick:Df P w K mg base 2 "_law_pick" ["_law_left_here", "_law_many_here"] Zc1:=Zl7 T f_l_mix
 have f_l_stems:Df P w K mg base 3 "_law_stems" ["_law_left_here"] Zgv:=Zkw T f_l_pick
 have f_l_key:Df P w K mg base 3 "_law_key" ["_law_left_here", "_law_stems_here"] Zke:=ZnF T f_l_pick
 have f_l_keys:Df P w K mg base 4 "_law_keys" ["_law_left_here", "_law_stems_here", "_law_most"] Zih:=Zmf T f_l_pick f_l_key
 have f_l_many:Df P w K mg base 3 "_law_many" ["_law_left_here"] Zh2:=ZlZ T f_l_pick
 have f_l_row:Df P w K mg base 5 "_law_row" ["_law_left_here", "_law_stems_here", "_law_most"] ZhY:=Zmk T f_l_keys
 have f_l_rows:Df P w K mg base 6 "_law_rows" ["_law_left_here"] ZiU:=Zku T f_l_pick f_l_stems f_l_many f_l_row
 have f_alike_from:Df P w K mg base 1 "alike_from" ["one", "other", "far"] ZbQ:=Zfm T
 have f_alike:Df P w K mg base 2 "alike" ["one", "other"] Zex:=Zkb T f_alike_from
 have f_order_at:Df P w K mg base 1 "order_at" ["one", "other", "at"] Zey:=Zk4 T
 have f_liken:Df P w K mg base 3 "liken" ["one", "other"] Zge:=Zln T f_alike f_order_at
 have f_liken_from:Df P w K mg base 2 "liken_from" ["one", "other", "far"] ZcK:=Zfh T f_alike_from f_order_at
 have f_first_break:Df P w K mg base 4 "first_break" ["keys"] (Zj4 K):=Zlz T f_liken
 have f_refuse_break:Df P w K mg base 5 "refuse_break" ["number", "keys"] (ZeU K):=ZjY T f_first_break
 have f_alikes:Df P w K mg base 3 "alikes" ["row"] (Zfa K):=ZjP T f_alike
 have f_halves:Df P w K mg base 1 "halves" ["numbers"] (ZdL K true):=ZjM T
 have f_Row_to_go:=ZlU T (P:=P) (w:=w) (base:=base)
 have f_Row_head:=ZlH T f_Row_to_go
 have f_Row_init:=Zh3 T f_alikes
 have f_Merge_meet:=Zml T f_Row_head f_liken_from
 have f_Merge_play:=ZiI T f_Row_head f_halves f_Merge_meet 8
 have f_Merge_play_all:=ZgH T f_Merge_play
 have f_Merge_init:=Zfo T f_refuse_break f_Row_init f_Merge_play_all
 have f_Merge_coming:=ZjZ T f_Row_head
 have f_Merge_likenings:=ZgE T (P:=P) (w:=w) (base:=base)
 have f_Merge_looks:=Zlq T (P:=P) (w:=w) (base:=base)
 have f_way_up:Df P w K mg base 2 "way_up" ["numbers", "n"] ZkO:=ZnL T f_halves
 have f_matches_up:=ZhW T f_way_up
 have f_Merge_play_again:=Zkt T f_Merge_meet
 have f_Merge_send_out:=Zl9 T f_Row_head f_matches_up f_Merge_play_again
 have f_Merge_take:=ZmB T f_Merge_coming f_Merge_send_out
 have f_Merge_take_few:=ZnB T f_Merge_take
 have f_how_many:=Zhm T (P:=P) (w:=w) (base:=base)
 have f_counts:=ZjO T f_Merge_init f_Merge_take_few f_how_many f_Merge_likenings f_Merge_looks
 have f_Merge_left:=ZkA T f_Row_to_go
 have f_Row_copied:=Zjl T f_Row_init
 have f_Merge_twin:=Zmg T f_Merge_init f_Row_copied
 have f_merged:=ZjV T f_Merge_init f_Merge_take_few f_how_many
 have f_merged_keys:=Zkc T f_Merge_init f_Merge_take_few f_how_many
 have f_l_pieces:=ZjF T f_l_pick f_Merge_twin f_Merge_coming f_Merge_take f_Merge_take_few f_Merge_left f_Merge_likenings f_Merge_looks
 have f_l_same:Df P w K mg base 5 "_law_same" ["_law_found", "_law_due"] (ZkX 4):=ZiR T 4
 refine F.ok Zcn (fun vs H Q E h=>?_) (fun cdv A outer s H vs Q E hr h=>?_)
 ·obtain⟨a,ns,rfl,_⟩:=h
  rfl
 obtain⟨a,sc,rfl,hS,h63,q⟩:=h
 refine⟨_,#[Zg,#[ZcI,PassesOwn.never,#[Zbw,T.b.n_range,#[Za,#[Zab,Zbp,#[Zh],#[Zo,(Zdq K),(by rfl),T.b.n_len,QC,#[Za,#[Zcg,(slL K),‹0›,(@ZbS _),(@Zcm _ _ _ #[Zh])],#[Zf]]]],#[Zf]]],#[ZL,1,Zcn.nd],#[Zg,#[Zy,2,Zcn.nd,(Or.inl rfl),#[ZC,f_l_left,hr,#[Za,‹0›,#[Za,‹1›,#[Zf]]],(by rfl)]],#[Zg,#[Zy,3,Zcn.nd,(Or.inl rfl),#[ZC,f_l_rows,hr,#[Za,‹2›,#[Zf]],(by rfl)]],#[Zg,#[Za9,#[ZC,f_l_pieces,hr,#[Za,‹2›,#[Za,#[ZeK,f_Merge_init,hr,#[Za,‹3›,#[Zf]]],#[Zf]]],(by rfl)],#[gT,K,2,#[Zz,#[ZL,4,Zcn.nd],#[Zz,#[ZL,5,Zcn.nd],(@ZaW _)]]]],#[Zg,#[Zaw,(@PW.pt _ _ _ (@ZiB _ _ _ _ _ _ _ (@Zgu _ _ _ _ #[Zdz,#[ZC,f_l_same,hr,#[Za,#[Zbe,ZnA,#[iL,K,‹4›],(fun _ _ _ _=>#[cg,9,ZnA]),(fun _ _ _ _=>(@Za5 _)),(fun _ _ _ _=>#[Zcg,(slT K),#[cw,9,ZnA],(@ZbS _),(@Zcm _ _ _ #[Zh])])],#[Za,#[ZC,f_merged,hr,#[Za,‹3›,#[Zf]],(by rfl)],#[Zf]]],(by rfl)]]) (@Zgw _ _ _ _ (@Zgu _ _ _ _ #[Zdz,#[ZC,f_l_same,hr,#[Za,‹5›,#[Za,#[ZC,f_counts,hr,#[Za,‹3›,#[Zf]],(by rfl)],#[Zf]]],(by rfl)]])))),#[Zi,#[Zr,(@ZhB _ _ _ _)]],(@ZS _)],#[Zg,#[Zy,6,Zcn.nd,(Or.inl rfl),#[ZC,f_merged_keys,hr,#[Za,‹3›,#[Zf]],(by rfl)]],#[Zg,#[Zaw,(@Zgu _ _ _ _ #[Zdz,#[ZC,f_l_same,hr,#[Za,#[Zbe,Zj5,#[iL,K,‹4›],(fun _ _ _ _=>#[cg,9,Zj5]),(fun _ _ _ _=>(@Za5 _)),(fun _ _ _ _=>#[ZN,(ixT K),#[cw,9,Zj5],#[Zh]])],#[Za,‹6›,#[Zf]]],(by rfl)]]),#[Zi,#[Zr,(@ZhB _ _ _ _)]],(@ZS _)],#[Zg,#[Zy,7,Zcn.nd,(Or.inl rfl),#[ZC,f_l_pick,hr,#[Za,‹2›,#[Za,#[Zab,Zbp,#[Zo,(Zdq K),(by rfl),T.b.n_len,QC,#[Za,‹3›,#[Zf]]],#[Zh]],#[Zf]]],(by rfl)]],#[Zg,#[Zy,8,Zcn.nd,(Or.inl rfl),#[ZaX,#[Za,#[ZC,f_merged_keys,hr,#[Za,#[Zcg,(slL K),‹3›,(@ZbS _),(@Zcm _ _ _ ‹7›)],#[Zf]],(by rfl)],#[Za,#[ZC,f_merged_keys,hr,#[Za,#[Zcg,(slL K),‹3›,(@Zcm _ _ _ ‹7›),(@ZbS _)],#[Zf]],(by rfl)],#[Zf]]]]],#[Zi,#[Zaw,(@Zgu _ _ _ _ #[Zdz,#[ZC,f_l_same,hr,#[Za,#[ZaX,#[Za,#[ZC,f_merged_keys,hr,#[Za,(@Zje _ _ _ _ _ _ _ _ _ _ _ _ (Zpa K) ‹3› (@ZbS _) (@ZbS _) (@Zcm _ _ _ (@Zhx _ _ _ _ _ _ Ze4 #[Zh]))),#[Zf]],(by rfl)],#[Za,#[ZC,f_merged_keys,hr,#[Za,‹8›,#[Zf]],(by rfl)],#[Zf]]]],#[Za,#[ZaX,#[Za,‹6›,#[Za,‹6›,#[Zf]]]],#[Zf]]],(by rfl)]]),#[Zi,#[Zr,(@ZhB _ _ _ _)]],(@ZS _)]]]]]]]]]]],#[Zi,#[Zr,(@ZhB _ _ _ _)]]],?_⟩
 have hcl:=ZcC (sc.map V.int) none (some 4)
 have hlen:(sc.map V.int).length=sc.length:=by rw[Qa]
 refine⟨_,rfl,_,rfl,a,_,rfl,hS,fun e he=>⟨e,_,rfl,.inl (SqL.of Zd),_,_,rfl,rfl,_,rfl,by omega,by omega,?_⟩⟩
 have s1:Zu H (upd H e (.lst (ZcW (sc.map V.int) none (some 4)))):=Zj he _
 clear f_l_mix f_l_left f_l_pick f_l_stems f_l_key f_l_keys f_l_many f_l_row f_l_rows f_alike_from f_alike f_order_at f_liken f_liken_from f_first_break f_refuse_break f_alikes f_halves f_Row_to_go f_Row_head f_Row_init f_Merge_meet f_Merge_play f_Merge_play_all f_Merge_init f_Merge_coming f_Merge_likenings f_Merge_looks f_way_up f_matches_up f_Merge_play_again f_Merge_send_out f_Merge_take f_Merge_take_few f_how_many f_counts f_Merge_left f_Row_copied f_Merge_twin f_merged f_merged_keys f_l_pieces f_l_same
 refine Zc3 (fun i σ H2=>∃v1 v2 v3 v4 v5 v6 v7 v8:Option V,σ=[some (.ref a),v1,v2,v3,v4,v5,v6,v7,v8]∧Zu H H2) (xw8 _ _ _ _ _ _ _ _ ⟨rfl,s1⟩) ?_ ?_
 ·rintro ii σ H2 hi ⟨v1,v2,v3,v4,v5,v6,v7,v8,rfl,s2⟩
  have hi8:(ii:Int)<65:=by omega
  refine⟨_,rfl,_,rfl,a,sc,_,rfl,s2.seq hS,h63,by omega,by omega,fun p H3 hp L3 s3=>?_⟩
  have nHp:H p=none:=s2.free hp
  refine⟨_,rfl,p,0,rfl,L3,by decide,fun r rs c4 H4 hr0 hrs hxs h12 L4 a1 a2 B4=>?_⟩
  have nrp:r≠p:=by obtain⟨o,ho⟩:=L3.here;exact(Zb ho hr0).symm
  have hsrt:∀x∈rs,sortedS x.2=true:=fun x hx=>(hxs x hx).2.2.2.1
  have hsum:=Zk5 rs fun x hx=>(hxs x hx).2.2.2.2
  refine⟨_,rfl,_,rfl,fun m dx hm hdx nmd=>?_⟩
  have s5:Zu H4 (upd (upd H4 dx (.own m)) m (.ins cMerge dx [])):=fun b o hb=>by rw[Zc (Zb hb hm),Zc (Zb hb hdx)];exact hb
  have hm5:(upd (upd H4 dx (.own m)) m (.ins cMerge dx [])) m=some (.ins cMerge dx []):=Zd
  generalize upd (upd H4 dx (.own m)) m (.ins cMerge dx [])=H5 at s5 hm5 ⊢
  refine(xw4 m dx r rs ⟨rfl,hm5,hrs.same s5,hsrt,fun rd sd L st w0 k0 q0 H6 M6 hnew W6 S6 P6 fp6 k6=>⟨rfl,?_⟩⟩)
  have s46:Zu H4 H6:=fun b o hb=>k6 b o (s5 b o hb) (Zb hb hm)
  have fpH:∀b,Fp m rd sd L b→H4 b=none:=fun b hb=>by
   rcases fp6 b hb with z|z
   ·rw[z];exact hm
   ·exact s5.free z
  have ok6:=Zb8 8 (hdM L) st (Zs L) M6.up (QG (show (Zs L).length≤60 by unfold Zs;rw[Qa];exact M6.few) (by decide)) (by decide) S6
  have eP:=ZdP hnew
  have hl:=ZcO rs
  have nfp:¬ Fp m rd sd L p:=fun z=>by obtain⟨o,ho⟩:=L4.here;rw[fpH p z]at ho;cases ho
  refine⟨p,c4,⟨m,rd,sd,L,st,_,k0,q0,w0⟩,rfl,L4.same s46,by omega,⟨M6,W6,ok6⟩,by show (rs.length:Int)≤35;omega,by show Zax (Z3 L)≤20000;rw[eP,hl];omega,nfp,fun t fo t2 us P' k1 q1 c7 H7 htk hz ht hfo hus ht2 hfo0 L7 hc7 kp7=>?_⟩
  have kp47:∀b o,H4 b=some o→b≠p→H7 b=some o:=fun b o hb hn=>kp7 b o (s46 b o hb) hn fun z=>by rw[fpH b z]at hb;cases hb
  have R7:ZaQ H7 r rs:=⟨kp47 _ _ hrs.at' nrp,hrs.few,fun x hx=>let ⟨g1,g2⟩:=hrs.lst x hx;⟨kp47 _ _ g1 (hxs x hx).2.2.1,g2⟩⟩
  refine⟨t,_,rfl,SqT.of ht,rfl,_,_,rfl,_,_,rfl,rfl,?_⟩
  replace htk:Z6 (ZcX rs) (us.map (·.2)) P' k1 q1:=by rw[← eP];exact htk
  have hul:us.length=(rs.map fun x=>x.2.length).sum:=by
   have:=htk.left (Zef rs)
   rw[Qa]at this
   omega
  have A0:=AllK.of htk (by rw[Qa];exact hul) hsrt
  have P6':ZbF (hdP (ZcX rs)) 8 (Zas (ZcX rs)) k0 q0:=by rw[← eP,← Zbf,← ZU];exact P6
  have nfop:fo≠p:=fun z=>by obtain⟨o,ho⟩:=(L4.same s46).here;rw[z,ho]at hfo0;cases hfo0
  have s07:Zu H H7:=fun b u hb=>kp47 b u (B4 b u (s3 b u (s2 b u hb)) (Zb hb nHp)) (Zb hb nHp)
  have ht2':H7 t2=some (.tup [.int (k0+k1),.int (q0+q1)]):=ht2
  clear kp47 kp7 ht2 ht fpH fp6 k6 s5 hm5 hnew W6 S6 P6 M6 ok6 nfp hm hdx nmd s46 hfo0 eP hrs L4 B4 s2 s3 hp L3 hr0
  refine⟨_,rfl,fo,rfl,⟨_,SqL.of hfo⟩,fun D hD=>?_⟩
  refine Zcc (K:=K) (a:=fo) (xs:=us.map fun u=>V.ref u.1) (fun i zs σ H8=>(∃v:Option V,σ=[some (.ref a),some (.int (0+(ii:Int))),some (.ref p),some (.ref r),some (.ref fo),some (.ref t2),v6,v7,v8,v])∧(∃ws:List (Addr×ZaE),zs=(ws.map fun u=>V.ref u.1)∧ws.map (·.2)=(us.take i).map (·.2)∧∀u∈ws,u.1≠D∧H8 u.1=some (.tup [.int u.2.1,.int (u.2.2.1:Int)]))∧i≤us.length∧H8 D=some (.lst zs)∧Zu H7 H8) ?_ (fun _ _ _ _ h=>SqL.of (h.2.2.2.2 _ _ hfo)) ?_ ?_
  ·exact⟨⟨none,rfl⟩,⟨[],rfl,rfl,fun u h=>by cases h⟩,Qr _,Zd,Zj hD _⟩
  ·rintro i y zs σ H8 hy ⟨⟨v,rfl⟩,⟨ws,rfl,hw,hws⟩,hi,hD8,s8⟩
   rw[Qs]at hy
   cases hz:us[i]? with
   | none=>rw[hz]at hy;cases hy
   | some u =>
   rw[hz]at hy
   cases hy
   have hil:i<us.length:=(Qf.mp hz).1
   have hwl:ws.length=i:=by
    have:=congrArg List.length hw
    rw[Qa,Qa,Qw]at this
    omega
   refine⟨_,rfl,_,rfl,u.1,_,rfl,SqT.of (s8 _ _ (hus u (Qy hz))),(fun z=>absurd z.2 (show ¬ (2:Nat)=3 by decide)),fun n hn0=>?_⟩
   have sn:=Zj hn0 (.tup [.int u.2.1,.int (u.2.2.1:Int)])
   have nDn:D≠n:=Zb hD8 hn0
   refine⟨sn _ _ hD8,(by rw[Qa,hwl,sizeLine_eq];omega),⟨_,rfl⟩,⟨ws++[(n,u.2)],by rw[Qe];rfl,?_,fun x hx=>?_⟩,hil,Zd,fun b o hb=>?_⟩
   ·rw[QK,hz,Qe,Qe,hw];rfl
   ·rcases Qq.mp hx with hx|hx
    ·obtain⟨g1,g3⟩:=hws x hx
     exact⟨g1,by rw[Zc g1];exact sn _ _ g3⟩
    ·rw[Ql.mp hx]
     exact⟨nDn.symm,by rw[Zc nDn.symm];exact Zd⟩
   ·rw[Zc (Zb hb hD)];exact sn _ _ (s8 b o hb)
  rintro zs σ H8 ⟨⟨v,rfl⟩,⟨ws,rfl,hw,hws⟩,_,hD8,s8⟩
  rw[Qa,QD (Qd _)]at hw
  refine⟨_,rfl,r,rs,rfl,R7.same s8,hsrt,fun mt um P9 k9 q9 H9 tk9 hl9 hmt hum _ _ s9=>?_⟩
  obtain⟨e9,_⟩:=htk.one (Zef rs) tk9 (by rw[Qa,Qa,hul,hl9])
  have hwl:(ws.map fun u=>V.ref u.1).length≤1000:=by
   have:=congrArg List.length hw
   rw[Qa,Qa]at this
   rw[Qa];omega
  refine⟨_,_,rfl,ZdG (s9 _ _ hD8) hmt hwl (Zhr ws um (hw.trans e9) (fun u hu=>s9 _ _ (hws u hu).2) hum),fun H10 s10=>⟨_,rfl,Zb5 ?_⟩⟩
  have s710:=(s8.trans s9).trans s10
  clear hw hws hD8 s8 s9 s10 hmt hum hwl tk9 hl9 e9 hD
  refine⟨_,rfl,_,rfl,r,rs,rfl,R7.same s710,hsrt,fun tc k2 q2 k3 q3 H11 pl11 en11 htc s11=>?_⟩
  obtain⟨ek0,eq0⟩:=P6'.one pl11
  have hends:=htk.ends (.stop (ZhN (by rw[htk.num];exact Zef rs) hz))
  rw[Q2,Q2]at hends
  obtain⟨ek1,eq1⟩:=hends.one (Zef rs) en11
  subst ek0
  subst eq0
  subst ek1
  subst eq1
  refine⟨_,_,rfl,ZiP (s11 _ _ (s710 _ _ ht2')) htc (by show 2≤1000;decide) (.cons (Zev _) (.cons (Zev _) .nil)),fun H12 s12=>⟨_,rfl,Zb5 ?_⟩⟩
  have s712:=(s710.trans s11).trans s12
  clear s710 s11 s12 htc hends pl11 en11
  refine⟨_,rfl,r,rs,rfl,R7.same s712,hsrt,fun kt ts P13 k13 q13 H13 tk13 hl13 hkt hkt0 s13=>?_⟩
  have A1:=AllK.of tk13 hl13 hsrt
  have eK:(us.map (·.2)).map (·.2.2)=ts.map (·.2.2):=A0.one A1 (List.Perm.refl _)
  have s713:=s712.trans s13
  have nktp:kt≠p:=fun z=>by obtain⟨o,ho⟩:=(L7.same s712).here;rw[z,ho]at hkt0;cases hkt0
  clear s712 s13
  have hfo13:=s713 _ _ hfo
  refine⟨_,rfl,fo,rfl,⟨_,SqL.of hfo13⟩,fun D hD=>?_⟩
  refine Zcc (K:=K) (a:=fo) (xs:=us.map fun u=>V.ref u.1) (fun i zs σ H8=>(∃v:Option V,σ=[some (.ref a),some (.int (0+(ii:Int))),some (.ref p),some (.ref r),some (.ref fo),some (.ref t2),some (.ref kt),v7,v8,v])∧zs=((us.take i).map (·.2.2.2)).map V.str∧i≤us.length∧H8 D=some (.lst zs)∧Zu H13 H8) ?_ (fun _ _ _ _ h=>SqL.of (h.2.2.2.2 _ _ hfo13)) ?_ ?_
  ·exact⟨⟨none,rfl⟩,rfl,Qr _,Zd,Zj hD _⟩
  ·rintro i y zs σ H8 hy ⟨⟨v,rfl⟩,rfl,hi,hD8,s8⟩
   rw[Qs]at hy
   cases hz:us[i]? with
   | none=>rw[hz]at hy;cases hy
   | some u =>
   rw[hz]at hy
   cases hy
   have hil:i<us.length:=(Qf.mp hz).1
   refine⟨_,rfl,xw4 u.1 _ _ _ ⟨rfl,rfl,SqT.of (s8 _ _ (s713 _ _ (hus u (Qy hz)))),rfl,hD8,(by rw[Qa,Qa,Qw,sizeLine_eq];omega),⟨_,rfl⟩,?_,hil,Zd,fun b o hb=>?_⟩⟩
   ·rw[QK,hz,Qe,Qe];rfl
   ·rw[Zc (Zb hb hD)];exact s8 b o hb
  rintro zs σ H14 ⟨⟨v,rfl⟩,rfl,_,hD14,s14⟩
  rw[Qa,QD (Qd _),show us.map (·.2.2.2)=(us.map (·.2)).map (·.2.2) by rw[QF];rfl,eK]at hD14
  have hlK:((ts.map (·.2.2)).map V.str).length≤1000:=by rw[Qa,Qa,hl13];omega
  refine⟨_,rfl,_,_,rfl,ZdG hD14 (s14 _ _ hkt) hlK (Zet _),fun H15 s15=>⟨_,rfl,Zb5 ?_⟩⟩
  have s715:=s713.trans (s14.trans s15)
  have hkt15:=s15 _ _ (s14 _ _ hkt)
  clear s713 s14 s15 hD14 hkt hfo13 hfo hus hkt0 hD
  generalize ts.map (·.2.2)=ks at A1 hlK hkt15 ⊢
  have R15:=R7.same s715
  have L15:=L7.same s715
  have hrl:(rs.map fun x=>V.ref x.1).length=rs.length:=by rw[Qa]
  refine⟨_,rfl,_,rfl,r,_,rfl,.inl (SqL.of R15.at'),_,_,rfl,rfl,p,c7,_,rfl,L15,by omega,by omega,by omega,fun pk H16 pk0 pkm L16 B16=>?_⟩
  obtain⟨cn,rfl⟩:∃cn:Nat,pk=(cn:Int):=⟨pk.toNat,by omega⟩
  have hcn:cn≤(rs.map fun x=>V.ref x.1).length:=by omega
  have hkt16:=B16 _ _ hkt15 nktp
  have R16:ZaQ H16 r rs:=⟨B16 _ _ R15.at' nrp,R15.few,fun x hx=>let ⟨g1,g2⟩:=R15.lst x hx;⟨B16 _ _ g1 (hxs x hx).2.2.1,g2⟩⟩
  have hz16:∀x∈rs,∀s∈x.2,s.length≤1000∧AZ s:=fun x hx=>(R16.lst x hx).2.2
  have s016:Zu H H16:=fun b o hb=>B16 b o (s715 b o (s07 b o hb)) (Zb hb nHp)
  clear R15 L15 B16 hkt15 s715 R7 L7 s07 L16 pk0 pkm
  have hT:∀x∈rs.take cn,x∈rs:=fun x hx=>Qaj hx
  have hDr:∀x∈rs.drop cn,x∈rs:=fun x hx=>Qak hx
  have hTl:(rs.take cn).length≤60:=by rw[Qw];omega
  have hDl:(rs.drop cn).length≤60:=by rw[QL];omega
  have eT:ZcW (rs.map fun x=>V.ref x.1) none (some (cn:Int))=(rs.take cn).map fun x=>V.ref x.1:=by rw[cut_to' _ _ hcn,List.map_take]
  have eD:ZcW (rs.map fun x=>V.ref x.1) (some (cn:Int)) none=(rs.drop cn).map fun x=>V.ref x.1:=by rw[cut_from' _ _ hcn,List.map_drop]
  refine⟨_,rfl,_,rfl,_,rfl,r,_,rfl,SqL.of R16.at',fun l1 hl1=>?_⟩
  rw[eT]
  have R17:=R16.sub hl1 hT hTl
  have s17:=Zj hl1 (.lst ((rs.take cn).map fun x=>V.ref x.1))
  refine⟨l1,rs.take cn,rfl,R17,fun x hx=>hsrt x (hT x hx),fun t1 ts1 P1 ka qa H18 tk18 hl18 ht1 _ s18=>?_⟩
  have A2:=AllK.of tk18 hl18 fun x hx=>hsrt x (hT x hx)
  have s1618:=s17.trans s18
  generalize ts1.map (·.2.2)=ks1 at A2 ht1
  refine⟨_,rfl,_,rfl,_,rfl,r,_,rfl,SqL.of (s1618 _ _ R16.at'),fun l2 hl2=>?_⟩
  rw[eD]
  have R19:=(R16.same s1618).sub hl2 hDr hDl
  have s19:=Zj hl2 (.lst ((rs.drop cn).map fun x=>V.ref x.1))
  refine⟨l2,rs.drop cn,rfl,R19,fun x hx=>hsrt x (hDr x hx),fun t2' ts2 P2 kb qb H20 tk20 hl20 ht2 _ s20=>?_⟩
  have A3:=AllK.of tk20 hl20 fun x hx=>hsrt x (hDr x hx)
  have s1620:=s1618.trans (s19.trans s20)
  have ht1':=s20 _ _ (s19 _ _ ht1)
  generalize ts2.map (·.2.2)=ks2 at A3 ht2
  refine⟨(by show 2≤sizeLine;decide),fun bo hbo=>?_⟩
  have s21:=Zj hbo (.lst [.ref t1,.ref t2'])
  have hbo21:(upd H20 bo (.lst [.ref t1,.ref t2'])) bo=some (.lst [.ref t1,.ref t2']):=Zd
  have ht1b:=s21 _ _ ht1'
  have ht2b:=s21 _ _ ht2
  have s1621:=s1620.trans s21
  generalize upd H20 bo (.lst [.ref t1,.ref t2'])=H21 at s1621 hbo21 ht1b ht2b ⊢
  have s1221:Zu H16 H21:=s1621
  have eR:Ze6 (rs.map fun x=>V.ref x.1) none none (-1)=rs.reverse.map fun x=>V.ref x.1:=by rw[ZjR,List.map_reverse]
  have hRv:∀x∈rs.reverse,x∈rs:=fun x hx=>QaE.mp hx
  have hRl:rs.reverse.length≤60:=by rw[List.length_reverse];omega
  refine⟨_,rfl,_,rfl,_,rfl,_,rfl,r,_,rfl,SqL.of (s1621 _ _ R16.at'),by decide,fun l3 hl3=>?_⟩
  rw[eR]
  have R22:=(R16.same s1621).sub hl3 hRv hRl
  have s22:=Zj hl3 (.lst (rs.reverse.map fun x=>V.ref x.1))
  refine⟨l3,rs.reverse,rfl,R22,fun x hx=>hsrt x (hRv x hx),fun t3 ts3 P3 kc qc H23 tk23 hl23 ht3 _ s23=>?_⟩
  have A4:=AllK.of tk23 hl23 fun x hx=>hsrt x (hRv x hx)
  have s2123:=s22.trans s23
  generalize ts3.map (·.2.2)=ks3 at A4 ht3
  have n1:=A2.len
  have n2:=A3.len
  have n12:(rs.map fun x=>x.2.length).sum=((rs.take cn).map fun x=>x.2.length).sum+((rs.drop cn).map fun x=>x.2.length).sum:=by rw[← List.sum_append,← Qe,Qah]
  have z1:=A2.az fun x hx=>hz16 x (hT x hx)
  have z2:=A3.az fun x hx=>hz16 x (hDr x hx)
  have R23:ZaQ H23 bo [(t1,ks1),(t2',ks2)]:=⟨s2123 _ _ hbo21,by show 2≤60;decide,fun x hx=>by
   rcases QA.mp hx with rfl|hx
   ·exact⟨s2123 _ _ ht1b,by show ks1.length≤_;omega,z1⟩
   ·rw[Ql.mp hx]
    exact⟨s2123 _ _ ht2b,by show ks2.length≤_;omega,z2⟩⟩
  have srtB:∀x∈[(t1,ks1),(t2',ks2)],sortedS x.2=true:=fun x hx=>by
   rcases QA.mp hx with rfl|hx
   ·exact A2.2
   ·rw[Ql.mp hx]
    exact A3.2
  refine⟨_,rfl,bo,_,rfl,R23,srtB,fun t4 ts4 P4 kd qd H24 tk24 hl24 ht4 _ s24=>?_⟩
  have A5:=AllK.of tk24 hl24 srtB
  generalize ts4.map (·.2.2)=ks4 at A5 ht4
  have e3:ks3=ks:=A4.one A1 (AllK.rev rs)
  have e4:ks4=ks:=A5.one A1 (by
   show (ks1++(ks2++[])).Perm _
   rw[Qar]
   refine(A2.1.append A3.1).trans ?_
   rw[← List.flatMap_append,Qah])
  subst e3
  subst e4
  refine⟨(by show 2≤sizeLine;decide),fun d1 hd1=>⟨_,rfl,_,rfl,(by show 2≤sizeLine;decide),fun d2 hd2=>?_⟩⟩
  have s25:=Zj hd1 (.lst [.ref t3,.ref t4])
  have s26:=Zj hd2 (.lst [.ref kt,.ref kt])
  have hd1':=s26 _ _ (Zd (H:=H24) (a:=d1) (o:=.lst [.ref t3,.ref t4]))
  have s2426:=s25.trans s26
  have ht3':=s2426 _ _ (s24 _ _ ht3)
  have ht4':=s2426 _ _ ht4
  have hkt':=s2426 _ _ (s24 _ _ (s2123 _ _ (s1621 _ _ hkt16)))
  refine⟨_,_,rfl,ZdG hd1' Zd (by show 2≤1000;decide) (.cons (ZdG ht3' hkt' hlK (Zet _)) (.cons (ZdG ht4' hkt' hlK (Zet _)) .nil)),fun H27 s27=>⟨_,rfl,Zb5 ?_⟩⟩
  exact(xw8 _ _ _ _ _ _ _ _ ⟨rfl,s016.trans (s1621.trans (s2123.trans (s24.trans (s2426.trans s27))))⟩)
 ·rintro σ H2 ⟨v1,v2,v3,v4,v5,v6,v7,v8,rfl,s2⟩
  exact q H2
end
theorem Z4{K:PySem.W.Frag}{h:Heap}{mg:Str→Option Value}{x:Str}{st:Stmt}{ps:List Str}{f:Addr}{od an:Option Addr}{sl:Array (Option Value)}{oc kV dc pm cd ct:Value}(X:K.In h)(G:h.Ns mainGlobals mg)
  (a:PySem.W.nsIn K mainGlobals x=some (some (.ref f))) (l:K.lookup f=some ⟨oc,od,.func (PySem.W.fnOf x x (Zn st) (Zl st) (Ze st) .none kV dc pm an cd ct),sl⟩) (c:PySem.W.codeIn K cd x=true) (k:PySem.W.keepIn K (.ref f)=true)
  (hb:∀ (kV doc pm:Value) (an:Option Addr) (cdv ct:Value) (us:List Value),us.length=ps.length→bindArgs (PySem.W.fnOf x x (Zn st) (Zl st) (Ze st) .none kV doc pm an cdv ct) ⟨us,[]⟩=pure (ps.zip us)):Top K mg x st ps :=
 ⟨_,_,ZG (st:=st) l c k,PySem.W.mg_of X G a,(ZG (st:=st) l c k).binds hb⟩
theorem Zca:∀us:List Value,us.length=1→∃a0,us=[a0]
 | [a0],_=>⟨a0,rfl⟩
theorem Zdg:∀us:List Value,us.length=2→∃a0 a1,us=[a0,a1]
 | [a0,a1],_=>⟨a0,a1,rfl⟩
theorem Zi2:∀us:List Value,us.length=3→∃a0 a1 a2,us=[a0,a1,a2]
 | [a0,a1,a2],_=>⟨a0,a1,a2,rfl⟩
theorem Zpu:∀us:List Value,us.length=4→∃a0 a1 a2 a3,us=[a0,a1,a2,a3]
 | [a0,a1,a2,a3],_=>⟨a0,a1,a2,a3,rfl⟩
theorem all_mk{l:PySem.W.OpenLaw}{w:World}{K:PySem.W.Frag}{h:Heap}{mg:Str→Option Value}{fa:Addr}(X:K.In h)(G:h.Ns mainGlobals mg)(hfa:mg "law" = some (.ref fa))
  {cRow:Addr}
  {cMerge:Addr}
  (aCRow:#[Xns,K,"Row",cRow]) (pgRow:PySem.W.plainGet K cRow Str.empty=true) (hdRow:PySem.W.hasDictIn K cRow=true) (poRow:PySem.W.plainOver K cRow=true) (saRow:PySem.W.findIn K (.ref cRow) "__setattr__" = some (some (.builtin "object.__setattr__"))) (mkRow:PySem.W.makesIn K cRow=true) (kcRow:#[Xki,K,cRow])
  (nARow_all_keys:PySem.W.findIn K (.ref cRow) "all_keys" = some none)
  (nARow_fars:PySem.W.findIn K (.ref cRow) "fars" = some none)
  (nARow_gone:PySem.W.findIn K (.ref cRow) "gone" = some none)
  (aCMerge:#[Xns,K,"Merge",cMerge]) (pgMerge:PySem.W.plainGet K cMerge Str.empty=true) (hdMerge:PySem.W.hasDictIn K cMerge=true) (poMerge:PySem.W.plainOver K cMerge=true) (saMerge:PySem.W.findIn K (.ref cMerge) "__setattr__" = some (some (.builtin "object.__setattr__"))) (mkMerge:PySem.W.makesIn K cMerge=true) (kcMerge:#[Xki,K,cMerge])
  (nAMerge_best:PySem.W.findIn K (.ref cMerge) "best" = some none)
  (nAMerge_likened:PySem.W.findIn K (.ref cMerge) "likened" = some none)
  (nAMerge_looked:PySem.W.findIn K (.ref cMerge) "looked" = some none)
  (nAMerge_next_number:PySem.W.findIn K (.ref cMerge) "next_number" = some none)
  (nAMerge_rows:PySem.W.findIn K (.ref cMerge) "rows" = some none)
  (nAMerge_stays:PySem.W.findIn K (.ref cMerge) "stays" = some none)
  (a0:#[Xns,K,"halves",f0]) (l0:#[Xlk,K,f0,oc0,od0,"halves","halves",Zce,kV0,dc0,pm0,an0,cd0,ct0,sl0]) (c0:#[Xci,K,cd0,"halves"]) (k0:#[Xki,K,f0])
  (a1:#[Xns,K,"way_up",f1]) (l1:#[Xlk,K,f1,oc1,od1,"way_up","way_up",Zb7,kV1,dc1,pm1,an1,cd1,ct1,sl1]) (c1:#[Xci,K,cd1,"way_up"]) (k1:#[Xki,K,f1])
  (a2:#[Xns,K,"alike",f2]) (l2:#[Xlk,K,f2,oc2,od2,"alike","alike",ZcF,kV2,dc2,pm2,an2,cd2,ct2,sl2]) (c2:#[Xci,K,cd2,"alike"]) (k2:#[Xki,K,f2])
  (a3:#[Xns,K,"liken",f3]) (l3:#[Xlk,K,f3,oc3,od3,"liken","liken",ZcT,kV3,dc3,pm3,an3,cd3,ct3,sl3]) (c3:#[Xci,K,cd3,"liken"]) (k3:#[Xki,K,f3])
  (a4:#[Xns,K,"liken_from",f4]) (l4:#[Xlk,K,f4,oc4,od4,"liken_from","liken_from",ZaS,kV4,dc4,pm4,an4,cd4,ct4,sl4]) (c4:#[Xci,K,cd4,"liken_from"]) (k4:#[Xki,K,f4])
  (a5:#[Xns,K,"alike_from",f5]) (l5:#[Xlk,K,f5,oc5,od5,"alike_from","alike_from",ZaU,kV5,dc5,pm5,an5,cd5,ct5,sl5]) (c5:#[Xci,K,cd5,"alike_from"]) (k5:#[Xki,K,f5])
  (a6:#[Xns,K,"order_at",f6]) (l6:#[Xlk,K,f6,oc6,od6,"order_at","order_at",Zbh,kV6,dc6,pm6,an6,cd6,ct6,sl6]) (c6:#[Xci,K,cd6,"order_at"]) (k6:#[Xki,K,f6])
  (a7:#[Xns,K,"first_break",f7]) (l7:#[Xlk,K,f7,oc7,od7,"first_break","first_break",ZaK,kV7,dc7,pm7,an7,cd7,ct7,sl7]) (c7:#[Xci,K,cd7,"first_break"]) (k7:#[Xki,K,f7])
  (a8:#[Xns,K,"alikes",f8]) (l8:#[Xlk,K,f8,oc8,od8,"alikes","alikes",ZbW,kV8,dc8,pm8,an8,cd8,ct8,sl8]) (c8:#[Xci,K,cd8,"alikes"]) (k8:#[Xki,K,f8])
  (a9:#[Xns,K,"refuse_break",f9]) (l9:#[Xlk,K,f9,oc9,od9,"refuse_break","refuse_break",ZaD,kV9,dc9,pm9,an9,cd9,ct9,sl9]) (c9:#[Xci,K,cd9,"refuse_break"]) (k9:#[Xki,K,f9])
  (a10:#[Xns,K,"matches_up",f10]) (l10:#[Xlk,K,f10,oc10,od10,"matches_up","matches_up",ZaV,kV10,dc10,pm10,an10,cd10,ct10,sl10]) (c10:#[Xci,K,cd10,"matches_up"]) (k10:#[Xki,K,f10])
  (a11:#[Xns,K,"merged",f11]) (l11:#[Xlk,K,f11,oc11,od11,"merged","merged",ZbC,kV11,dc11,pm11,an11,cd11,ct11,sl11]) (c11:#[Xci,K,cd11,"merged"]) (k11:#[Xki,K,f11])
  (a12:#[Xns,K,"merged_keys",f12]) (l12:#[Xlk,K,f12,oc12,od12,"merged_keys","merged_keys",Zav,kV12,dc12,pm12,an12,cd12,ct12,sl12]) (c12:#[Xci,K,cd12,"merged_keys"]) (k12:#[Xki,K,f12])
  (a13:#[Xns,K,"counts",f13]) (l13:#[Xlk,K,f13,oc13,od13,"counts","counts",ZbY,kV13,dc13,pm13,an13,cd13,ct13,sl13]) (c13:#[Xci,K,cd13,"counts"]) (k13:#[Xki,K,f13])
  (a14:#[Xns,K,"how_many",f14]) (l14:#[Xlk,K,f14,oc14,od14,"how_many","how_many",ZaY,kV14,dc14,pm14,an14,cd14,ct14,sl14]) (c14:#[Xci,K,cd14,"how_many"]) (k14:#[Xki,K,f14])
  (a15:#[Xns,K,"_law_mix",f15]) (l15:#[Xlk,K,f15,oc15,od15,"_law_mix","_law_mix",ZcP,kV15,dc15,pm15,an15,cd15,ct15,sl15]) (c15:#[Xci,K,cd15,"_law_mix"]) (k15:#[Xki,K,f15])
  (a16:#[Xns,K,"_law_left",f16]) (l16:#[Xlk,K,f16,oc16,od16,"_law_left","_law_left",Zci,kV16,dc16,pm16,an16,cd16,ct16,sl16]) (c16:#[Xci,K,cd16,"_law_left"]) (k16:#[Xki,K,f16])
  (a17:#[Xns,K,"_law_pick",f17]) (l17:#[Xlk,K,f17,oc17,od17,"_law_pick","_law_pick",Zb0,kV17,dc17,pm17,an17,cd17,ct17,sl17]) (c17:#[Xci,K,cd17,"_law_pick"]) (k17:#[Xki,K,f17])
  (a18:#[Xns,K,"_law_stems",f18]) (l18:#[Xlk,K,f18,oc18,od18,"_law_stems","_law_stems",Zbb,kV18,dc18,pm18,an18,cd18,ct18,sl18]) (c18:#[Xci,K,cd18,"_law_stems"]) (k18:#[Xki,K,f18])
  (a19:#[Xns,K,"_law_key",f19]) (l19:#[Xlk,K,f19,oc19,od19,"_law_key","_law_key",ZbX,kV19,dc19,pm19,an19,cd19,ct19,sl19]) (c19:#[Xci,K,cd19,"_law_key"]) (k19:#[Xki,K,f19])
  (a20:#[Xns,K,"_law_keys",f20]) (l20:#[Xlk,K,f20,oc20,od20,"_law_keys","_law_keys",Zb4,kV20,dc20,pm20,an20,cd20,ct20,sl20]) (c20:#[Xci,K,cd20,"_law_keys"]) (k20:#[Xki,K,f20])
  (a21:#[Xns,K,"_law_row",f21]) (l21:#[Xlk,K,f21,oc21,od21,"_law_row","_law_row",ZcM,kV21,dc21,pm21,an21,cd21,ct21,sl21]) (c21:#[Xci,K,cd21,"_law_row"]) (k21:#[Xki,K,f21])
  (a22:#[Xns,K,"_law_many",f22]) (l22:#[Xlk,K,f22,oc22,od22,"_law_many","_law_many",Zck,kV22,dc22,pm22,an22,cd22,ct22,sl22]) (c22:#[Xci,K,cd22,"_law_many"]) (k22:#[Xki,K,f22])
  (a23:#[Xns,K,"_law_rows",f23]) (l23:#[Xlk,K,f23,oc23,od23,"_law_rows","_law_rows",Zbz,kV23,dc23,pm23,an23,cd23,ct23,sl23]) (c23:#[Xci,K,cd23,"_law_rows"]) (k23:#[Xki,K,f23])
  (a24:#[Xns,K,"_law_same",f24]) (l24:#[Xlk,K,f24,oc24,od24,"_law_same","_law_same",Zbv,kV24,dc24,pm24,an24,cd24,ct24,sl24]) (c24:#[Xci,K,cd24,"_law_same"]) (k24:#[Xki,K,f24])
  (a25:#[Xns,K,"_law_pieces",f25]) (l25:#[Xlk,K,f25,oc25,od25,"_law_pieces","_law_pieces",Zbk,kV25,dc25,pm25,an25,cd25,ct25,sl25]) (c25:#[Xci,K,cd25,"_law_pieces"]) (k25:#[Xki,K,f25])
  (a26:#[Xns,K,"law",f26]) (l26:#[Xlk,K,f26,oc26,od26,"law","law",ZbJ,kV26,dc26,pm26,an26,cd26,ct26,sl26]) (c26:#[Xci,K,cd26,"law"]) (k26:#[Xki,K,f26])
  (a27:#[Xfi,K,cRow,"__init__",f27]) (i27:#[Xif,K,f27]) (l27:#[Xlk,K,f27,oc27,od27,"__init__","Row.__init__",ZaN,kV27,dc27,pm27,an27,cd27,ct27,sl27]) (c27:#[Xci,K,cd27,"Row.__init__"]) (k27:#[Xki,K,f27])
  (a28:#[Xfi,K,cRow,"copied",f28]) (i28:#[Xif,K,f28]) (l28:#[Xlk,K,f28,oc28,od28,"copied","Row.copied",Zap,kV28,dc28,pm28,an28,cd28,ct28,sl28]) (c28:#[Xci,K,cd28,"Row.copied"]) (k28:#[Xki,K,f28])
  (a29:#[Xfi,K,cRow,"to_go",f29]) (i29:#[Xif,K,f29]) (l29:#[Xlk,K,f29,oc29,od29,"to_go","Row.to_go",ZaB,kV29,dc29,pm29,an29,cd29,ct29,sl29]) (c29:#[Xci,K,cd29,"Row.to_go"]) (k29:#[Xki,K,f29])
  (a30:#[Xfi,K,cRow,"head",f30]) (i30:#[Xif,K,f30]) (l30:#[Xlk,K,f30,oc30,od30,"head","Row.head",ZaM,kV30,dc30,pm30,an30,cd30,ct30,sl30]) (c30:#[Xci,K,cd30,"Row.head"]) (k30:#[Xki,K,f30])
  (a31:#[Xfi,K,cMerge,"__init__",f31]) (i31:#[Xif,K,f31]) (l31:#[Xlk,K,f31,oc31,od31,"__init__","Merge.__init__",Zar,kV31,dc31,pm31,an31,cd31,ct31,sl31]) (c31:#[Xci,K,cd31,"Merge.__init__"]) (k31:#[Xki,K,f31])
  (a32:#[Xfi,K,cMerge,"coming",f32]) (i32:#[Xif,K,f32]) (l32:#[Xlk,K,f32,oc32,od32,"coming","Merge.coming",Zaa,kV32,dc32,pm32,an32,cd32,ct32,sl32]) (c32:#[Xci,K,cd32,"Merge.coming"]) (k32:#[Xki,K,f32])
  (a33:#[Xfi,K,cMerge,"take",f33]) (i33:#[Xif,K,f33]) (l33:#[Xlk,K,f33,oc33,od33,"take","Merge.take",Zat,kV33,dc33,pm33,an33,cd33,ct33,sl33]) (c33:#[Xci,K,cd33,"Merge.take"]) (k33:#[Xki,K,f33])
  (a34:#[Xfi,K,cMerge,"take_few",f34]) (i34:#[Xif,K,f34]) (l34:#[Xlk,K,f34,oc34,od34,"take_few","Merge.take_few",ZW,kV34,dc34,pm34,an34,cd34,ct34,sl34]) (c34:#[Xci,K,cd34,"Merge.take_few"]) (k34:#[Xki,K,f34])
  (a35:#[Xfi,K,cMerge,"left",f35]) (i35:#[Xif,K,f35]) (l35:#[Xlk,K,f35,oc35,od35,"left","Merge.left",Zag,kV35,dc35,pm35,an35,cd35,ct35,sl35]) (c35:#[Xci,K,cd35,"Merge.left"]) (k35:#[Xki,K,f35])
  (a36:#[Xfi,K,cMerge,"likenings",f36]) (i36:#[Xif,K,f36]) (l36:#[Xlk,K,f36,oc36,od36,"likenings","Merge.likenings",ZP,kV36,dc36,pm36,an36,cd36,ct36,sl36]) (c36:#[Xci,K,cd36,"Merge.likenings"]) (k36:#[Xki,K,f36])
  (a37:#[Xfi,K,cMerge,"looks",f37]) (i37:#[Xif,K,f37]) (l37:#[Xlk,K,f37,oc37,od37,"looks","Merge.looks",Zah,kV37,dc37,pm37,an37,cd37,ct37,sl37]) (c37:#[Xci,K,cd37,"Merge.looks"]) (k37:#[Xki,K,f37])
  (a38:#[Xfi,K,cMerge,"twin",f38]) (i38:#[Xif,K,f38]) (l38:#[Xlk,K,f38,oc38,od38,"twin","Merge.twin",Zae,kV38,dc38,pm38,an38,cd38,ct38,sl38]) (c38:#[Xci,K,cd38,"Merge.twin"]) (k38:#[Xki,K,f38])
  (a39:#[Xfi,K,cMerge,"play_all",f39]) (i39:#[Xif,K,f39]) (l39:#[Xlk,K,f39,oc39,od39,"play_all","Merge.play_all",ZV,kV39,dc39,pm39,an39,cd39,ct39,sl39]) (c39:#[Xci,K,cd39,"Merge.play_all"]) (k39:#[Xki,K,f39])
  (a40:#[Xfi,K,cMerge,"play",f40]) (i40:#[Xif,K,f40]) (l40:#[Xlk,K,f40,oc40,od40,"play","Merge.play",Zaq,kV40,dc40,pm40,an40,cd40,ct40,sl40]) (c40:#[Xci,K,cd40,"Merge.play"]) (k40:#[Xki,K,f40])
  (a41:#[Xfi,K,cMerge,"send_out",f41]) (i41:#[Xif,K,f41]) (l41:#[Xlk,K,f41,oc41,od41,"send_out","Merge.send_out",ZT,kV41,dc41,pm41,an41,cd41,ct41,sl41]) (c41:#[Xci,K,cd41,"Merge.send_out"]) (k41:#[Xki,K,f41])
  (a42:#[Xfi,K,cMerge,"play_again",f42]) (i42:#[Xif,K,f42]) (l42:#[Xlk,K,f42,oc42,od42,"play_again","Merge.play_again",ZK,kV42,dc42,pm42,an42,cd42,ct42,sl42]) (c42:#[Xci,K,cd42,"Merge.play_again"]) (k42:#[Xki,K,f42])
  (a43:#[Xfi,K,cMerge,"meet",f43]) (i43:#[Xif,K,f43]) (l43:#[Xlk,K,f43,oc43,od43,"meet","Merge.meet",Zao,kV43,dc43,pm43,an43,cd43,ct43,sl43]) (c43:#[Xci,K,cd43,"Merge.meet"]) (k43:#[Xki,K,f43])
  (z0:PySem.W.nsIn K mainGlobals "abs" = some none) (z1:PySem.W.nsIn K mainGlobals "all" = some none) (z2:PySem.W.nsIn K mainGlobals "bool" = some none) (z3:PySem.W.nsIn K mainGlobals "dict" = some none) (z4:PySem.W.nsIn K mainGlobals "enumerate" = some none) (z5:PySem.W.nsIn K mainGlobals "int" = some none) (z6:PySem.W.nsIn K mainGlobals "isinstance" = some none) (z7:PySem.W.nsIn K mainGlobals "len" = some none) (z8:PySem.W.nsIn K mainGlobals "list" = some none) (z9:PySem.W.nsIn K mainGlobals "max" = some none) (z10:PySem.W.nsIn K mainGlobals "min" = some none) (z11:PySem.W.nsIn K mainGlobals "range" = some none) (z12:PySem.W.nsIn K mainGlobals "sorted" = some none) (z13:PySem.W.nsIn K mainGlobals "str" = some none) (z14:PySem.W.nsIn K mainGlobals "sum" = some none) (z15:PySem.W.nsIn K mainGlobals "tuple" = some none) (z16:PySem.W.nsIn K mainGlobals "zip" = some none) :
  ∃fd:FuncData,(∀ (s:Shared) (v:Value),BindsTo s fd ⟨[v],[]⟩ [("_law_script",v)])∧∀base:Heap,K.In base→base.Ns mainGlobals mg→Zdf l.prog w K mg base CX0 18 fa fd ["_law_script"] (Ziy K):=by
 have e:=hfa.symm.trans (PySem.W.mg_of X G a26)
 cases e
 have T:Zak K mg cRow cMerge:=⟨⟨Qx X G z0,Qx X G z1,Qx X G z2,Qx X G z3,Qx X G z4,Qx X G z5,Qx X G z6,Qx X G z7,Qx X G z8,Qx X G z9,Qx X G z10,Qx X G z11,Qx X G z12,Qx X G z13,Qx X G z14,Qx X G z15,Qx X G z16⟩,Z4 X G a0 l0 c0 k0 (fun _ _ _ _ _ _ us hl=>by obtain⟨_,rfl⟩:=Zca us hl;exact rfl),Z4 X G a1 l1 c1 k1 (fun _ _ _ _ _ _ us hl=>by obtain⟨_,_,rfl⟩:=Zdg us hl;exact rfl),Z4 X G a2 l2 c2 k2 (fun _ _ _ _ _ _ us hl=>by obtain⟨_,_,rfl⟩:=Zdg us hl;exact rfl),Z4 X G a3 l3 c3 k3 (fun _ _ _ _ _ _ us hl=>by obtain⟨_,_,rfl⟩:=Zdg us hl;exact rfl),Z4 X G a4 l4 c4 k4 (fun _ _ _ _ _ _ us hl=>by obtain⟨_,_,_,rfl⟩:=Zi2 us hl;exact rfl),Z4 X G a5 l5 c5 k5 (fun _ _ _ _ _ _ us hl=>by obtain⟨_,_,_,rfl⟩:=Zi2 us hl;exact rfl),Z4 X G a6 l6 c6 k6 (fun _ _ _ _ _ _ us hl=>by obtain⟨_,_,_,rfl⟩:=Zi2 us hl;exact rfl),Z4 X G a7 l7 c7 k7 (fun _ _ _ _ _ _ us hl=>by obtain⟨_,rfl⟩:=Zca us hl;exact rfl),Z4 X G a8 l8 c8 k8 (fun _ _ _ _ _ _ us hl=>by obtain⟨_,rfl⟩:=Zca us hl;exact rfl),Z4 X G a9 l9 c9 k9 (fun _ _ _ _ _ _ us hl=>by obtain⟨_,_,rfl⟩:=Zdg us hl;exact rfl),Z4 X G a10 l10 c10 k10 (fun _ _ _ _ _ _ us hl=>by obtain⟨_,_,rfl⟩:=Zdg us hl;exact rfl),Z4 X G a11 l11 c11 k11 (fun _ _ _ _ _ _ us hl=>by obtain⟨_,rfl⟩:=Zca us hl;exact rfl),Z4 X G a12 l12 c12 k12 (fun _ _ _ _ _ _ us hl=>by obtain⟨_,rfl⟩:=Zca us hl;exact rfl),Z4 X G a13 l13 c13 k13 (fun _ _ _ _ _ _ us hl=>by obtain⟨_,rfl⟩:=Zca us hl;exact rfl),Z4 X G a14 l14 c14 k14 (fun _ _ _ _ _ _ us hl=>by obtain⟨_,rfl⟩:=Zca us hl;exact rfl),Z4 X G a15 l15 c15 k15 (fun _ _ _ _ _ _ us hl=>by obtain⟨_,_,rfl⟩:=Zdg us hl;exact rfl),Z4 X G a16 l16 c16 k16 (fun _ _ _ _ _ _ us hl=>by obtain⟨_,_,rfl⟩:=Zdg us hl;exact rfl),Z4 X G a17 l17 c17 k17 (fun _ _ _ _ _ _ us hl=>by obtain⟨_,_,rfl⟩:=Zdg us hl;exact rfl),Z4 X G a18 l18 c18 k18 (fun _ _ _ _ _ _ us hl=>by obtain⟨_,rfl⟩:=Zca us hl;exact rfl),Z4 X G a19 l19 c19 k19 (fun _ _ _ _ _ _ us hl=>by obtain⟨_,_,rfl⟩:=Zdg us hl;exact rfl),Z4 X G a20 l20 c20 k20 (fun _ _ _ _ _ _ us hl=>by obtain⟨_,_,_,rfl⟩:=Zi2 us hl;exact rfl),Z4 X G a21 l21 c21 k21 (fun _ _ _ _ _ _ us hl=>by obtain⟨_,_,_,rfl⟩:=Zi2 us hl;exact rfl),Z4 X G a22 l22 c22 k22 (fun _ _ _ _ _ _ us hl=>by obtain⟨_,rfl⟩:=Zca us hl;exact rfl),Z4 X G a23 l23 c23 k23 (fun _ _ _ _ _ _ us hl=>by obtain⟨_,rfl⟩:=Zca us hl;exact rfl),Z4 X G a24 l24 c24 k24 (fun _ _ _ _ _ _ us hl=>by obtain⟨_,_,rfl⟩:=Zdg us hl;exact rfl),Z4 X G a25 l25 c25 k25 (fun _ _ _ _ _ _ us hl=>by obtain⟨_,_,rfl⟩:=Zdg us hl;exact rfl),⟨_,_,ZG (st:=ZaN) l27 c27 k27,⟨mkRow,a27,i27,kcRow⟩,(ZG (st:=ZaN) l27 c27 k27).binds (ps:=["self", "keys"]) (fun _ _ _ _ _ _ us hl=>by obtain⟨_,_,rfl⟩:=Zdg us hl;exact rfl),PySem.W.mg_of X G aCRow⟩,⟨_,_,ZG (st:=Zap) l28 c28 k28,⟨a28,i28,k28⟩,(ZG (st:=Zap) l28 c28 k28).binds (ps:=["self"]) (fun _ _ _ _ _ _ us hl=>by obtain⟨_,rfl⟩:=Zca us hl;exact rfl)⟩,⟨_,_,ZG (st:=ZaB) l29 c29 k29,⟨a29,i29,k29⟩,(ZG (st:=ZaB) l29 c29 k29).binds (ps:=["self"]) (fun _ _ _ _ _ _ us hl=>by obtain⟨_,rfl⟩:=Zca us hl;exact rfl)⟩,⟨_,_,ZG (st:=ZaM) l30 c30 k30,⟨a30,i30,k30⟩,(ZG (st:=ZaM) l30 c30 k30).binds (ps:=["self"]) (fun _ _ _ _ _ _ us hl=>by obtain⟨_,rfl⟩:=Zca us hl;exact rfl)⟩,⟨_,_,ZG (st:=Zar) l31 c31 k31,⟨mkMerge,a31,i31,kcMerge⟩,(ZG (st:=Zar) l31 c31 k31).binds (ps:=["self", "rows"]) (fun _ _ _ _ _ _ us hl=>by obtain⟨_,_,rfl⟩:=Zdg us hl;exact rfl),PySem.W.mg_of X G aCMerge⟩,⟨_,_,ZG (st:=Zaa) l32 c32 k32,⟨a32,i32,k32⟩,(ZG (st:=Zaa) l32 c32 k32).binds (ps:=["self"]) (fun _ _ _ _ _ _ us hl=>by obtain⟨_,rfl⟩:=Zca us hl;exact rfl)⟩,⟨_,_,ZG (st:=Zat) l33 c33 k33,⟨a33,i33,k33⟩,(ZG (st:=Zat) l33 c33 k33).binds (ps:=["self"]) (fun _ _ _ _ _ _ us hl=>by obtain⟨_,rfl⟩:=Zca us hl;exact rfl)⟩,⟨_,_,ZG (st:=ZW) l34 c34 k34,⟨a34,i34,k34⟩,(ZG (st:=ZW) l34 c34 k34).binds (ps:=["self", "many"]) (fun _ _ _ _ _ _ us hl=>by obtain⟨_,_,rfl⟩:=Zdg us hl;exact rfl)⟩,⟨_,_,ZG (st:=Zag) l35 c35 k35,⟨a35,i35,k35⟩,(ZG (st:=Zag) l35 c35 k35).binds (ps:=["self"]) (fun _ _ _ _ _ _ us hl=>by obtain⟨_,rfl⟩:=Zca us hl;exact rfl)⟩,⟨_,_,ZG (st:=ZP) l36 c36 k36,⟨a36,i36,k36⟩,(ZG (st:=ZP) l36 c36 k36).binds (ps:=["self"]) (fun _ _ _ _ _ _ us hl=>by obtain⟨_,rfl⟩:=Zca us hl;exact rfl)⟩,⟨_,_,ZG (st:=Zah) l37 c37 k37,⟨a37,i37,k37⟩,(ZG (st:=Zah) l37 c37 k37).binds (ps:=["self"]) (fun _ _ _ _ _ _ us hl=>by obtain⟨_,rfl⟩:=Zca us hl;exact rfl)⟩,⟨_,_,ZG (st:=Zae) l38 c38 k38,⟨a38,i38,k38⟩,(ZG (st:=Zae) l38 c38 k38).binds (ps:=["self"]) (fun _ _ _ _ _ _ us hl=>by obtain⟨_,rfl⟩:=Zca us hl;exact rfl)⟩,⟨_,_,ZG (st:=ZV) l39 c39 k39,⟨a39,i39,k39⟩,(ZG (st:=ZV) l39 c39 k39).binds (ps:=["self"]) (fun _ _ _ _ _ _ us hl=>by obtain⟨_,rfl⟩:=Zca us hl;exact rfl)⟩,⟨_,_,ZG (st:=Zaq) l40 c40 k40,⟨a40,i40,k40⟩,(ZG (st:=Zaq) l40 c40 k40).binds (ps:=["self", "numbers"]) (fun _ _ _ _ _ _ us hl=>by obtain⟨_,_,rfl⟩:=Zdg us hl;exact rfl)⟩,⟨_,_,ZG (st:=ZT) l41 c41 k41,⟨a41,i41,k41⟩,(ZG (st:=ZT) l41 c41 k41).binds (ps:=["self", "number"]) (fun _ _ _ _ _ _ us hl=>by obtain⟨_,_,rfl⟩:=Zdg us hl;exact rfl)⟩,⟨_,_,ZG (st:=ZK) l42 c42 k42,⟨a42,i42,k42⟩,(ZG (st:=ZK) l42 c42 k42).binds (ps:=["self", "meeting", "comer"]) (fun _ _ _ _ _ _ us hl=>by obtain⟨_,_,_,rfl⟩:=Zi2 us hl;exact rfl)⟩,⟨_,_,ZG (st:=Zao) l43 c43 k43,⟨a43,i43,k43⟩,(ZG (st:=Zao) l43 c43 k43).binds (ps:=["self", "one", "other", "far"]) (fun _ _ _ _ _ _ us hl=>by obtain⟨_,_,_,_,rfl⟩:=Zpu us hl;exact rfl)⟩,⟨pgRow,hdRow,poRow,saRow⟩,nARow_all_keys,nARow_fars,nARow_gone,⟨pgMerge,hdMerge,poMerge,saMerge⟩,nAMerge_best,nAMerge_likened,nAMerge_looked,nAMerge_next_number,nAMerge_rows,nAMerge_stays⟩
 exact⟨PySem.W.fnOf "law" "law" (Zn ZbJ) (Zl ZbJ) (Ze ZbJ) .none kV26 dc26 pm26 an26 cd26 ct26,fun s v=>.of_eq rfl,fun base _ _=>ZnD (ZG (st:=ZbJ) l26 c26 k26) T⟩
theorem walk{l:PySem.W.OpenLaw}{q:Program}{loose:List Str}{XP:(Str→Option Value)→Heap→Prop}{YP:World→Heap→Prop}{d:DefRec}{K:Params→PySem.W.Frag}(hn:l.most=some 63)(hdf:d.params.defaults=[])
  (hY:∀ (w:World) (h:Heap),YP w h→(K w.params).In h)
  (F:∀ (w:World) (mg:Str→Option Value) (fa:Addr) (h:Heap),(K w.params).In h→h.Ns mainGlobals mg→mg d.name=some (.ref fa) →
   ∃fd:FuncData,(∀ (s:Shared) (u:Value),BindsTo s fd ⟨[u],[]⟩ [("_law_script",u)])∧∀base:Heap,(K w.params).In base→base.Ns mainGlobals mg→Zdf l.prog w (K w.params) mg base CX0 18 fa fd ["_law_script"] (Ziy (K w.params))) :
  PySem.W.WalkO q loose XP YP l.row.toRowW d [] (fun f vs=>PySem.call f vs) :=
 L2.walk_of (n:=63) (k:=18) (x := "_law_script") (CX:=fun _=>CX0) (sp:=fun w=>Ziy (K w.params)) hn (by decide) hdf ⟨rfl,by decide,by decide,rfl⟩ hY F (fun _ _ a ns hl _ hS=>⟨a,ns,rfl,hS,hl,fun _=>rfl⟩) fun _ _ _ _ _ z=>z
end My
open PySem PySem.W PyProof.Rows
namespace PySem.W.Fast
def tw17201103214837118478:=0
def tw11251289232169637164:=0
def tw2235593344866919596:=0
def tw12413392098131357836:=0
def tw6053645344146886475:=0
def tw2792485698998040288:=0
def tw16920804555789483014:=0
def tw3118850463554080518:=0
def tw17918914465201403677:=0
def tw7184667687106046212:=0
def tw4813226607031423587:=0
def tw1503749481128644919:=0
def tw11203621061432036414:=0
def tw17542486779736822430:=0
def tw13746577500858663643:=0
def tw16542437926011007739:=0
def tw14468895815945608946:=0
def tw10266369919078493808:=0
def tw9543102314330470134:=0
def tw2817477847608462932:=0
def tw16051484754719702530:=0
def tw357333909055943817:=0
def tw3967362132023237568:=0
def tw15427427456157625188:=0
def tw17819257499251223198:=0
def tw16832832895008851229:=0
def tw10799603078307399821:=0
def tw13473661686756234520:=0
def tw681297853277986413:=0
def tw525788604629559621:=0
def tw2577807188816462777:=0
def tw13912250925778629664:=0
def tw15244005928544615684:=0
def tw16975593192744195993:=0
def tw15767847324656076498:=0
def tw8777844613899668966:=0
def tw18070959926140470858:=0
def tw7860553126693888550:=0
def tw5535339063894048886:=0
def tw11288549769665064616:=0
def tw8701972601290997496:=0
def tw5693520753175352105:=0
def tw14748716464736358402:=0
def tw8527277044051432039:=0
def tw7096372427080078977:=0
def tw6963279487056553049:=0
def tw5556323440739039026:=0
def tw11367352757865646918:=0
def tw11252225689663857119:=0
def tw8593719837088593475:=0
def tw5349919208275198400:=0
def tw4408151228159356786:=0
def tw10917218869589966038:=0
def tw7140123315167213428:=0
def tw4913238662240409846:=0
def tw10641445051135489254:=0
def tw16931800994711320295:=0
def tw13460209289787710495:=0
def tw7417895719709714948:=0
def tw14370781782396575627:=0
def tw5881884412362968000:=0
def tw1725356513508003506:=0
def tw6050749154063918236:=0
def tw8080969119261058299:=0
def tw2590345471169294352:=0
def tw18355699508152598364:=0
def tw9696504088191312726:=0
def tw12262567495935025295:=0
def tw16177923081702734546:=0
def tw13162932331440933636:=0
def tw15207023715408763858:=0
def tw1183030650793553130:=0
def tw4697611715141859925:=0
def tw14780250958769523606:=0
def tw11935427638210132337:=0
def tw17729260746968946822:=0
def tw9399480117532257568:=0
def tw16687411125021139295:=0
def tw16823641843050023505:=0
def tw5248734546681798691:=0
def tw10596352517646443619:=0
def tw9481500675127452796:=0
def tw15212641572320314872:=0
def tw15711118628916052281:=0
def tw6002234095956567903:=0
def tw17387658564854477155:=0
def tw11416844122728569965:=0
def tw5981174290037694552:=0
def tw14469697024386526680:=0
def tw13965055739891248405:=0
def tw11872923834796433371:=0
def tw979784205294602123:=0
def tw17223151704004396651:=0
def tw11715612101894392203:=0
def tw8407501850203917585:=0
def tw15330791001829647390:=0
def tw12346739913544230005:=0
def tw2686710538520128577:=0
def tw10104377915993567255:=0
def tw14101280279365237414:=0
def tw10822017225386145275:=0
def tw1978846465525364966:=0
def tw13334057295393762061:=0
def tw12830597686464923789:=0
def tw15911765418953106185:=0
def tw10491077518509675430:=0
def tw3108680111078549116:=0
def tw14981022262136427019:=0
def tw4241173922065429674:=0
def tw14211157573955543819:=0
def tw15277317322155168052:=0
def tw7813494088627690157:=0
def tw12576640587347163681:=0
def tw10813602912401544854:=0
def tw1726941132139692739:=0
def tw5390956340734959480:=0
def tw17849943909630787083:=0
def tw5063988097178491773:=0
def tw5128565617103098554:=0
def tw5724108232128350629:=0
def tw10282590591233318709:=0
def tw4543795153000445420:=0
def tw5478044050393762935:=0
def tw5878713387208518964:=0
def tw2979175943699078712:=0
def tw11146664707861790282:=0
def tw7649411802725901986:=0
def tw9418494650955820804:=0
def tw4589555235684357779:=0
def tw16733650175266696520:=0
def tw1570110652595992139:=0
def tw13946845121232385166:=0
def tw11216028388670681789:=0
def tw12486798868716556046:=0
def tw9422820983067206896:=0
def tw9426625341164470090:=0
def tw6340617348103034337:=0
def tw18428741056021895034:=0
def tw7703228477264837227:=0
def tw18010196555328036354:=0
def tw13284886792545833431:=0
def tw3821228283175751100:=0
def tw5100466192757482388:=0
def tw9924060035704566714:=0
def tw13504035930310686067:=0
def tw7198321187079117589:=0
def tw9001183685571523027:=0
def tw4181840334649857814:=0
def tw6862232440414992280:=0
def tw6265665664812917550:=0
def tw1579369599618765986:=0
def tw17530384848203824372:=0
def tw12653100068078765862:=0
def tw17998786915939231446:=0
def tw1367062134285474310:=0
def tw4870635099732728627:=0
def tw9055523384256769352:=0
def tw4069442511912131191:=0
def tw6783821350643292532:=0
def tw6842499350507806779:=0
def tw1347805255677636531:=0
def tw10249201050205537970:=0
def tw16455955898383900768:=0
def tw10056481293489491583:=0
def tw3242083953209908523:=0
def tw12459579719182224303:=0
def tw1099866795142100503:=0
def tw6521988426607571050:=0
def tw14304948540981644960:=0
def tw15198921479454308393:=0
def tw9120393910160349442:=0
def tw5452513351038049619:=0
def tw9753545461803797821:=0
def tw5316545107276031712:=0
def tw12772175299858456662:=0
def tw9581577177395032258:=0
def tw12754524134044016791:=0
def tw2098246724971302434:=0
def tw7027415138803359393:=0
def tw10497437379163198967:=0
def tw14900700646222448922:=0
def tw6079991780872222262:=0
def tw8565802578630119148:=0
def tw3368873816017567607:=0
def tw17525934645410159255:=0
def tw12903651890530996306:=0
def tw10279793930786003068:=0
def tw15266465915845352130:=0
def tw7744040814086525654:=0
def tw14822324484197953821:=0
def tw1892870781882720220:=0
def tw11067960890325923959:=0
def tw2850658992516798091:=0
def tw10591578903811976646:=0
def tw2477712931644242939:=0
def tw145375497867290576:=0
def tw15905003772400917925:=0
def tw14462703276098016215:=0
def tw6030886889556978210:=0
def tw12235783680142487271:=0
def tw14763453491248695692:=0
def tw6610336312588907573:=0
def tw13688065464442472758:=0
def tw13097273111320940982:=0
def tw410102110709271322:=0
def tw14397275257204684977:=0
def tw16301517091748213319:=0
def tw8469151783636207580:=0
def tw1621535555578822255:=0
def tw7345872128785368766:=0
def tw40640049135587069:=0
def tw9486903033666118020:=0
def tw5771924610028621508:=0
def tw7377529799271883216:=0
def tw13424666728161245522:=0
def tw5063362491355955782:=0
def tw10169273137626546195:=0
def tw1737203421538209337:=0
def tw4875449653744428129:=0
def tw7813783933432397364:=0
def tw4385370284386898748:=0
def tw13050132423916732389:=0
def tw6537116910575320910:=0
def tw6341667502784163213:=0
def tw8935472459830679256:=0
def tw14532733275510400500:=0
def tw9461595456988095795:=0
def tw16975701555220752067:=0
def tw16727257352827301414:=0
def tw13791763607298227587:=0
def tw12700827894463540010:=0
def tw14926888135000544579:=0
def tw4405772593594040869:=0
def tw10214972907985670202:=0
def tw5454330494852051592:=0
def tw4895670060651711401:=0
def tw3897610103021620104:=0
def tw10941401245153431433:=0
def tw15921997851127488419:=0
def tw3030660832965192322:=0
def tw73638957356956553:=0
def tw16986802873375485116:=0
def tw18435433833840119656:=0
def tw15834345206348125324:=0
def tw13835569545698530353:=0
def tw3213394167811865067:=0
def tw2690164379414048749:=0
def tw9759944745253008502:=0
def tw17054664194887697180:=0
def tw18328649901385508847:=0
def tw16783560851200783305:=0
def tw14334750473319540921:=0
def tw18275769085142872718:=0
def tw6957823969712115943:=0
def tw1153298720618059159:=0
def tw11467508280883882908:=0
def tw3471252866910620362:=0
def tw15107597690530861022:=0
def tw16323934746102946259:=0
def tw4129142955013746436:=0
def tw4469456921775127034:=0
def tw14505439579505218979:=0
def tw7891631668283504232:=0
def tw760112315303333464:=0
def tw2318869639562229069:=0
def tw16399049250649379248:=0
def tw18038269744519247114:=0
def tw7055476184685384487:=0
def tw9701416255904966894:=0
def tw11041995502850534426:=0
def tw11308930219060328661:=0
def tw7837390009887133885:=0
def tw4663439322668586669:=0
def tw9969147251805426832:=0
def tw6045091513987581558:=0
def tw11038491102720696419:=0
def tw2921158068688053917:=0
def tw15512886439224298449:=0
def tw12354359490134686382:=0
def tw2238859838417950283:=0
def tw17687549787814853353:=0
def tw4317186425393361001:=0
def tw17919734831669526910:=0
def tw3318786027915220425:=0
def tw5494163840705866853:=0
def tw13692894820085464219:=0
def tw1042197502174853049:=0
def tw10309045510809348025:=0
def tw4938139915059880579:=0
def tw6253507321287300828:=0
def tw6913737742804724982:=0
def tw13120239820796257482:=0
def tw622589545676390419:=0
def tw13110423731550800263:=0
def tw15068760057094960481:=0
def tw6276872811480211273:=0
def tw8915553289228215864:=0
def tw1682862757268767933:=0
def tw16599191139574570109:=0
def tw3637454891504573624:=0
def tw7508292882261481250:=0
def tw16065999250022909757:=0
def tw15935837867188238866:=0
def tw8559058144278042042:=0
def tw17708758307191911871:=0
def tw16361166197806866276:=0
def tw7882296577197276357:=0
def tw17581832449725147150:=0
def tw14844324874510985362:=0
def tw8119452862656590374:=0
def tw9713050551830977561:=0
def tw11862888569407605451:=0
def tw15503133122660749464:=0
def tw15546855451310683784:=0
def tw18093265064644393210:=0
def tw9206508157989811261:=0
def tw6243041949456369898:=0
def tw17752897684515340776:=0
def tw675494725835498510:=0
def tw13828791678674079317:=0
def tw12826656079570078283:=0
def tw7058414281172738957:=0
def tw3682083323226864539:=0
def tw10722868428254511189:=0
def tw2863545293566141067:=0
def tw6540605313474732095:=0
def tw3962382448416927401:=0
def tw17775191419772861885:=0
def tw4300729650957365004:=0
def tw9222036968339798259:=0
def tw16526486127566146664:=0
def tw7479419603522280460:=0
def tw7466717673652600875:=0
def tw4455182851671184510:=0
def tw14940121076559571447:=0
def tw16644879968333524978:=0
def tw9307395556582574007:=0
def tw13395558529899159738:=0
def tw18147953143817637851:=0
def tw18423409876360243708:=0
def tw6465563811216278781:=0
def tw3125637254671201054:=0
def tw18440957431409745627:=0
def tw12729869911750077677:=0
def tw16805384253626818264:=0
def tw15926727841387227087:=0
def tw10534638229784201227:=0
def tw4947853739531386155:=0
def tw4147928230549858097:=0
def tw736121893549964677:=0
def tw17021457435776847531:=0
def tw15976321909502810637:=0
def tw8044322958741653776:=0
def tw1858042083023447656:=0
def tw3709216845942564813:=0
def tw1781452959376874396:=0
def tw17658474891526608037:=0
def tw1695920746798829163:=0
def tw8495693720930677266:=0
def tw15392295184034101291:=0
def tw14733397968622852407:=0
def tw1601620145977078605:=0
def tw15927694828098031997:=0
def tw13634129050686314481:=0
def tw706169041984548554:=0
def tw12581133440265380754:=0
def tw7352259926438096074:=0
def tw13360902804380886644:=0
def tw1379585793654228605:=0
def tw1023646254836008443:=0
def tw15641152662537019499:=0
def tw17332074399011836218:=0
def tw354068620294772826:=0
def tw4730423198629889990:=0
def tw14760804226509393220:=0
def tw15522594409229071103:=0
def tw6997166247965598135:=0
def tw12413600292918392433:=0
def tw14684832204453027547:=0
def tw18246882323882454913:=0
def tw272228192544635346:=0
def tw4956683982811228815:=0
def tw10154868940791745811:=0
def tw12887357943483284342:=0
def tw5087704494096588825:=0
def tw12185088309726822450:=0
def tw16593801265115243331:=0
def tw3408595258339538173:=0
def tw17233128177927181721:=0
def tw17400453117513332716:=0
def tw6569592902165984110:=0
def tw11977980398715757642:=0
def tw14291167018597873390:=0
def tw10467205682636692510:=0
def tw8090567815975407072:=0
def tw3032241591676780654:=0
def tw2895900348885697795:=0
def tw9682365349676568068:=0
def tw11946417789473382072:=0
def tw2648943335448086057:=0
def tw2614699642186631935:=0
def tw7954274018907723674:=0
def tw14580796815724899506:=0
def tw7149346460610975470:=0
def tw7666506542510993408:=0
def tw15281028950635266219:=0
def tw17563042241174450505:=0
def tw6474205938997288629:=0
def tw14179354201763603921:=0
def tw1769941933892447764:=0
def tw14567325963679451576:=0
def tw6367121332218205907:=0
def tw5172950186165412570:=0
def tw17484573124148477451:=0
def tw4922837955251809171:=0
def tw953189678624791465:=0
def tw3328363165304375042:=0
def tw4208642623973930531:=0
def tw9178821160419718035:=0
def tw12913153939577750474:=0
def tw5268476196678354946:=0
def tw2797587099231952343:=0
def tw13048083740508186822:=0
def tw10429143798058926384:=0
def tw9234862232504427130:=0
def tw14582741126463081814:=0
def tw829794866447162922:=0
def tw6539896676918908016:=0
def tw13750933010442530198:=0
def tw18438122220719964342:=0
def tw1965917363925625832:=0
def tw17921636334625219069:=0
def tw16339824942031241808:=0
def tw2845370185984116002:=0
def tw10549387758846571876:=0
def tw7378307610508755389:=0
def tw17130130173087624346:=0
def tw9229517633134117738:=0
def tw11280987712350666005:=0
def tw16962165042288621283:=0
def tw17302422480381837698:=0
def tw7151223011962375129:=0
end PySem.W.Fast
set_option maxRecDepth 100000 in
set_option maxHeartbeats 0 in
theorem PySem.Challenge.cw_mergetree_k62_whole_asked_by_pieces_holds : PySem.Challenge.rw_mergetree_k62_whole_asked_by_pieces.Holds := by
 w_on;o_law;k_head;(case hw=>w_witness2)
 k_fill
 refine My.walk (l:=PySem.Challenge.rw_mergetree_k62_whole_asked_by_pieces) rfl rfl (fun w h Y=>PySem.W.kIn_of Y) ?F
 case F =>
  intro w mg fa h KX G hmg
  refine' My.all_mk KX G hmg ?aCRow ?pgRow ?hdRow ?poRow ?saRow ?mkRow ?kcRow ?nARow_all_keys ?nARow_fars ?nARow_gone ?aCMerge ?pgMerge ?hdMerge ?poMerge ?saMerge ?mkMerge ?kcMerge ?nAMerge_best ?nAMerge_likened ?nAMerge_looked ?nAMerge_next_number ?nAMerge_rows ?nAMerge_stays ?a0 ?l0 ?c0 ?k0 ?a1 ?l1 ?c1 ?k1 ?a2 ?l2 ?c2 ?k2 ?a3 ?l3 ?c3 ?k3 ?a4 ?l4 ?c4 ?k4 ?a5 ?l5 ?c5 ?k5 ?a6 ?l6 ?c6 ?k6 ?a7 ?l7 ?c7 ?k7 ?a8 ?l8 ?c8 ?k8 ?a9 ?l9 ?c9 ?k9 ?a10 ?l10 ?c10 ?k10 ?a11 ?l11 ?c11 ?k11 ?a12 ?l12 ?c12 ?k12 ?a13 ?l13 ?c13 ?k13 ?a14 ?l14 ?c14 ?k14 ?a15 ?l15 ?c15 ?k15 ?a16 ?l16 ?c16 ?k16 ?a17 ?l17 ?c17 ?k17 ?a18 ?l18 ?c18 ?k18 ?a19 ?l19 ?c19 ?k19 ?a20 ?l20 ?c20 ?k20 ?a21 ?l21 ?c21 ?k21 ?a22 ?l22 ?c22 ?k22 ?a23 ?l23 ?c23 ?k23 ?a24 ?l24 ?c24 ?k24 ?a25 ?l25 ?c25 ?k25 ?a26 ?l26 ?c26 ?k26 ?a27 ?i27 ?l27 ?c27 ?k27 ?a28 ?i28 ?l28 ?c28 ?k28 ?a29 ?i29 ?l29 ?c29 ?k29 ?a30 ?i30 ?l30 ?c30 ?k30 ?a31 ?i31 ?l31 ?c31 ?k31 ?a32 ?i32 ?l32 ?c32 ?k32 ?a33 ?i33 ?l33 ?c33 ?k33 ?a34 ?i34 ?l34 ?c34 ?k34 ?a35 ?i35 ?l35 ?c35 ?k35 ?a36 ?i36 ?l36 ?c36 ?k36 ?a37 ?i37 ?l37 ?c37 ?k37 ?a38 ?i38 ?l38 ?c38 ?k38 ?a39 ?i39 ?l39 ?c39 ?k39 ?a40 ?i40 ?l40 ?c40 ?k40 ?a41 ?i41 ?l41 ?c41 ?k41 ?a42 ?i42 ?l42 ?c42 ?k42 ?a43 ?i43 ?l43 ?c43 ?k43 ?z0 ?z1 ?z2 ?z3 ?z4 ?z5 ?z6 ?z7 ?z8 ?z9 ?z10 ?z11 ?z12 ?z13 ?z14 ?z15 ?z16
  (case aCRow=>k_is)
  (case pgRow=>k_is)
  (case hdRow=>k_is)
  (case poRow=>k_is)
  (case saRow=>k_is)
  (case mkRow=>k_is)
  (case kcRow=>k_is)
  (case nARow_all_keys=>k_is)
  (case nARow_fars=>k_is)
  (case nARow_gone=>k_is)
  (case aCMerge=>k_is)
  (case pgMerge=>k_is)
  (case hdMerge=>k_is)
  (case poMerge=>k_is)
  (case saMerge=>k_is)
  (case mkMerge=>k_is)
  (case kcMerge=>k_is)
  (case nAMerge_best=>k_is)
  (case nAMerge_likened=>k_is)
  (case nAMerge_looked=>k_is)
  (case nAMerge_next_number=>k_is)
  (case nAMerge_rows=>k_is)
  (case nAMerge_stays=>k_is)
  (case a0|l0|c0|k0=>k_is)
  (case a1|l1|c1|k1=>k_is)
  (case a2|l2|c2|k2=>k_is)
  (case a3|l3|c3|k3=>k_is)
  (case a4|l4|c4|k4=>k_is)
  (case a5|l5|c5|k5=>k_is)
  (case a6|l6|c6|k6=>k_is)
  (case a7|l7|c7|k7=>k_is)
  (case a8|l8|c8|k8=>k_is)
  (case a9|l9|c9|k9=>k_is)
  (case a10|l10|c10|k10=>k_is)
  (case a11|l11|c11|k11=>k_is)
  (case a12|l12|c12|k12=>k_is)
  (case a13|l13|c13|k13=>k_is)
  (case a14|l14|c14|k14=>k_is)
  (case a15|l15|c15|k15=>k_is)
  (case a16|l16|c16|k16=>k_is)
  (case a17|l17|c17|k17=>k_is)
  (case a18|l18|c18|k18=>k_is)
  (case a19|l19|c19|k19=>k_is)
  (case a20|l20|c20|k20=>k_is)
  (case a21|l21|c21|k21=>k_is)
  (case a22|l22|c22|k22=>k_is)
  (case a23|l23|c23|k23=>k_is)
  (case a24|l24|c24|k24=>k_is)
  (case a25|l25|c25|k25=>k_is)
  (case a26|l26|c26|k26=>k_is)
  (case a27|i27|l27|c27|k27=>k_is)
  (case a28|i28|l28|c28|k28=>k_is)
  (case a29|i29|l29|c29|k29=>k_is)
  (case a30|i30|l30|c30|k30=>k_is)
  (case a31|i31|l31|c31|k31=>k_is)
  (case a32|i32|l32|c32|k32=>k_is)
  (case a33|i33|l33|c33|k33=>k_is)
  (case a34|i34|l34|c34|k34=>k_is)
  (case a35|i35|l35|c35|k35=>k_is)
  (case a36|i36|l36|c36|k36=>k_is)
  (case a37|i37|l37|c37|k37=>k_is)
  (case a38|i38|l38|c38|k38=>k_is)
  (case a39|i39|l39|c39|k39=>k_is)
  (case a40|i40|l40|c40|k40=>k_is)
  (case a41|i41|l41|c41|k41=>k_is)
  (case a42|i42|l42|c42|k42=>k_is)
  (case a43|i43|l43|c43|k43=>k_is)
  (case z0=>k_is)
  (case z1=>k_is)
  (case z2=>k_is)
  (case z3=>k_is)
  (case z4=>k_is)
  (case z5=>k_is)
  (case z6=>k_is)
  (case z7=>k_is)
  (case z8=>k_is)
  (case z9=>k_is)
  (case z10=>k_is)
  (case z11=>k_is)
  (case z12=>k_is)
  (case z13=>k_is)
  (case z14=>k_is)
  (case z15=>k_is)
  (case z16=>k_is)
