import PyProof.Rows.All
import Wide.All
import OpenK.AllK
import Wide.FinOn
import Lean
import PyProof.EqAt
import PyProof.EqKinds
import PyProof.TupleCall
import PyProof.AttrMissHeap
import KE.KEqDict
import KE.KItemsList
import PyProof.WalksMore
import PySem.Challenge.RW_mergetree_k64_whole_a_paper_behind_each
set_option maxHeartbeats 4000000
set_option maxRecDepth 100000
set_option Elab.async false
set_option linter.all false
local macro_rules|`(tactic|ac_rfl)=>`(tactic|decide +kernel)
abbrev Qa:=@List.length_map
abbrev Qb:=@List.getElem?_eq_getElem
abbrev Qc:=@List.getElem?_eq_some_iff
abbrev Qd:=@PySem.Heap.get?_push_of_some
abbrev Qe:=@List.map_cons
abbrev Qf:=@List.mem_map_of_mem
abbrev Qg:=@Nat.le_refl
abbrev Qh:=@List.map_append
abbrev Qi:=@Bool.false_ne_true
abbrev Qj:=@PySem.Heap.lt_size
abbrev Qk:=@List.mem_append
abbrev Ql:=@List.mem_singleton
abbrev Qm:=@List.mem_cons_of_mem
abbrev Qn:=@Nat.zero_le
abbrev Qo:=@Option.some.inj
abbrev Qp:=@List.mem_map
abbrev Qq:=@List.mem_of_getElem?
abbrev Qr:=@List.mem_append_right
abbrev Qs:=@List.length_append
abbrev Qt:=@List.map_map
abbrev Qu:=@List.length_cons
abbrev Qv:=@List.getElem?_map
abbrev Qw:=@PySem.boot_len
abbrev Qx:=@List.take_of_length_le
abbrev Qy:=@List.length_take
abbrev Qz:=@Nat.ne_of_lt
abbrev QA:=@PySem.Heap.get?_push_size
abbrev QB:=@Nat.lt_of_lt_of_le
abbrev QC:=@List.getD_eq_getElem?_getD
abbrev QD:=@List.size_toArray
abbrev QE:=@PySem.W.mg_none_of
abbrev QF:=@List.length_singleton
abbrev QG:=@List.mem_cons
abbrev QH:=@Nat.le_trans
abbrev QI:=@List.take_add_one
abbrev QJ:=@List.sum_cons
abbrev QK:=@List.nodup_cons
abbrev QL:=@List.mem_append_left
abbrev QM:=@List.mem_cons_self
abbrev QN:=@List.getElem?_append_right
abbrev QO:=@PySem.W.kia_one
abbrev QP:=@List.getElem?_append_left
abbrev QR:=@List.mem_filter
abbrev QS:=@List.getElem_mem
abbrev QT:=@PySem.F.plainAttrs_list
abbrev QU:=@List.length_drop
abbrev QV:=@PySem.F.slot_list_append
abbrev QW:=@PySem.F.type_list_append
abbrev QX:=@Bool.eq_iff_iff
abbrev QY:=@PySem.mem_of_lookup
abbrev QZ:=@PyProof.Rows.callWith_type1
abbrev Q0:=@PySem.Heap.get?_update_of_ne
abbrev Q1:=@Nat.lt_irrefl
abbrev Q2:=@Bool.and_eq_true
abbrev Q3:=@List.mem_iff_getElem?
abbrev Q4:=@List.getLastD_eq_getLast?
abbrev Q5:=@List.append_nil
abbrev Q6:=@List.map_congr_left
abbrev Q7:=@PySem.F.plainAttrs_dict
abbrev Q8:=@Nat.le_succ
abbrev Q9:=@List.find?_cons_of_neg
abbrev Qaa:=@Nat.add_sub_cancel
abbrev Qab:=@List.getElem?_eq_none
abbrev Qac:=@List.length_filter_le
abbrev Qad:=@List.reverse_cons
abbrev Qae:=@List.mem_range
abbrev Qaf:=@Nat.ne_of_gt
abbrev Qag:=@List.lookup_cons
abbrev Qah:=@List.getElem?_eq_none_iff
abbrev Qai:=@List.pairwise_iff_getElem
abbrev Qaj:=@List.filterMap_cons
abbrev Qak:=@List.any_cons
abbrev Qal:=@List.getLast?_eq_getLast
abbrev Qam:=@List.find?_cons
abbrev Qan:=@List.mem_filterMap
abbrev Qao:=@Int.emod_lt_of_pos
abbrev Qap:=@List.getElem?_take
abbrev Qaq:=@List.length_eq_zero_iff
abbrev Qar:=@List.filter_cons_of_neg
abbrev Qas:=@List.filter_cons_of_pos
abbrev Qat:=@Nat.le_of_lt
abbrev Qau:=@Nat.lt_trans
abbrev Qav:=@Option.map_eq_some_iff
abbrev Qaw:=@List.length_eq_one_iff
abbrev Qax:=@List.length_pos_of_mem
abbrev Qay:=@Int.add_zero
abbrev QaA:=@List.filter_cons
abbrev QaB:=@List.any_eq_true
abbrev QaC:=@List.getElem_map
abbrev QaD:=@PySem.W.mg_of
namespace L2
open PySem PySem.Spec PyProof.Rows
abbrev Key:=Sum Int Str
def Zfx:Key→Value→Bool
 | .inl k,v=>Value.isInt k v
 | .inr x,v=>Value.isStrOf x v
def Zqg(w:World):Key→Int
 | .inl k=>hashInt k
 | .inr x=>hashStr w x
theorem Zai:∀ {k:Key} {v:Value},Zfx k v=true→(∃i t,k=Sum.inl i∧v=Value.int i t)∨(∃x t,k=Sum.inr x∧v=Value.str x t)
 | .inl i,v,h=>by
  obtain⟨t,e⟩:=Value.isInt_shape (k:=i) (v:=v) h
  exact .inl ⟨i,t,rfl,e⟩
 | .inr x,v,h=>by
  obtain⟨t,e⟩:=Value.isStrOf_shape (x:=x) (v:=v) h
  exact .inr ⟨x,t,rfl,e⟩
theorem ZjS(i:Int)(t:Tok):Zfx (.inl i) (.int i t)=true:=by simp[Zfx,Value.isInt]
theorem ZjV(x:Str)(t:Tok):Zfx (.inr x) (.str x t)=true:=by simp[Zfx,Value.isStrOf]
theorem ZoW(a b:Int):decide ((Sum.inl a:Key)=Sum.inl b)=(a == b):=by
 by_cases e:a=b
 ·subst e;simp
 ·have h:¬ (Sum.inl a:Key)=Sum.inl b:=fun q=>e (Sum.inl.inj q)
  rw[decide_eq_false h]
  exact(beq_eq_false_iff_ne.mpr e).symm
theorem ZoA(a b:Str):decide ((Sum.inr a:Key)=Sum.inr b)=decide (a=b):=by
 by_cases e:a=b
 ·subst e;simp
 ·have h:¬ (Sum.inr a:Key)=Sum.inr b:=fun q=>e (Sum.inr.inj q)
  rw[decide_eq_false h,decide_eq_false e]
theorem Zoa(a:Int)(b:Str):decide ((Sum.inl a:Key)=Sum.inr b)=false:=decide_eq_false (fun q=>nomatch q)
theorem Zos(a:Str)(b:Int):decide ((Sum.inr a:Key)=Sum.inl b)=false:=decide_eq_false (fun q=>nomatch q)
def ZI(prog:Program)(w:World):PySem.KeyKind prog w Key where
 is:=Zfx
 hash:=Zqg w
 inj:=fun v a b ha hb=>by
  rcases Zai ha with⟨i,t,rfl,rfl⟩|⟨x,t,rfl,rfl⟩
  ·rcases Zai hb with⟨j,u,rfl,e⟩|⟨y,u,rfl,e⟩
   ·injection e with e1 _;rw[e1]
   ·exact nomatch e
  ·rcases Zai hb with⟨j,u,rfl,e⟩|⟨y,u,rfl,e⟩
   ·exact nomatch e
   ·injection e with e1 _;rw[e1]
 byValue:=fun k v h=>by
  rcases Zai h with⟨i,t,rfl,rfl⟩|⟨x,t,rfl,rfl⟩<;>rfl
 pyHash:=fun hv h=>by
  rcases Zai hv with⟨i,t,rfl,rfl⟩|⟨x,t,rfl,rfl⟩
  ·exact wpAny_pyHash_int h
  ·exact wpAny_pyHash_str h
 eqBool:=fun hu hv h=>by
  rcases Zai hu with⟨i,t,rfl,rfl⟩|⟨x,t,rfl,rfl⟩
  ·rcases Zai hv with⟨j,u,rfl,rfl⟩|⟨y,u,rfl,rfl⟩
   ·rw[ZoW]at h;exact wpAny_eqBool_int h
   ·rw[Zoa]at h;exact SeqAt.EqAt.int_str i t y u _ _ _ _ h
  ·rcases Zai hv with⟨j,u,rfl,rfl⟩|⟨y,u,rfl,rfl⟩
   ·rw[Zos]at h;exact SeqAt.EqAt.str_int x t j u _ _ _ _ h
   ·rw[ZoA]at h;exact wpAny_eqBool_str h
 «strs»:=fun k x t v h=>by
  rcases Zai h with⟨i,u,rfl,e⟩|⟨y,u,rfl,e⟩
  ·exact nomatch e
  ·injection e with e1 _
   subst e1
   cases v<;>rfl
theorem ZiS(prog:Program)(w:World)(k:Key)(v:Value):(ZI prog w).is k v=Zfx k v:=rfl
theorem ZhS(prog:Program)(w:World)(i:Int)(t:Tok):(ZI prog w).is (.inl i) (.int i t)=true:=ZjS i t
theorem Zh2(prog:Program)(w:World)(x:Str)(t:Tok):(ZI prog w).is (.inr x) (.str x t)=true:=ZjV x t
inductive V where
 | non|bl (b:Bool)|int (i:Int)|str (x:Str)|byt (b:Array UInt8)|flt (b:UInt64)|ref (a:Addr)|ty (n:String)
 deriving DecidableEq
def Zy:V→Value→Prop
 | .non,u=>u=Value.none
 | .bl b,u=>u=Value.bool b
 | .int i,u=>∃t,u=Value.int i t
 | .str x,u=>∃t,u=Value.str x t
 | .byt b,u=>∃t,u=Value.bytes b t
 | .flt b,u=>∃t,u=Value.float b t
 | .ref a,u=>u=Value.ref a
 | .ty n,u=>u=Value.type n
abbrev ZB:List V→List Value→Prop:=Paired Zy
theorem ZB.length{xs:List V}{us:List Value}(r:ZB xs us):xs.length=us.length:=Paired.length r
theorem ZB.get:∀ {xs:List V} {us:List Value} {i:Nat} {x:V},ZB xs us→xs[i]? = some x→∃u,us[i]? = some u∧Zy x u
 | _,_,_,_,.nil,e=>by simp at e
 | _,_,0,_,.cons r _,e=>by simp at e;subst e;exact⟨_,rfl,r⟩
 | _,_,i+1,x,.cons _ t,e=>by
  obtain⟨u,h1,h2⟩:=ZB.get (i:=i) (x:=x) t (by simpa using e)
  exact⟨u,by simpa using h1,h2⟩
theorem ZB.set{x:V}{u:Value}(r:Zy x u):∀ {xs:List V} {us:List Value} (i:Nat),ZB xs us→ZB (xs.set i x) (us.set i u)
 | _,_,_,.nil=>.nil
 | _,_,0,.cons _ t=>.cons r t
 | _,_,i+1,.cons q t=>.cons q (ZB.set r i t)
theorem ZB.append:∀ {xs ys:List V} {us ws:List Value},ZB xs us→ZB ys ws→ZB (xs++ys) (us++ws)
 | _,_,_,_,.nil,s=>s
 | _,_,_,_,.cons r t,s=>.cons r (ZB.append t s)
theorem ZB.take:∀ {xs:List V} {us:List Value} (n:Nat),ZB xs us→ZB (xs.take n) (us.take n)
 | _,_,0,_=>.nil
 | _,_,_+1,.nil=>.nil
 | _,_,n+1,.cons r t=>.cons r (ZB.take n t)
theorem ZB.drop:∀ {xs:List V} {us:List Value} (n:Nat),ZB xs us→ZB (xs.drop n) (us.drop n)
 | _,_,0,r=>r
 | _,_,_+1,.nil=>.nil
 | _,_,n+1,.cons _ t=>ZB.drop n t
def ZcA:Option V→Option Value→Prop
 | some v,some u=>Zy v u
 | none,none=>True
 | _,_=>False
def KV{κ:Type}:List (κ×V)→List (κ×Value)→Prop:=Paired fun (p:κ×V) (q:κ×Value)=>p.1=q.1∧Zy p.2 q.2
def kV:Key→V
 | .inl i=>.int i
 | .inr x=>.str x
inductive HO where
  | lst (xs:List V)
  | tup (xs:List V)
  | dK (kvs:List (Key×V))|dT (kvs:List (List Key×V))
  | set (S:Int→Bool) (n:Nat)
  | ins (C dx:Addr) (fs:List (Str×V))
  | own (x:Addr)
  | xd (fs:List (Str×V))
  | met (f x:Addr)
  | rng (lo hi:Int)
  | frz (o:Obj) (u:HO)
  | tbl (ps:Array Value)
  | ext (φ:Heap→Prop)
abbrev Hp:=Addr→Option HO
def upd(H:Hp)(a:Addr)(o:HO):Hp:=fun b=>if b=a then some o else H b
theorem Zf{H:Hp}{a:Addr}{o:HO}:upd H a o a=some o:=by unfold upd;rw[if_pos rfl]
theorem Zc{H:Hp}{a b:Addr}{o:HO}(h:b≠a):upd H a o b=H b:=by unfold upd;rw[if_neg h]
theorem ZlG{H:Hp}{a b:Addr}{o u:HO}(h:H a=some o)(h':H b=some u)(d:o≠u):a≠b:=by
 intro e;subst e;rw[h]at h';exact d (Qo h')
theorem Zb{H:Hp}{a b:Addr}{o:HO}(h:H a=some o)(h':H b=none):a≠b:=by
 intro e;subst e;rw[h]at h';cases h'
section
variable (P:Program) (w:World)
def Zal(H:Hp)(h:Heap)(a:Addr):HO→Prop
 | .lst xs=>xs.length≤sizeLine∧∃ (its:List Value) (n:Nat),ZB xs its∧h.get? a=some { cls:=.type "list",data:=.seq its.toArray n }
 | .tup xs=>xs.length≤sizeLine∧∃its:List Value,ZB xs its∧IsTup h a its.toArray
 | .dK kvs=>kvs.length≤sizeLine∧(a == sysModules)=false∧∃vs,KV kvs vs∧h.DictOf (ZI P w) a vs
 | .dT kvs=>kvs.length≤sizeLine∧(a == sysModules)=false∧∃xs:List (List Key×Addr×Value),
   Paired (fun (p:List Key×V) (q:List Key×Addr×Value)=>p.1=q.1∧H q.2.1=some (.tup (p.1.map kV))∧Zy p.2 q.2.2) kvs xs ∧
   ∃o es ep,h.get? a=some o∧o.ExactDict∧o.data=.dict es ep∧es.toList=xs.map (entryOfKey (tupleKind (ZI P w)))∧(xs.map (·.1)).Nodup
 | .set S n=>h.SetOf (intKind P w) a S n
 | .ins C dx fs=>H dx=some (.own a)∧fs.length≤1000∧dx≠a∧h.get? a=some (PySem.W.instObj C dx) ∧
   ∃mA,h.Ns1 dx mA∧(∀f,ZcA (fs.lookup f) (mA f))∧PySem.Within mA (fs.map (·.1))
 | .own _=>∃o,h.get? a=some o
 | .xd fs=>∃mA,h.Ns1 a mA∧∀f,ZcA (fs.lookup f) (mA f)
 | .rng lo hi=>∃t u v,h.get? a=some { cls:=.type "range",data:=.fields #[.int lo t,.int hi u,.int 1 v] }
 | .frz o u=>h.get? a=some o∧Zal H h a u
 | .tbl ps=>h.get? a=some { cls:=.none,data:=.fields ps }
 | .met f x=>h.get? a=some (PySem.W.methodObj (.ref f) (.ref x))
 | .ext φ=>φ h∧(∃o,h.get? a=some o)∧∀h1 h2:Heap,φ h1→(∀o,h1.get? a=some o→h2.get? a=some o)→φ h2
def HOk(H:Hp)(h:Heap):Prop:=∀a o,H a=some o→Zal P w H h a o
end
section
variable {P:Program} {w:World} {H H':Hp} {h h':Heap} {a:Addr} {o:HO}
theorem Zal.lt(x:Zal P w H h a o):a<h.objs.size:=by
 cases o with
 | lst xs=>obtain⟨_,_,_,_,e⟩:=x;exact Qj e
 | tup xs=>obtain⟨_,_,_,p⟩:=x;exact p.lt
 | dK kvs=>obtain⟨_,_,_,_,o,_,_,e,_⟩:=x;exact Qj e
 | dT kvs=>obtain⟨_,_,_,_,o,_,_,e,_⟩:=x;exact Qj e
 | set S n=>obtain⟨o,_,_,_,e,_⟩:=x;exact Qj e
 | ins C dx fs=>obtain⟨_,_,_,e,_⟩:=x;exact Qj e
 | own y=>obtain⟨_,e⟩:=x;exact Qj e
 | xd fs=>obtain⟨_,⟨_,_,_,e,_⟩,_⟩:=x;exact Qj e
 | rng lo hi=>obtain⟨_,_,_,e⟩:=x;exact Qj e
 | frz ob u=>obtain⟨e,_⟩:=x;exact Qj e
 | tbl ps=>exact Qj (show h.get? a=some _ from x)
 | met f y=>exact Qj (show h.get? a=some _ from x)
 | ext φ=>obtain⟨_,⟨_,e⟩,_⟩:=x;exact Qj e
theorem Paired.mapP{α β:Type}{F G:α→β→Prop}:∀ {l₁:List α} {l₂:List β},Paired F l₁ l₂→(∀a b,F a b→G a b)→Paired G l₁ l₂
 | _,_,.nil,_=>.nil
 | _,_,.cons r t,f=>.cons (f _ _ r) (Paired.mapP t f)
theorem Zal.stay(x:Zal P w H h a o)(k:∀b u,(b=a∨H b=some (.own a))→h.get? b=some u→h'.get? b=some u)
  (ho:∀b,H b=some (.own a)→H' b=some (.own a)) (ht:∀b xs,H b=some (.tup xs)→H' b=some (.tup xs)):Zal P w H' h' a o:=by
 induction o with
 | lst xs=>obtain⟨z,its,n,r,e⟩:=x;exact⟨z,its,n,r,k _ _ (.inl rfl) e⟩
 | tup xs=>obtain⟨z,its,r,ob,e,c⟩:=x;exact⟨z,its,r,ob,k _ _ (.inl rfl) e,c⟩
 | dK kvs=>obtain⟨z,y,vs,r,ob,es,ep,e,c⟩:=x;exact⟨z,y,vs,r,ob,es,ep,k _ _ (.inl rfl) e,c⟩
 | dT kvs =>
  obtain⟨z,y,xs,r,ob,es,ep,e,c⟩:=x
  exact⟨z,y,xs,Paired.mapP r fun p q z=>⟨z.1,ht _ _ z.2.1,z.2.2⟩,ob,es,ep,k _ _ (.inl rfl) e,c⟩
 | set S n=>obtain⟨ob,es,ep,t,e,c⟩:=x;exact⟨ob,es,ep,t,k _ _ (.inl rfl) e,c⟩
 | ins C dx fs =>
  obtain⟨d,z,ne,e,mA,⟨od,es,ep,e2,c⟩,r⟩:=x
  exact⟨ho _ d,z,ne,k _ _ (.inl rfl) e,mA,⟨od,es,ep,k _ _ (.inr d) e2,c⟩,r⟩
 | own y=>obtain⟨ob,e⟩:=x;exact⟨ob,k _ _ (.inl rfl) e⟩
 | xd fs=>obtain⟨mA,⟨od,es,ep,e,c⟩,r⟩:=x;exact⟨mA,⟨od,es,ep,k _ _ (.inl rfl) e,c⟩,r⟩
 | rng lo hi=>obtain⟨t,u,v,e⟩:=x;exact⟨t,u,v,k _ _ (.inl rfl) e⟩
 | frz ob u ih=>obtain⟨e,q⟩:=x;exact⟨k _ _ (.inl rfl) e,ih q⟩
 | tbl ps =>
  have e:h.get? a=some { cls:=.none,data:=.fields ps }:=x
  show h'.get? a=some { cls:=.none,data:=.fields ps }
  exact k a _ (.inl rfl) e
 | met f y =>
  have e:h.get? a=some (PySem.W.methodObj (.ref f) (.ref y)):=x
  show h'.get? a=some (PySem.W.methodObj (.ref f) (.ref y))
  exact k a _ (.inl rfl) e
 | ext φ=>obtain⟨p,⟨o,e⟩,st⟩:=x;exact⟨st _ _ p fun o q=>k _ _ (.inl rfl) q,⟨o,k _ _ (.inl rfl) e⟩,st⟩
theorem HOk.lt(x:HOk P w H h)(e:H a=some o):a<h.objs.size:=(x a o e).lt
theorem HOk.fresh(x:HOk P w H h)(e:h.objs.size≤a):H a=none:=by
 cases q:H a with
 | none=>rfl
 | some u=>exact absurd (QB (x.lt q) e) (Q1 _)
theorem HOk.kept(x:HOk P w H h)(k:∀b u,h.get? b=some u→h'.get? b=some u):HOk P w H h':=fun a o e =>
 (x a o e).stay (fun b u _ q=>k b u q) (fun _ q=>q) fun _ _ q=>q
theorem HOk.laid(x:HOk P w H h)(k:∀b u,h.get? b=some u→h'.get? b=some u)(hp:h.objs.size≤a)(new:Zal P w (upd H a o) h' a o):HOk P w (upd H a o) h':=fun b u e=>by
 have hn:=x.fresh hp
 by_cases hb:b=a
 ·subst hb;rw[Zf]at e;cases e;exact new
 ·rw[Zc hb]at e
  exact(x b u e).stay (fun c v _ q=>k c v q) (fun c q=>by rw[Zc (Zb q hn)];exact q) fun c xs q=>by rw[Zc (Zb q hn)];exact q
end
def Rd(H:Hp)(a:Addr)(u:HO):Prop:=H a=some u∨∃o,H a=some (.frz o u)
theorem Rd.ok{P:Program}{w:World}{H:Hp}{h:Heap}{a:Addr}{u:HO}(r:Rd H a u)(x:HOk P w H h):Zal P w H h a u:=by
 rcases r with r|⟨o,r⟩
 ·exact x a u r
 ·obtain⟨_,q⟩:=x a _ r
  exact q
def Mut:Option HO→Prop
 | some (.lst _)=>True
 | some (.dK _)=>True
 | some (.dT _)=>True
 | some (.set _ _)=>True
 | some (.ins _ _ _)=>True
 | some (.ext _)=>True
 | _=>False
section
variable {P:Program} {w:World} {H:Hp} {h h':Heap} {x e:Addr} {o':HO}
theorem HOk.write(ok:HOk P w H h)(mu:Mut (H x))(he:e=x∨H e=some (.own x))(k:∀b u,b≠e→h.get? b=some u→h'.get? b=some u)(heo:∃u,h'.get? e=some u)
  (new:Zal P w (upd H x o') h' x o'):HOk P w (upd H x o') h':=fun b u q=>by
 have nown:∀c y,H c=some (.own y)→c≠x:=fun c y r z=>by subst z;rw[r]at mu;exact mu
 have ntup:∀c xs,H c=some (.tup xs)→c≠x:=fun c xs r z=>by subst z;rw[r]at mu;exact mu
 by_cases hb:b=x
 ·subst hb;rw[Zf]at q;cases q;exact new
 ·rw[Zc hb]at q
  by_cases hbe:b=e
  ·have q':H b=some (.own x):=by
    rcases he with z|z
    ·exact absurd (hbe.trans z) hb
    ·rw[hbe];exact z
   rw[q]at q';cases q'
   obtain⟨v,hv⟩:=heo
   exact⟨v,by rw[hbe];exact hv⟩
  ·refine(ok b u q).stay (fun c v hc r=>k c v ?_ r) (fun c r=>by rw[Zc (nown c b r)];exact r) fun c xs r=>by rw[Zc (ntup c xs r)];exact r
   rcases hc with rfl|hc
   ·exact hbe
   ·rintro rfl
    rcases he with z|z
    ·exact nown c b hc z
    ·rw[hc]at z;cases z;exact hb rfl
end
structure Un (fs ex:List Addr) (H H':Hp) (h h':Heap):Prop where
 keep:∀b o,h.get? b=some o→H b=none→b ∉ fs→b ∉ ex→h'.get? b=some o
 slot:∀b o,h.get? b=some o→H b=none→b∈fs→b ∉ ex→∃sl,h'.get? b=some { o with slots:=sl }
 free:∀b o,h.get? b=some o→H b=none→b ∉ ex→H' b=none
 there:∀b o,h.get? b=some o→b ∉ ex→∃o',h'.get? b=some o'
 tups:∀b xs,H b=some (.tup xs)→H' b=some (.tup xs)
 frzs:∀b o u,H b=some (.frz o u)→H' b=some (.frz o u)
 tbls:∀b ps,H b=some (.tbl ps)→∃more,H' b=some (.tbl (ps++more))
section
variable {fs fs' ex ex':List Addr} {H H1 H2:Hp} {h h1 h2 h':Heap} {a x e:Addr} {o:HO}
theorem Un.any(u:Un fs ex H H1 h h1){b:Addr}{ob:Obj}(q:h.get? b=some ob)(n:H b=none)(hx:b ∉ ex):∃sl,h1.get? b=some { ob with slots:=sl }:=by
 by_cases hb:b∈fs
 ·exact u.slot b ob q n hb hx
 ·exact⟨ob.slots,u.keep b ob q n hb hx⟩
theorem Un.kept(k:∀b u,h.get? b=some u→h'.get? b=some u):Un fs ex H H h h' :=
 ⟨fun b ob q _ _ _=>k b ob q,fun b ob q _ _ _=>⟨ob.slots,k b ob q⟩,fun _ _ _ n _=>n,fun b ob q _=>⟨ob,k b ob q⟩,fun _ _ q=>q,fun _ _ _ q=>q,fun _ ps q=>⟨#[],by rw[q];simp⟩⟩
theorem Un.refl:Un fs ex H H h h:=Un.kept fun _ _ q=>q
theorem Un.laid(k:∀b u,h.get? b=some u→h'.get? b=some u)(hp:h.objs.size≤a)(hn:H a=none):Un fs ex H (upd H a o) h h' where
 keep:=fun b u q _ _ _=>k b u q
 slot:=fun b u q _ _ _=>⟨u.slots,k b u q⟩
 free:=fun b u q n _=>by rw[Zc (Qz (QB (Qj q) hp))];exact n
 there:=fun b u q _=>⟨u,k b u q⟩
 tups:=fun b xs q=>by rw[Zc (Zb q hn)];exact q
 frzs:=fun b u xs q=>by rw[Zc (Zb q hn)];exact q
 tbls:=fun b ps q=>⟨#[],by rw[Zc (Zb q hn),q];simp⟩
theorem Un.write(mu:Mut (H x))(he:e=x∨H e=some (.own x))(k:∀b u,b≠e→h.get? b=some u→h'.get? b=some u)(heo:∃u,h'.get? e=some u):Un fs ex H (upd H x o) h h':=by
 have hx:∀b,H b=none→b≠x:=fun b n z=>by subst z;rw[n]at mu;exact mu
 have hb:∀b,H b=none→b≠e:=fun b n z=>by
  subst z
  rcases he with r|r
  ·exact hx b n r
  ·rw[n]at r;cases r
 have hm:∀b u,H b=some u→¬ Mut (some u)→b≠x:=fun b u q nm z=>by subst z;rw[q]at mu;exact nm mu
 refine⟨fun b u q n _ _=>k b u (hb b n) q,fun b u q n _ _=>⟨u.slots,k b u (hb b n) q⟩,fun b u q n _=>by rw[Zc (hx b n)];exact n,fun b u q _=>?_,
  fun b xs q=>by rw[Zc (hm b _ q fun z=>z)];exact q,fun b u xs q=>by rw[Zc (hm b _ q fun z=>z)];exact q,fun b ps q=>⟨#[],by rw[Zc (hm b _ q fun z=>z),q];simp⟩⟩
 by_cases hbe:b=e
 ·subst hbe;exact heo
 ·exact⟨u,k b u hbe q⟩
end
def trk(h:Heap)(H:Hp):List Addr:=(List.range h.objs.size).filter fun a=>(H a).isSome
def ZgW(h:Heap)(H:Hp):Heap:=PySem.W.hideAll h (trk h H)
theorem ZjG(h:Heap)(H:Hp):(ZgW h H).objs.size=h.objs.size:=PySem.W.hideAll_size _ _
theorem ZlF{h:Heap}{H:Hp}{b:Addr}{o:Obj}(e:h.get? b=some o)(n:H b=none):(ZgW h H).get? b=some o :=
 PySem.W.hideAll_get _ e fun hm=>by
  have q:(H b).isSome=true:=(QR.mp hm).2
  rw[n]at q;simp at q
theorem ZmO{h:Heap}{H:Hp}{b:Addr}{o:Obj}(e:(ZgW h H).get? b=some o):h.get? b=some o∧H b=none:=by
 have e':h.get? b=some o:=PySem.W.of_hideAll (trk h H) e
 refine⟨e',?_⟩
 cases q:H b with
 | none=>rfl
 | some x =>
  have hm:b∈trk h H:=QR.mpr ⟨Qae.mpr (Qj e'),by simp[q]⟩
  have z:(ZgW h H).get? b=none:=PySem.W.hideAll_none (trk h H) hm
  rw[z]at e;cases e
def ZmL(g h:Heap)(L:Addr):List (Addr×Obj):=(List.range h.objs.size).filterMap fun a=>if a=L∨(g.get? a).isSome=true then none else (h.get? a).map fun o=>(a,o)
def rest(g h:Heap)(L d:Addr):List (Addr×Obj):=(ZmL g h L).filter fun p=>decide (p.1≠d)
structure Mod (K:PySem.W.Frag) (mg:Str→Option Value) (base:Heap):Prop where
 kin:K.In base
 glob:base.Ns mainGlobals mg
 blt:∃mb,base.Ns builtinsNs mb∧∀x:Str,x ≠ "__name__"→mb x=bootBuiltins x
 nolimit:base.NoLimit
structure Cx where
 prog:Program
 w:World
 K:PySem.W.Frag
 mg:Str→Option Value
 base:Heap
 A:Around
 N:List Str
 s₀:Shared
 H₀:Hp
 env:Env
 outer:List Env
 stack:List Env
 ex:List Addr
 fn:Str→Bool
 calm:Bool
 pn:List (Addr×Obj)
 xe:Value→Shared→Prop
def frs(l:List Env):List Addr:=l.filterMap (·.frame)
abbrev Cx.fs(X:Cx):List Addr:=frs X.outer
def Vis(sc:Scope)(x:Str):Prop:=sc.names.lookup x=some .local∨sc.names.lookup x=some .cell∨sc.names.lookup x=some .free
def Loc(sc:Scope)(x:Str):Prop:=sc.names.lookup x=some .local∨sc.names.lookup x=some .cell
def Zqz(env:Env)(h:Heap)(m:Str→Option Value)(x:Str)(u:Value):Prop :=
 (env.kindOf x=some .local∧m x=some u)∨((env.kindOf x=some .cell∨env.kindOf x=some .free)∧∃c,env.cells.lookup x=some c∧h.IsCell c (some u))
structure Cx.Ok (X:Cx):Prop where
 mod:Mod X.K X.mg X.base
 kind:X.env.scope.kind=.function
 glob:X.env.globals=mainGlobals
 blt:X.env.builtins=builtinsNs
 above:X.s₀.heap.objs.size≤X.env.locals
 inj:∀x y c,X.env.cells.lookup x=some c→X.env.cells.lookup y=some c→x=y
 has:∀x,(X.env.kindOf x=some .cell∨X.env.kindOf x=some .free)→∃c,X.env.cells.lookup x=some c
 cab:∀x c,X.fn x=true→X.env.cells.lookup x=some c→X.s₀.heap.objs.size≤c
 hd:X.calm=true→X.A.handled=none
 frames:X.A.frames=some X.stack
 stk:X.stack=X.outer∨(X.stack=X.env::X.outer∧X.env.frame=some X.env.locals)
 exf:∀b∈X.ex,b≠X.env.locals∧∀x c,X.env.cells.lookup x=some c→c≠b
 bs:∀b o,X.base.get? b=some o→X.s₀.heap.get? b=some o∧X.H₀ b=none
 bsz:X.base.objs.size≤X.s₀.heap.objs.size
 noex:∀b o,X.base.get? b=some o→b ∉ X.ex
 exfs:∀b∈X.ex,b ∉ X.fs
 funs:X.s₀.heap.FunFrames X.base X.outer
 frf:∀b∈X.fs,X.H₀ b=none
structure Inv (X:Cx) (pins:List (Addr×Obj)) (σ:List (Option V)) (H:Hp) (s:Shared):Prop where
 ok:X.Ok
 os:s.os=X.s₀.os
 bare:AllBare s.gens
 base:Un X.fs X.ex X.H₀ H X.s₀.heap s.heap
 loc:∃m,s.heap.Ns X.env.locals m∧∀ (i:Nat) (x:Str) (v:V),X.N[i]? = some x→σ[i]? = some (some v)→Vis X.env.scope x→∃u,Zy v u∧Zqz X.env s.heap m x u
 cell:∀x c,X.env.cells.lookup x=some c→∃v,s.heap.IsCell c v
 free:H X.env.locals=none
 freeC:∀x c,X.env.cells.lookup x=some c→H c=none
 pin:∀p∈X.pn++pins,s.heap.get? p.1=some p.2∧H p.1=none∧p.1≠X.env.locals∧p.1 ∉ X.fs∧∀v,p.2.data≠.cell v
 hok:HOk X.prog X.w H s.heap
 len:σ.length=X.N.length
section
variable {X:Cx} {pins:List (Addr×Obj)} {σ:List (Option V)} {H H':Hp} {s:Shared} {h':Heap}
theorem Cx.Ok.nofr(ok:X.Ok){b:Addr}{o:Obj}(e:X.base.get? b=some o):b ∉ X.fs:=fun hb=>by
 have:=(ok.funs.mem hb).1
 rw[e]at this;cases this
theorem Inv.bs(I:Inv X pins σ H s):∀b o,X.base.get? b=some o→s.heap.get? b=some o∧H b=none:=fun b o e =>
 ⟨I.base.keep b o (I.ok.bs b o e).1 (I.ok.bs b o e).2 (I.ok.nofr e) (I.ok.noex b o e),I.base.free b o (I.ok.bs b o e).1 (I.ok.bs b o e).2 (I.ok.noex b o e)⟩
theorem Inv.bk(I:Inv X pins σ H s):∀b o,X.base.get? b=some o→s.heap.get? b=some o:=fun b o e=>(I.bs b o e).1
theorem Inv.mod(I:Inv X pins σ H s):Mod X.K X.mg X.base:=I.ok.mod
theorem Inv.kIn(I:Inv X pins σ H s):X.K.In s.heap:=I.ok.mod.kin.keeps I.bk
theorem Inv.lt(I:Inv X pins σ H s):X.env.locals<s.heap.objs.size:=let ⟨_,hn,_⟩:=I.loc;hn.lt
theorem Inv.sz(I:Inv X pins σ H s):X.s₀.heap.objs.size≤s.heap.objs.size:=QH I.ok.above (Qat I.lt)
theorem Inv.nofs(I:Inv X pins σ H s){a:Addr}(h:s.heap.objs.size≤a):a ∉ X.fs:=fun hb=>by
 obtain⟨_,o,ho,_⟩:=I.ok.funs.mem hb
 exact absurd (QB (Qj ho) (QH I.sz h)) (Q1 _)
theorem Inv.cne(I:Inv X pins σ H s):∀x c,X.env.cells.lookup x=some c→c≠X.env.locals:=fun x c e z=>by
 obtain⟨v,o,ho,hd⟩:=I.cell x c e
 obtain⟨m,⟨o',es,ep,ho',hd',_⟩,_⟩:=I.loc
 rw[z,ho']at ho;cases ho;rw[hd']at hd;cases hd
theorem Inv.funs(I:Inv X pins σ H s):s.heap.FunFrames X.base X.outer:=by
 have all:∀ (l:List Env),(∀b∈frs l,b∈X.fs)→X.s₀.heap.FunFrames X.base l→s.heap.FunFrames X.base l:=by
  intro l
  induction l with
  | nil=>intro _ _;trivial
  | cons env r ih =>
   intro hs hl
   obtain⟨hk,⟨L,o,hf,hn,ho,hd⟩,hr⟩:=hl
   have hL:L∈X.fs:=hs L (by unfold frs;rw[Qaj,hf];exact QM)
   obtain⟨sl,e⟩:=I.base.slot L o ho (I.ok.frf L hL) hL fun z=>I.ok.exfs L z hL
   exact⟨hk,⟨L,_,hf,hn,e,hd⟩,ih (fun b hb=>hs b (by unfold frs;rw[Qaj,hf];exact Qm _ hb)) hr⟩
 exact all X.outer (fun _ hb=>hb) I.ok.funs
theorem Inv.stack(I:Inv X pins σ H s):s.heap.FunFrames X.base X.stack:=by
 rcases I.ok.stk with e|⟨e,hf⟩
 ·rw[e];exact I.funs
 ·rw[e]
  obtain⟨m,hn,_⟩:=I.loc
  refine .cons (by rw[I.ok.kind];decide) hf hn ?_ I.funs
  exact Heap.get?_none_of_le (QH I.ok.bsz I.ok.above)
theorem Inv.stkSub(I:Inv X pins σ H s):∀b∈frs X.stack,b∈X.env.locals::X.fs:=fun b hb=>by
 rcases I.ok.stk with e|⟨e,hf⟩
 ·rw[e]at hb;exact Qm _ hb
 ·rw[e]at hb
  unfold frs at hb
  rw[Qaj,hf]at hb
  exact hb
theorem Inv.stkFree(I:Inv X pins σ H s):∀b∈frs X.stack,H b=none:=fun b hb=>by
 rcases QG.mp (I.stkSub b hb) with e|hb
 ·rw[e];exact I.free
 ·obtain⟨_,o,ho,_⟩:=I.ok.funs.mem hb
  exact I.base.free b o ho (I.ok.frf b hb) fun z=>I.ok.exfs b z hb
theorem Inv.step{g':Array GenState}{t':Nat}{d':Drawn}{ch:List Addr}(I:Inv X pins σ H s)
  (hch:∀b∈ch,(b∈X.ex∨X.s₀.heap.objs.size≤b)∧b≠X.env.locals∧(∀x c,X.env.cells.lookup x=some c→c≠b)∧∀p∈X.pn++pins,p.1≠b)
  (keep:∀b o,b≠X.env.locals→b ∉ X.fs→b ∉ ch→s.heap.get? b=some o→H b=none→h'.get? b=some o)
  (slot:∀b o,b≠X.env.locals→b∈X.fs→b ∉ ch→s.heap.get? b=some o→H b=none→∃sl,h'.get? b=some { o with slots:=sl }) (free:∀b o,b ∉ ch→s.heap.get? b=some o→H b=none→H' b=none)
  (there:∀b o,b ∉ ch→s.heap.get? b=some o→∃o',h'.get? b=some o')
  (tups:∀b xs,H b=some (.tup xs)→H' b=some (.tup xs)) (frzs:∀b o u,H b=some (.frz o u)→H' b=some (.frz o u)) (tbls:∀b ps,H b=some (.tbl ps)→∃more,H' b=some (.tbl (ps++more)))
  (ns:∀m,s.heap.Ns X.env.locals m→h'.Ns X.env.locals m) (hok:HOk X.prog X.w H' h') (hg:AllBare g') :
  Inv X pins σ H' { s with heap:=h',gens:=g',drawn:=d',toks:=t' }:=by
 have neL:∀b o,X.s₀.heap.get? b=some o→b≠X.env.locals:=fun b o e=>Qz (QB (Qj e) I.ok.above)
 have neC:∀b o,X.s₀.heap.get? b=some o→b ∉ X.ex→b ∉ ch:=fun b o e hx hb=>by
  rcases(hch b hb).1 with z|z
  ·exact hx z
  ·exact absurd (QB (Qj e) z) (Q1 _)
 have cellK:∀x c,X.env.cells.lookup x=some c→∀v,s.heap.IsCell c v→h'.IsCell c v:=fun x c e v ⟨o,ho,hd⟩=>by
  have nch:c ∉ ch:=fun z=>(hch c z).2.2.1 x c e rfl
  by_cases hc:c∈X.fs
  ·obtain⟨sl,q⟩:=slot c o (I.cne x c e) hc nch ho (I.freeC x c e)
   exact⟨_,q,hd⟩
  ·exact⟨o,keep c o (I.cne x c e) hc nch ho (I.freeC x c e),hd⟩
 refine⟨I.ok,I.os,hg,⟨fun b o e n hb hx=>?_,fun b o e n hb hx=>?_,fun b o e n hx=>?_,fun b o e hx=>?_,fun b xs e=>tups b xs (I.base.tups b xs e),fun b o xs e=>frzs b o xs (I.base.frzs b o xs e),fun b ps e=>?_⟩,?_,fun x c e=>?_,?_,fun x c e=>?_,fun p hp=>?_,hok,I.len⟩
 ·exact keep b o (neL b o e) hb (neC b o e hx) (I.base.keep b o e n hb hx) (I.base.free b o e n hx)
 ·obtain⟨sl,e1⟩:=I.base.slot b o e n hb hx
  obtain⟨sl',e2⟩:=slot b _ (neL b o e) hb (neC b o e hx) e1 (I.base.free b o e n hx)
  exact⟨sl',e2⟩
 ·obtain⟨o',e1⟩:=I.base.there b o e hx
  exact free b o' (neC b o e hx) e1 (I.base.free b o e n hx)
 ·obtain⟨o',e1⟩:=I.base.there b o e hx
  exact there b o' (neC b o e hx) e1
 ·obtain⟨m1,e1⟩:=I.base.tbls b ps e
  obtain⟨m2,e2⟩:=tbls b _ e1
  exact⟨m1++m2,by rw[e2,Array.append_assoc]⟩
 ·obtain⟨m,hn,hl⟩:=I.loc
  refine⟨m,ns m hn,fun i x v e1 e2 e3=>?_⟩
  obtain⟨u,r,l⟩:=hl i x v e1 e2 e3
  refine⟨u,r,?_⟩
  rcases l with l|⟨k,c,e,z⟩
  ·exact .inl l
  ·exact .inr ⟨k,c,e,cellK x c e _ z⟩
 ·obtain⟨v,z⟩:=I.cell x c e
  exact⟨v,cellK x c e v z⟩
 ·obtain⟨m,⟨o,_,_,ho,_⟩,_⟩:=I.loc
  exact free _ o (fun z=>(hch _ z).2.1 rfl) ho I.free
 ·obtain⟨v,o,ho,hd⟩:=I.cell x c e
  exact free c o (fun z=>(hch c z).2.2.1 x c e rfl) ho (I.freeC x c e)
 ·obtain⟨e,n,ne,nf,d⟩:=I.pin p hp
  have nch:p.1 ∉ ch:=fun z=>(hch p.1 z).2.2.2 p hp rfl
  exact⟨keep p.1 p.2 ne nf nch e n,free p.1 p.2 nch e n,ne,nf,d⟩
theorem Inv.un{t':Nat}(I:Inv X pins σ H s)(u:Un X.fs [] H H' s.heap h')(hok:HOk X.prog X.w H' h'):Inv X pins σ H' { s with heap:=h',toks:=t' }:=by
 obtain⟨m,⟨o,es,ep,ho,r⟩,_⟩:=id I.loc
 obtain⟨sl,hL⟩:=u.any ho I.free (by simp)
 exact I.step (g':=s.gens) (d':=s.drawn) (ch:=[]) (fun _ z=>nomatch z) (fun b o _ hb _ e n=>u.keep b o e n hb (by simp)) (fun b o _ hb _ e n=>u.slot b o e n hb (by simp)) (fun b o _ e n=>u.free b o e n (by simp)) (fun b o _ e=>u.there b o e (by simp)) u.tups u.frzs u.tbls (fun m' hm=>by
  obtain⟨o',es',ep',ho',r'⟩:=hm
  rw[ho]at ho';cases ho'
  exact⟨_,es',ep',hL,r'⟩) hok I.bare
theorem Inv.call{g':Array GenState}{t':Nat}{d':Drawn}{ch:List Addr}(I:Inv X pins σ H s)(u:Un (frs X.stack) ch H H' s.heap h')(hok:HOk X.prog X.w H' h')(hg:AllBare g')
  (hch:∀b∈ch,(b∈X.ex∨X.s₀.heap.objs.size≤b)∧b≠X.env.locals∧(∀x c,X.env.cells.lookup x=some c→c≠b)∧∀p∈X.pn++pins,p.1≠b) :
  Inv X pins σ H' { s with heap:=h',gens:=g',drawn:=d',toks:=t' }:=by
 obtain⟨m,⟨o,es,ep,ho,r⟩,_⟩:=id I.loc
 obtain⟨sl,hL⟩:=u.any ho I.free fun z=>(hch _ z).2.1 rfl
 exact I.step (ch:=ch) hch (fun b o hL hb hc e n=>u.keep b o e n (fun z=>(QG.mp (I.stkSub b z)).elim hL hb) hc) (fun b o _ _ hc e n=>u.any e n hc) (fun b o hc e n=>u.free b o e n hc) (fun b o hc e=>u.there b o e hc) u.tups u.frzs u.tbls (fun m' hm=>by
  obtain⟨o',es',ep',ho',r'⟩:=hm
  rw[ho]at ho';cases ho'
  exact⟨_,es',ep',hL,r'⟩) hok hg
theorem Inv.turned{t':Nat}{it:Addr}(I:Inv X pins σ H s)(k:∀b o,b≠it→s.heap.get? b=some o→h'.get? b=some o)(hn:H it=none)(hL:it≠X.env.locals)
  (h1:it∈X.ex∨X.s₀.heap.objs.size≤it) (h2:∀x c,X.env.cells.lookup x=some c→c≠it) (h3:∀p∈X.pn++pins,p.1≠it):Inv X pins σ H { s with heap:=h',toks:=t' }:=by
 have nit:∀b u,H b=some u→b≠it:=fun b u e z=>by rw[z,hn]at e;cases e
 refine I.step (g':=s.gens) (d':=s.drawn) (ch:=[it]) (fun b hb=>?_) (fun b o _ _ hc e _=>k b o (fun z=>hc (by simp[z])) e) (fun b o _ _ hc e _=>⟨o.slots,k b o (fun z=>hc (by simp[z])) e⟩) (fun _ _ _ _ n=>n)
  (fun b o hc e=>⟨o,k b o (fun z=>hc (by simp[z])) e⟩) (fun _ _ e=>e) (fun _ _ _ e=>e) (fun b ps e=>⟨#[],by rw[e];simp⟩) (fun m hm=>?_) (fun b u e=>?_) I.bare
 ·have e:b=it:=by simpa using hb
  subst e
  exact⟨h1,hL,h2,h3⟩
 ·obtain⟨o,es,ep,ho,r⟩:=hm
  exact⟨o,es,ep,k _ o (Ne.symm hL) ho,r⟩
 ·refine(I.hok b u e).stay (fun c v hc q=>k c v ?_ q) (fun _ q=>q) fun _ _ q=>q
  rcases hc with z|z
  ·rw[z];exact nit b u e
  ·exact nit c _ z
theorem Inv.tok(I:Inv X pins σ H s)(t:Nat):Inv X pins σ H { s with toks:=t }:=I.un (h':=s.heap) (t':=t) Un.refl I.hok
theorem Inv.kept{t':Nat}(I:Inv X pins σ H s)(k:∀b u,s.heap.get? b=some u→h'.get? b=some u):Inv X pins σ H { s with heap:=h',toks:=t' }:=I.un (Un.kept k) (I.hok.kept k)
theorem Inv.laid{a:Addr}{o:HO}{t':Nat}(I:Inv X pins σ H s)(k:∀b u,s.heap.get? b=some u→h'.get? b=some u)(hp:s.heap.objs.size≤a)(new:Zal X.prog X.w (upd H a o) h' a o) :
  Inv X pins σ (upd H a o) { s with heap:=h',toks:=t' }:=I.un (Un.laid k hp (I.hok.fresh hp)) (I.hok.laid k hp new)
theorem Inv.write{x e:Addr}{o:HO}{t':Nat}(I:Inv X pins σ H s)(mu:Mut (H x))(he:e=x∨H e=some (.own x))(k:∀b u,b≠e→s.heap.get? b=some u→h'.get? b=some u)(heo:∃u,h'.get? e=some u)
  (new:Zal X.prog X.w (upd H x o) h' x o):Inv X pins σ (upd H x o) { s with heap:=h',toks:=t' }:=I.un (Un.write mu he k heo) (I.hok.write mu he k heo new)
theorem Inv.pins_of{pins':List (Addr×Obj)}(I:Inv X pins σ H s)(h:∀p∈pins',s.heap.get? p.1=some p.2∧H p.1=none∧p.1≠X.env.locals∧p.1 ∉ X.fs∧∀v,p.2.data≠.cell v):Inv X pins' σ H s :=
 ⟨I.ok,I.os,I.bare,I.base,I.loc,I.cell,I.free,I.freeC,fun p hp=>(Qk.mp hp).elim (fun z=>I.pin p (QL _ z)) (h p),I.hok,I.len⟩
theorem Zg9{N:List Str}(hN:N.Nodup){i j:Nat}{x:Str}(a:N[i]? = some x)(b:N[j]? = some x):i=j:=by
 obtain⟨h1,e1⟩:=Qc.mp a
 obtain⟨h2,e2⟩:=Qc.mp b
 exact(List.getElem_inj hN).mp (e1.trans e2.symm)
theorem ZeB{M:Model}{A:Around}{E:Value→Shared→Prop}{i:Nat}{x:Str}{v:V}{u:Value}{Q:Unit→Shared→Prop}(I:Inv X pins σ H s)(hN:X.N.Nodup)(hi:X.N[i]? = some x)(hx:Loc X.env.scope x)(r:Zy v u)
  (h:∀s',Inv X pins (σ.set i (some v)) H s'→(∃a,Heap.SameBut a s.heap s'.heap∧(a=X.env.locals∨X.env.cells.lookup x=some a))→Q () s') (hf:X.fn x=true∨X.env.scope.names.lookup x=some .local:=by first|exact .inl rfl|exact .inr rfl|assumption):wpAny M A (storeName X.env x u) Q E s:=by
 obtain⟨m,hn,hl⟩:=id I.loc
 have hcls:(X.env.scope.kind == .class||(X.env.scope.kind == .module&&X.env.locals != X.env.globals))=false:=by rw[I.ok.kind];rfl
 have hiσ:i<σ.length:=by rw[I.len];exact(Qc.mp hi).1
 have cne:=I.cne
 have tracked:∀ {a:Addr} {h':Heap},(∃o,s.heap.get? a=some o∧H a=none)→Heap.SameBut a s.heap h'→HOk X.prog X.w H h':=fun {a h'} ha hs b ob e=>by
  obtain⟨_,_,hfree⟩:=ha
  refine(I.hok b ob e).stay (fun c w' hc q=>(hs.2 c ?_).trans q) (fun _ q=>q) fun _ _ q=>q
  rintro rfl
  rcases hc with rfl|hc
  ·rw[hfree]at e;cases e
  ·rw[hfree]at hc;cases hc
 rcases hx with hk|hk
 ·refine wpAny_storeName_local hk hn (fun h' hn' hs=>?_) hcls
  obtain⟨oL,_,_,hoL,_⟩:=id hn
  refine h _ ⟨I.ok,I.os,I.bare,⟨fun b o e n hb hx=>?_,fun b o e n hb hx=>?_,I.base.free,fun b o e hx=>?_,I.base.tups,I.base.frzs,I.base.tbls⟩,⟨_,hn',fun j y v' e1 e2 e3=>?_⟩,fun y c e=>?_,I.free,I.freeC,fun p hp=>?_,tracked ⟨oL,hoL,I.free⟩ hs,by simpa using I.len⟩ ⟨_,hs,.inl rfl⟩
  ·exact(hs.2 b (Qz (QB (Qj e) I.ok.above))).trans (I.base.keep b o e n hb hx)
  ·obtain⟨sl,e1⟩:=I.base.slot b o e n hb hx
   exact⟨sl,(hs.2 b (Qz (QB (Qj e) I.ok.above))).trans e1⟩
  ·obtain⟨o',e1⟩:=I.base.there b o e hx
   exact⟨o',(hs.2 b (Qz (QB (Qj e) I.ok.above))).trans e1⟩
  ·by_cases hj:j=i
   ·subst hj
    rw[hi]at e1;cases e1
    rw[List.getElem?_set_self hiσ]at e2
    cases e2
    exact⟨u,r,.inl ⟨hk,by simp⟩⟩
   ·rw[List.getElem?_set_ne (Ne.symm hj)]at e2
    obtain⟨u',r',q⟩:=hl j y v' e1 e2 e3
    refine⟨u',r',?_⟩
    rcases q with⟨k,e⟩|⟨k,c,e,z⟩
    ·refine .inl ⟨k,?_⟩
     have:y≠x:=fun e=>hj (Zg9 hN e1 (e ▸ hi))
     simp[this,e]
    ·exact .inr ⟨k,c,e,z.sameBut hs (cne y c e)⟩
  ·obtain⟨w',z⟩:=I.cell y c e
   exact⟨w',z.sameBut hs (cne y c e)⟩
  ·obtain⟨e,n,ne,nf,d⟩:=I.pin p hp
   exact⟨(hs.2 p.1 ne).trans e,n,ne,nf,d⟩
 ·have hfn:X.fn x=true:=by
   rcases hf with z|z
   ·exact z
   ·rw[z]at hk;cases hk
  obtain⟨c,hc⟩:=I.ok.has x (.inl hk)
  obtain⟨w',z⟩:=I.cell x c hc
  refine wpAny_storeName_cell I.ok.kind hk hc z (fun h' hc' hs=>?_)
  obtain⟨oc,hoc,hocd⟩:=id z
  refine h { s with heap:=h' } ⟨I.ok,I.os,I.bare,⟨fun b o e n hb hx=>?_,fun b o e n hb hx=>?_,I.base.free,fun b o e hx=>?_,I.base.tups,I.base.frzs,I.base.tbls⟩,⟨m,hn.sameBut hs (Ne.symm (cne x c hc)),fun j y v' e1 e2 e3=>?_⟩,fun y c' e=>?_,I.free,I.freeC,fun p hp=>?_,tracked ⟨oc,hoc,I.freeC x c hc⟩ hs,by simpa using I.len⟩ ⟨c,hs,.inr hc⟩
  ·exact(hs.2 b (Qz (QB (Qj e) (I.ok.cab x c hfn hc)))).trans (I.base.keep b o e n hb hx)
  ·obtain⟨sl,e1⟩:=I.base.slot b o e n hb hx
   exact⟨sl,(hs.2 b (Qz (QB (Qj e) (I.ok.cab x c hfn hc)))).trans e1⟩
  ·obtain⟨o',e1⟩:=I.base.there b o e hx
   exact⟨o',(hs.2 b (Qz (QB (Qj e) (I.ok.cab x c hfn hc)))).trans e1⟩
  ·by_cases hj:j=i
   ·subst hj
    rw[hi]at e1;cases e1
    rw[List.getElem?_set_self hiσ]at e2
    cases e2
    exact⟨u,r,.inr ⟨.inl hk,c,hc,hc'⟩⟩
   ·rw[List.getElem?_set_ne (Ne.symm hj)]at e2
    obtain⟨u',r',q⟩:=hl j y v' e1 e2 e3
    refine⟨u',r',?_⟩
    rcases q with q|⟨k,c',e,z'⟩
    ·exact .inl q
    ·refine .inr ⟨k,c',e,z'.sameBut hs ?_⟩
     rintro rfl
     exact hj (Zg9 hN e1 (I.ok.inj _ _ _ e hc ▸ hi))
  ·by_cases hcc:c'=c
   ·subst hcc;exact⟨_,hc'⟩
   ·obtain⟨w2,z2⟩:=I.cell y c' e
    exact⟨w2,z2.sameBut hs hcc⟩
  ·obtain⟨e,n,ne,nf,d⟩:=I.pin p hp
   refine⟨(hs.2 p.1 ?_).trans e,n,ne,nf,d⟩
   intro q
   rw[q,hoc]at e
   have q':oc=p.2:=Qo e
   exact d w' (by rw[← q'];exact hocd)
theorem ZfB{M:Model}{A:Around}{E:Value→Shared→Prop}{i:Nat}{x:Str}{v:V}{u:Value}{Q:Unit→Shared→Prop}(I:Inv X pins σ H s)(hN:X.N.Nodup)(hi:X.N[i]? = some x)(hx:Loc X.env.scope x)(r:Zy v u)
  (h:∀s',Inv X pins (σ.set i (some v)) H s'→Q () s') (hf:X.fn x=true∨X.env.scope.names.lookup x=some .local:=by first|exact .inl rfl|exact .inr rfl|assumption):wpAny M A (storeName X.env x u) Q E s :=
 ZeB I hN hi hx r (fun s' I' _=>h s' I') hf
theorem Inv.call'{s':Shared}{ch:List Addr}(I:Inv X pins σ H s)(ho:s'.os=s.os)(u:Un (frs X.stack) ch H H' s.heap s'.heap)(hok:HOk X.prog X.w H' s'.heap)(hg:AllBare s'.gens)
  (hch:∀b∈ch,(b∈X.ex∨X.s₀.heap.objs.size≤b)∧b≠X.env.locals∧(∀x c,X.env.cells.lookup x=some c→c≠b)∧∀p∈X.pn++pins,p.1≠b):Inv X pins σ H' s':=by
 obtain⟨h',g',d',t',o'⟩:=s'
 have e:o'=s.os:=ho
 subst e
 exact I.call (g':=g') (t':=t') (d':=d') u hok hg hch
end
abbrev XK:=Value→Option Addr→Hp→Prop
abbrev St:=List (Option V)
abbrev VK:=V→Hp→Prop
abbrev TE:=St→Hp→VK→Prop
abbrev TT:=St→Hp→(Bool→Hp→Prop)→Prop
abbrev TA:=St→Hp→(List V→Hp→Prop)→Prop
structure ZeV where
 nx:St→Hp→Prop
 rt:VK
 bk:St→Hp→Prop:=fun _ _=>False
 ct:St→Hp→Prop:=fun _ _=>False
abbrev TS:=ZeV→St→Hp→Prop
def EP(X:Cx)(pins:List (Addr×Obj))(σ:St)(Q:VK)(u:Value)(s':Shared):Prop:=∃v H',Inv X pins σ H' s'∧Zy v u∧Q v H'
def TP(X:Cx)(pins:List (Addr×Obj))(σ:St)(Q:Bool→Hp→Prop)(b:Bool)(s':Shared):Prop:=∃H',Inv X pins σ H' s'∧Q b H'
def AP(X:Cx)(pins:List (Addr×Obj))(σ:St)(Q:List V→Hp→Prop)(us:List Value)(s':Shared):Prop:=∃vs H',Inv X pins σ H' s'∧ZB vs us∧Q vs H'
def SP(X:Cx)(pins:List (Addr×Obj))(D:ZeV)(f:Flow)(s':Shared):Prop :=
 match f with
 | .next=>∃σ' H',Inv X pins σ' H' s'∧D.nx σ' H'
 | .brk=>∃σ' H',Inv X pins σ' H' s'∧D.bk σ' H'
 | .cont=>∃σ' H',Inv X pins σ' H' s'∧D.ct σ' H'
 | .ret u=>∃v σ' H',Inv X pins σ' H' s'∧Zy v u∧D.rt v H'
def PE(X:Cx)(e:Expr)(t:TE):Prop :=
 ∀ (pins:List (Addr×Obj)) (s:Shared) (σ:St) (H:Hp) (Q:VK),Inv X pins σ H s→t σ H Q→wpAny (model X.prog X.w) X.A (eval e X.env) (EP X pins σ Q) X.xe s
def PT(X:Cx)(e:Expr)(t:TT):Prop :=
 ∀ (pins:List (Addr×Obj)) (s:Shared) (σ:St) (H:Hp) (Q:Bool→Hp→Prop),Inv X pins σ H s→t σ H Q→wpAny (model X.prog X.w) X.A (isTrue e X.env (eval e X.env)) (TP X pins σ Q) X.xe s
def PW(X:Cx)(e:Expr)(t:TT):Prop :=
 ∀ (whole:Sem Value) (pins:List (Addr×Obj)) (s:Shared) (σ:St) (H:Hp) (Q:Bool→Hp→Prop),Inv X pins σ H s→t σ H Q→wpAny (model X.prog X.w) X.A (isTrue e X.env whole) (TP X pins σ Q) X.xe s
theorem PW.pt{X:Cx}{e:Expr}{t:TT}(h:PW X e t):PT X e t:=h _
def PA(X:Cx)(es:List Expr)(t:TA):Prop :=
 ∀ (pos:Pos) (pins:List (Addr×Obj)) (s:Shared) (σ:St) (H:Hp) (Q:List V→Hp→Prop),Inv X pins σ H s→t σ H Q→wpAny (model X.prog X.w) X.A (spliced (backTo pos (starEach es X.env))) (AP X pins σ Q) X.xe s
def PS(X:Cx)(st:Stmt)(t:TS):Prop :=
 ∀ (pins:List (Addr×Obj)) (s:Shared) (σ:St) (H:Hp) (D:ZeV),Inv X pins σ H s→t D σ H→wpAny (model X.prog X.w) X.A (exec st X.env) (SP X pins D) X.xe s
def PSs(X:Cx)(st:List Stmt)(t:TS):Prop :=
 ∀ (pins:List (Addr×Obj)) (s:Shared) (σ:St) (H:Hp) (D:ZeV),Inv X pins σ H s→t D σ H→wpAny (model X.prog X.w) X.A (execs st X.env) (SP X pins D) X.xe s
theorem thn{α:Type}{t:Sem α}{Q Q':α→Shared→Prop}{M:Model}{A:Around}{E:Value→Shared→Prop}{s:Shared}(h:wpAny M A t Q E s)(hQ:∀a s,Q a s→Q' a s):wpAny M A t Q' E s:=wpAny_mono h hQ fun _ _ x=>x
section
variable {X:Cx}
def ZnB(i:Nat):TE:=fun σ H Q=>∃v,σ[i]? = some (some v)∧Q v H
def tC(v:V):TE:=fun _ H Q=>Q v H
theorem Zib{i:Nat}{x:Str}{pos:Pos}(hN:X.N[i]? = some x)(hv:Vis X.env.scope x)(hd:(x == ("__debug__" : Str))=false:=by decide)(hcd:(x == ("__classdict__" : Str))=false:=by decide):PE X (.Name x pos) (ZnB i):=by
 intro pins s σ H Q I h
 obtain⟨v,e,h⟩:=h
 obtain⟨m,hn,hl⟩:=I.loc
 obtain⟨u,r,l⟩:=hl i x v hN e hv
 have fin:EP X pins σ Q u s:=⟨v,H,I,r,h⟩
 rcases l with⟨hk,hm⟩|⟨hk,c,hc,hcell⟩
 ·exact wpAny_Name (wpAny_loadName_local I.ok.kind hk hn hm fin) hd
 ·rcases hk with hk|hk
  ·exact wpAny_Name (wpAny_loadName_cell I.ok.kind hk hc hcell fin) hd
  ·exact wpAny_Name (wpAny_loadName_free I.ok.kind hk hc hcell fin hcd) hd
theorem Zh{i j pos}:PE X (.Constant (.int i) j pos) (tC (.int i)):=fun _ _ _ H _ I h=>wpAny_Constant_int ⟨.int i,H,I.tok _,⟨_,rfl⟩,h⟩
theorem Zb3{b j pos}:PE X (.Constant (.bool b) j pos) (tC (.bl b)):=fun _ _ _ H _ I h=>Constant_bool ⟨.bl b,H,I,rfl,h⟩
theorem ZS{j pos}:PE X (.Constant .none j pos) (tC .non):=fun _ _ _ H _ I h=>Constant_none ⟨.non,H,I,rfl,h⟩
theorem Za6{x j pos}:PE X (.Constant (.str x) j pos) (tC (.str x)):=fun _ _ _ H _ I h=>Calls.Constant_str ⟨.str x,H,I.tok _,⟨_,rfl⟩,h⟩
def Gl(X:Cx)(x:Str):Prop:=X.env.kindOf x=some .globalImplicit
theorem ZgS{E:Value→Shared→Prop}{pins:List (Addr×Obj)}{s:Shared}{σ:St}{H:Hp}{x:Str}{u:Value}{pos:Pos}{Q:Value→Shared→Prop}(I:Inv X pins σ H s)(hg:Gl X x)(hm:X.mg x=some u)(h:Q u s)
  (hd:(x == ("__debug__" : Str))=false:=by decide):wpAny (model X.prog X.w) X.A (eval (.Name x pos) X.env) Q E s :=
 Calls.Name_function_global I.ok.kind hg (Calls.loadGlobal_global (by rw[I.ok.glob];exact I.mod.glob.keeps I.bk) hm h) hd
theorem ZdT{E:Value→Shared→Prop}{pins:List (Addr×Obj)}{s:Shared}{σ:St}{H:Hp}{x:Str}{u:Value}{pos:Pos}{Q:Value→Shared→Prop}(I:Inv X pins σ H s)(hg:Gl X x)(hm:X.mg x=none)(hv:bootBuiltins x=some u)(h:Q u s)
  (hn:x ≠ "__name__":=by decide) (hd:(x == ("__debug__" : Str))=false:=by decide):wpAny (model X.prog X.w) X.A (eval (.Name x pos) X.env) Q E s:=by
 obtain⟨mb,h1,h2⟩:=I.mod.blt
 exact Calls.Name_function_global I.ok.kind hg (Calls.loadGlobal_builtin (by rw[I.ok.glob];exact I.mod.glob.keeps I.bk) hm (by rw[I.ok.blt];exact h1.keeps I.bk) ((h2 x hn).trans hv) h) hd
theorem Zny{x:Str}{v:V}{u:Value}{pos:Pos}(hg:Gl X x)(hm:X.mg x=some u)(r:Zy v u)(hd:(x == ("__debug__" : Str))=false:=by decide):PE X (.Name x pos) (tC v) :=
 fun _ _ _ H _ I h=>ZgS I hg hm ⟨v,H,I,r,h⟩ hd
theorem Zmw{x:Str}{v:V}{u:Value}{pos:Pos}(hg:Gl X x)(hm:X.mg x=none)(hv:bootBuiltins x=some u)(r:Zy v u)(hn:x ≠ "__name__":=by decide)(hd:(x == ("__debug__" : Str))=false:=by decide):PE X (.Name x pos) (tC v) :=
 fun _ _ _ H _ I h=>ZdT I hg hm hv ⟨v,H,I,r,h⟩ hn hd
def t2I(ta tb:TE)(k:Int→Int→Hp→Prop):St→Hp→Prop:=fun σ H=>ta σ H fun x H1=>tb σ H1 fun y H2=>∃i j,x=.int i∧y=.int j∧k i j H2
def tAdd(ta tb:TE):TE:=fun σ H Q=>t2I ta tb (fun i j H2=>Q (.int (i+j)) H2) σ H
def tSub(ta tb:TE):TE:=fun σ H Q=>t2I ta tb (fun i j H2=>Q (.int (i-j)) H2) σ H
def tMul(ta tb:TE):TE:=fun σ H Q=>t2I ta tb (fun i j H2=>(-(2 ^ 64)<i∧i<2 ^ 64)∧Q (.int (i*j)) H2) σ H
variable {a b:Expr} {ta tb:TE} {pos:Pos}
def PC(X:Cx)(op:CmpOp)(a b:Expr)(t:TE):Prop :=
 ∀ (pins:List (Addr×Obj)) (s:Shared) (σ:St) (H:Hp) (Q:VK),Inv X pins σ H s→t σ H Q →
  wpAny (model X.prog X.w) X.A (eval a X.env) (fun v s₁=>wpAny (model X.prog X.w) X.A (eval b X.env) (fun u s₂=>wpAny (model X.prog X.w) X.A (compareOp op v u) (EP X pins σ Q) X.xe s₂) X.xe s₁) X.xe s
def Zko(p:Int→Int→Bool)(ta tb:TE):TE:=fun σ H Q=>t2I ta tb (fun i j H2=>Q (.bl (p i j)) H2) σ H
abbrev tLt:TE→TE→TE:=Zko fun i j=>decide (i<j)
abbrev tLe:TE→TE→TE:=Zko fun i j=>decide (i≤j)
abbrev tGt:TE→TE→TE:=Zko fun i j=>decide (j<i)
abbrev tGe:TE→TE→TE:=Zko fun i j=>decide (j≤i)
abbrev tEqI:TE→TE→TE:=Zko fun i j=>decide (i=j)
abbrev tNeI:TE→TE→TE:=Zko fun i j=>!decide (i=j)
def tIsN(ta:TE):TE:=fun σ H Q=>ta σ H fun x H1=>Q (.bl (decide (x=.non))) H1
def tNotN(ta:TE):TE:=fun σ H Q=>ta σ H fun x H1=>Q (.bl (!decide (x=.non))) H1
def tB(t:TE):TT:=fun σ H Q=>t σ H fun x H1=>∃c,x=.bl c∧Q c H1
theorem ZdS{e:Expr}{t:TE}(h:PE X e t)(he:∀whole,isTrue e X.env whole=(do let v ← whole;standAt e.pos;holding [v] (truthy v)):=by intro _;rfl):PT X e (tB t):=by
 intro pins s σ H Q I hw
 refine isTrue_plain (thn (h pins s σ H _ I hw) fun v s1 ⟨x,H1,I1,r1,q1⟩=>?_) (he _)
 obtain⟨d,rfl,q⟩:=q1
 cases r1
 exact wpAny_truthy_bool ⟨H1,I1,q⟩
variable {tA tB':TT} {rest:List Expr}
def Zqf(t u:TT):TT:=fun σ H Q=>t σ H fun c H1=>if c=true then u σ H1 Q else Q false H1
def tOr(t u:TT):TT:=fun σ H Q=>t σ H fun c H1=>if c=true then Q true H1 else u σ H1 Q
def Zqp(t:TT):TT:=fun σ H Q=>t σ H fun c H1=>Q (!c) H1
theorem Zb0(ha:PT X a tA):PW X (.BoolOp .And [a] pos) tA:=by
 intro wh pins s σ H Q I h
 refine isTrue_and (thn (ha pins s σ H Q I h) fun c s1 e=>?_)
 cases c with
 | true=>exact isTrue_and_nil e
 | false=>exact e
theorem ZdP(ha:PT X a tA):PW X (.BoolOp .Or [a] pos) tA:=by
 intro wh pins s σ H Q I h
 refine isTrue_or (thn (ha pins s σ H Q I h) fun c s1 e=>?_)
 cases c with
 | false=>exact isTrue_or_nil e
 | true=>exact e
theorem Zca(ha:PT X a tA)(hb:PW X (.BoolOp .And (b::rest) pos) tB'):PW X (.BoolOp .And (a::b::rest) pos) (Zqf tA tB'):=by
 intro wh pins s σ H Q I h
 refine isTrue_and (thn (ha pins s σ H _ I h) fun c s1 ⟨H1,I1,q1⟩=>?_)
 cases c with
 | true=>exact hb wh pins s1 σ H1 Q I1 q1
 | false=>exact⟨H1,I1,q1⟩
theorem Zd7(ha:PT X a tA)(hb:PW X (.BoolOp .Or (b::rest) pos) tB'):PW X (.BoolOp .Or (a::b::rest) pos) (tOr tA tB'):=by
 intro wh pins s σ H Q I h
 refine isTrue_or (thn (ha pins s σ H _ I h) fun c s1 ⟨H1,I1,q1⟩=>?_)
 cases c with
 | true=>exact⟨H1,I1,q1⟩
 | false=>exact hb wh pins s1 σ H1 Q I1 q1
theorem Zde(ha:PT X a tA):PT X (.UnaryOp .Not a pos) (Zqp tA):=by
 intro pins s σ H Q I h
 exact isTrue_not (ha pins s σ H (fun c H1=>Q (!c) H1) I h)
def Zpa(ta tb:TE):TE:=fun σ H Q=>ta σ H fun x H1=>∃c,x=.bl c∧if c=true then tb σ H1 Q else Q (.bl false) H1
def Zqm(ta tb:TE):TE:=fun σ H Q=>ta σ H fun x H1=>∃c,x=.bl c∧if c=true then Q (.bl true) H1 else tb σ H1 Q
def Zp1(ta:TE):TE:=fun σ H Q=>ta σ H fun x H1=>∃c,x=.bl c∧Q (.bl (!c)) H1
theorem ZdN{op}{t:TE}(h:PE X a t):PE X (.BoolOp op [a] pos) t:=fun pins s σ H Q I hw=>BoolOp_one (h pins s σ H Q I hw)
theorem Zc5(ha:PE X a ta)(hb:PE X (.BoolOp .And (b::rest) pos) tb):PE X (.BoolOp .And (a::b::rest) pos) (Zpa ta tb):=by
 intro pins s σ H Q I h
 refine BoolOp_and (thn (ha pins s σ H _ I h) fun v s1 ⟨x,H1,I1,r1,q1⟩=>?_)
 obtain⟨c,rfl,q1⟩:=q1
 cases r1
 refine wpAny_truthy_bool ?_
 cases c with
 | true=>exact hb pins s1 σ H1 Q I1 q1
 | false=>exact⟨.bl false,H1,I1,rfl,q1⟩
theorem ZpJ(ha:PE X a ta)(hb:PE X (.BoolOp .Or (b::rest) pos) tb):PE X (.BoolOp .Or (a::b::rest) pos) (Zqm ta tb):=by
 intro pins s σ H Q I h
 refine BoolOp_or (thn (ha pins s σ H _ I h) fun v s1 ⟨x,H1,I1,r1,q1⟩=>?_)
 obtain⟨c,rfl,q1⟩:=q1
 cases r1
 refine wpAny_truthy_bool ?_
 cases c with
 | false=>exact hb pins s1 σ H1 Q I1 q1
 | true=>exact⟨.bl true,H1,I1,rfl,q1⟩
theorem Zk9(ha:PE X a ta):PE X (.UnaryOp .Not a pos) (Zp1 ta):=by
 intro pins s σ H Q I h
 refine UnaryOp_ (thn (ha pins s σ H _ I h) fun v s1 ⟨x,H1,I1,r1,q1⟩=>?_)
 obtain⟨c,rfl,q1⟩:=q1
 cases r1
 exact not_of (wpAny_truthy_bool ⟨.bl (!c),H1,I1,rfl,q1⟩)
def tIf(t:TT)(ta tb:TE):TE:=fun σ H Q=>t σ H fun c H1=>if c=true then ta σ H1 Q else tb σ H1 Q
theorem Zbj{c:Expr}(hc:PT X c tA)(ha:PE X a ta)(hb:PE X b tb):PE X (.IfExp c a b pos) (tIf tA ta tb):=by
 intro pins s σ H Q I h
 refine wpAny_IfExp (thn (hc pins s σ H _ I h) fun d s1 ⟨H1,I1,q1⟩=>?_)
 cases d with
 | true=>exact ha pins s1 σ H1 Q I1 q1
 | false=>exact hb pins s1 σ H1 Q I1 q1
end
def SqL(K:PySem.W.Frag)(H:Hp)(a:Addr)(xs:List V):Prop :=
 Rd H a (.lst xs) ∨
  ∃ (o:Obj) (its:Array Value) (n:Nat),K.lookup a=some o∧o.cls=.type "list"∧o.dict=none∧o.data=.seq its n∧its.size≤sizeLine∧ZB xs its.toList
def SqT(K:PySem.W.Frag)(H:Hp)(a:Addr)(xs:List V):Prop :=
 Rd H a (.tup xs) ∨
  ∃ (o:Obj) (its:Array Value) (n:Nat),K.lookup a=some o∧o.cls=.type "tuple"∧o.data=.seq its n∧its.size≤sizeLine∧ZB xs its.toList
def Zqh:Value→Option V
 | .none=>some .non
 | .bool b=>some (.bl b)
 | .int i _=>some (.int i)
 | .str x _=>some (.str x)
 | .bytes b _=>some (.byt b)
 | .float b _=>some (.flt b)
 | .ref a=>some (.ref a)
 | .type n=>some (.ty n)
 | _=>none
theorem Zy.abs{x:V}{u:Value}(r:Zy x u):Zqh u=some x:=by
 cases x with
 | non=>cases r;rfl
 | bl _=>cases r;rfl
 | int _=>obtain⟨t,rfl⟩:=r;rfl
 | str _=>obtain⟨t,rfl⟩:=r;rfl
 | byt _=>obtain⟨t,rfl⟩:=r;rfl
 | flt _=>obtain⟨t,rfl⟩:=r;rfl
 | ref _=>cases r;rfl
 | ty _=>cases r;rfl
theorem Zy.inj{x y:V}{u:Value}(r:Zy x u)(q:Zy y u):x=y:=Qo (r.abs.symm.trans q.abs)
theorem ZB.inj:∀ {xs ys:List V} {us:List Value},ZB xs us→ZB ys us→xs=ys
 | _,_,_,.nil,.nil=>rfl
 | _,_,_,.cons r t,.cons r' t'=>by rw[r.inj r',ZB.inj t t']
section
variable {X:Cx} {pins:List (Addr×Obj)} {σ:St} {H:Hp} {s:Shared} {a:Addr} {xs ys:List V}
theorem SqL.of{K:PySem.W.Frag}(h:H a=some (.lst xs)):SqL K H a xs:=.inl (.inl h)
theorem SqT.of{K:PySem.W.Frag}(h:H a=some (.tup xs)):SqT K H a xs:=.inl (.inl h)
theorem Inv.list(I:Inv X pins σ H s)(h:SqL X.K H a xs):∃its:List Value,ZB xs its∧PlainL s.heap a its.toArray∧xs.length≤sizeLine:=by
 rcases h with h|⟨o,its,n,hk,hc,hd,hs,hz,r⟩
 ·obtain⟨z,its,n,r,e⟩:=h.ok I.hok
  exact⟨its,r,⟨_,n,e,rfl,rfl,rfl⟩,z⟩
 ·refine⟨its.toList,r,⟨o,n,I.kIn a o hk,hc,hd,by simpa using hs⟩,?_⟩
  have e:=r.length
  simp only[Array.length_toList]at e
  omega
theorem Inv.tuple(I:Inv X pins σ H s)(h:SqT X.K H a xs):∃its:List Value,ZB xs its∧IsTup s.heap a its.toArray∧xs.length≤sizeLine:=by
 rcases h with h|⟨o,its,n,hk,hc,hs,hz,r⟩
 ·obtain⟨z,its,r,p⟩:=h.ok I.hok
  exact⟨its,r,p,z⟩
 ·refine⟨its.toList,r,⟨o,I.kIn a o hk,hc,n,by simpa using hs⟩,?_⟩
  have e:=r.length
  simp only[Array.length_toList]at e
  omega
theorem Inv.list_inj(I:Inv X pins σ H s)(h:SqL X.K H a xs)(h':SqL X.K H a ys):xs=ys:=by
 obtain⟨its,r,⟨o,n,e,_,_,d⟩,_⟩:=I.list h
 obtain⟨its',r',⟨o',n',e',_,_,d'⟩,_⟩:=I.list h'
 rw[e]at e';cases e'
 rw[d]at d'
 injection d' with d1 _
 have:its=its':=by simpa using congrArg Array.toList d1
 subst this
 exact r.inj r'
end
abbrev Cx.wish(X:Cx)(E:Value→Shared→Prop):Cx:={ X with xe:=E }
abbrev Cx.nox(X:Cx):Cx:=X.wish fun _ _=>False
theorem Cx.Ok.wish{X:Cx}(ok:X.Ok)(E:Value→Shared→Prop):(X.wish E).Ok :=
 ⟨ok.mod,ok.kind,ok.glob,ok.blt,ok.above,ok.inj,ok.has,ok.cab,ok.hd,ok.frames,ok.stk,ok.exf,ok.bs,ok.bsz,ok.noex,ok.exfs,ok.funs,ok.frf⟩
theorem Cx.Ok.unwish{X:Cx}{E:Value→Shared→Prop}(ok:(X.wish E).Ok):X.Ok :=
 ⟨ok.mod,ok.kind,ok.glob,ok.blt,ok.above,ok.inj,ok.has,ok.cab,ok.hd,ok.frames,ok.stk,ok.exf,ok.bs,ok.bsz,ok.noex,ok.exfs,ok.funs,ok.frf⟩
section
variable {X:Cx} {pins:List (Addr×Obj)} {σ:St} {H:Hp} {s:Shared} {E:Value→Shared→Prop}
theorem Inv.wish(I:Inv X pins σ H s)(E:Value→Shared→Prop):Inv (X.wish E) pins σ H s:=⟨I.ok.wish E,I.os,I.bare,I.base,I.loc,I.cell,I.free,I.freeC,I.pin,I.hok,I.len⟩
theorem Inv.unwish(I:Inv (X.wish E) pins σ H s):Inv X pins σ H s:=⟨I.ok.unwish,I.os,I.bare,I.base,I.loc,I.cell,I.free,I.freeC,I.pin,I.hok,I.len⟩
theorem SP.unwish{D:ZeV}{f:Flow}{s':Shared}(h:SP (X.wish E) pins D f s'):SP X pins D f s':=by
 cases f with
 | next=>obtain⟨σ',H',I,q⟩:=h;exact⟨σ',H',I.unwish,q⟩
 | brk=>obtain⟨σ',H',I,q⟩:=h;exact⟨σ',H',I.unwish,q⟩
 | cont=>obtain⟨σ',H',I,q⟩:=h;exact⟨σ',H',I.unwish,q⟩
 | ret u=>obtain⟨v,σ',H',I,r,q⟩:=h;exact⟨v,σ',H',I.unwish,r,q⟩
theorem PSs.nox{st:List Stmt}{t:TS}(h:PSs X.nox st t):PSs X st t:=fun pins s σ H D I hw =>
 wpAny_mono (h pins s σ H D (I.wish _) hw) (fun _ _ q=>q.unwish) fun _ _ z=>False.elim z
end
section
variable {X:Cx} {st:Stmt} {rest:List Stmt} {t u:TS} {e:Expr} {te:TE} {pos:Pos}
def ZpL:TS:=fun D σ H=>D.nx σ H
def Zqq(t u:TS):TS:=fun D σ H=>t { D with nx:=u D } σ H
theorem ZG:PSs X [] ZpL:=fun _ _ σ H _ I h=>wpAny_execs_nil ⟨σ,H,I,h⟩
theorem Zd(h1:PS X st t)(h2:PSs X rest u):PSs X (st::rest) (Zqq t u):=by
 intro pins s σ H D I h
 refine wpAny_execs_cons (thn (h1 pins s σ H { D with nx:=u D } I h) fun f s1 q=>?_)
 cases f with
 | next =>
  obtain⟨σ',H',I',q⟩:=q
  exact h2 pins s1 σ' H' D I' q
 | ret v=>exact q
 | brk=>exact q
 | cont=>exact q
theorem Zi(h1:PS X st t):PSs X [st] t:=by
 intro pins s σ H D I h
 refine wpAny_execs_cons (thn (h1 pins s σ H D I h) fun f s1 q=>?_)
 cases f with
 | next=>exact wpAny_execs_nil q
 | ret v=>exact q
 | brk=>exact q
 | cont=>exact q
def tBreak:TS:=fun D σ H=>D.bk σ H
def tCont:TS:=fun D σ H=>D.ct σ H
theorem Inv.quiet{pins:List (Addr×Obj)}{σ:St}{H:Hp}{s:Shared}(I:Inv X pins σ H s):interactive X.env=false:=by simp[interactive,I.ok.kind]
def Zp0(te:TE):TS:=fun D σ H=>te σ H fun _ H1=>D.nx σ H1
theorem Zaz(he:PE X e te)(hs:swapsWith e none pos.line X.env=pure false:=by rfl):PS X (.Expr e pos) (Zp0 te):=by
 intro pins s σ H D I h
 exact wpAny_Expr_any (thn (he pins s σ H _ I h) fun v s1 ⟨x,H1,I1,r1,q1⟩=>⟨σ,H1,I1,q1⟩) I.quiet hs
def Zp8(te:TE):TS:=fun D σ H=>te σ H D.rt
theorem Zq(he:PE X e te):PS X (.Return (some e) pos) (Zp8 te):=by
 intro pins s σ H D I h
 exact wpAny_Return_some (thn (he pins s σ H _ I h) fun v s1 ⟨x,H1,I1,r1,q1⟩=>⟨x,σ,H1,I1,r1,q1⟩)
def tRetN:TS:=fun D _ H=>D.rt .non H
def Zqv(c:TT)(t u:TS):TS:=fun D σ H=>c σ H fun b H1=>if b=true then t D σ H1 else u D σ H1
theorem Zac{c:Expr}{a b:List Stmt}{tc:TT}(hc:PT X c tc)(ha:PSs X a t)(hb:PSs X b u):PS X (.If c a b pos) (Zqv tc t u):=by
 intro pins s σ H D I h
 refine wpAny_If (thn (hc pins s σ H _ I h) fun d s1 ⟨H1,I1,q1⟩=>?_)
 cases d with
 | true=>exact ha pins s1 σ H1 D I1 q1
 | false=>exact hb pins s1 σ H1 D I1 q1
def tNever:TS:=fun _ _ _=>False
end
abbrev TG:=V→St→Hp→(St→Hp→Prop)→Prop
abbrev TGs:=List V→St→Hp→(St→Hp→Prop)→Prop
def PG(X:Cx)(target:Expr)(t:TG):Prop :=
 ∀ (pins:List (Addr×Obj)) (s:Shared) (σ:St) (H:Hp) (v:V) (u:Value) (Q:St→Hp→Prop),Inv X pins σ H s→Zy v u→t v σ H Q →
  wpAny (model X.prog X.w) X.A (assign target X.env u) (fun _ s'=>∃σ' H',Inv X pins σ' H' s'∧Q σ' H') X.xe s
def PGs(X:Cx)(ts:List Expr)(t:TGs):Prop :=
 ∀ (pins:List (Addr×Obj)) (s:Shared) (σ:St) (H:Hp) (vs:List V) (us:List Value) (Q:St→Hp→Prop),Inv X pins σ H s→ZB vs us→t vs σ H Q →
  wpAny (model X.prog X.w) X.A (assignInOrder ((assignEach ts X.env).map (·.2)) us) (fun _ s'=>∃σ' H',Inv X pins σ' H' s'∧Q σ' H') X.xe s
abbrev ZjQ:=V→V→V→Hp→(Hp→Prop)→Prop
def Zof(X:Cx)(t:ZjQ):Prop :=
 ∀ (pins:List (Addr×Obj)) (s:Shared) (σ:St) (H:Hp) (o i v:V) (ov iv u:Value) (Q:Hp→Prop),Inv X pins σ H s→Zy o ov→Zy i iv→Zy v u→t o i v H Q →
  wpAny (model X.prog X.w) X.A (setItem ov iv u) (fun _ s'=>∃H',Inv X pins σ H' s'∧Q H') X.xe s
abbrev TIp:=V→V→Hp→VK→Prop
def PIp(X:Cx)(op:Operator)(t:TIp):Prop :=
 ∀ (pins:List (Addr×Obj)) (s:Shared) (σ:St) (H:Hp) (x y:V) (v u:Value) (Q:VK),Inv X pins σ H s→Zy x v→Zy y u→t x y H Q →
  wpAny (model X.prog X.w) X.A (inplaceOp op v u) (EP X pins σ Q) X.xe s
section
variable {X:Cx} {pos:Pos}
def Zhv(i:Nat):TG:=fun v σ H Q=>Q (σ.set i (some v)) H
theorem ZJ{i:Nat}{x:Str}(hN:X.N.Nodup)(hi:X.N[i]? = some x)(hx:Loc X.env.scope x)(hf:X.fn x=true∨X.env.scope.names.lookup x=some .local:=by first|exact .inl rfl|exact .inr rfl|assumption):PG X (.Name x pos) (Zhv i):=by
 intro pins s σ H v u Q I r h
 exact wpAny_assign_Name (ZfB I hN hi hx r (fun s' I'=>⟨_,H,I',h⟩) hf)
def Zql:TGs:=fun vs σ H Q=>vs=[]∧Q σ H
def Zpk(t:TG)(u:TGs):TGs:=fun vs σ H Q=>∃v r,vs=v::r∧t v σ H fun σ' H'=>u r σ' H' Q
theorem Zas:PGs X [] Zql:=by
 intro pins s σ H vs us Q I r h
 obtain⟨e,h⟩:=h
 subst e
 cases r
 exact assignInOrder_nil ⟨σ,H,I,h⟩
theorem Zv{e:Expr}{es:List Expr}{t:TG}{u:TGs}(h1:PG X e t)(h2:PGs X es u)
  (hs:(assignEach (e::es) X.env).map (·.2)=assign e X.env::(assignEach es X.env).map (·.2):=by rfl):PGs X (e::es) (Zpk t u):=by
 intro pins s σ H vs us Q I r h
 obtain⟨v,vr,e1,h⟩:=h
 subst e1
 cases r with
 | cons r rr =>
  rw[hs]
  refine assignInOrder_cons (thn (h1 pins s σ H _ _ _ I r h) fun _ s1 ⟨σ1,H1,I1,q1⟩=>?_)
  exact h2 pins s1 σ1 H1 _ _ Q I1 rr q1
def ZpR(K:PySem.W.Frag)(n:Nat)(t:TGs):TG:=fun v σ H Q=>∃a xs,v=.ref a∧SqT K H a xs∧xs.length=n∧t xs σ H Q
theorem Zot{es:List Expr}{k:Nat}{t:TGs}{n:Nat}(hc:X.calm=true)(h:PGs X es t)
  (hn:(assignEach es X.env).length=n:=by rfl) (hst:(assignEach es X.env).findIdx? (·.1)=none:=by rfl):PG X (.Tuple es k pos) (ZpR X.K n t):=by
 intro pins s σ H v u Q I r hw
 obtain⟨a,xs,e1,hq,hl,hw⟩:=hw
 subst e1
 cases r
 obtain⟨its,rv,ht,hz⟩:=I.tuple hq
 refine assign_Tuple_tuple (I.ok.hd hc) ht (by simp[hn,← hl,rv.length]) hst fun h' hx=>?_
 have I1:Inv X pins σ H { s with heap:=h' }:=I.kept (t':=s.toks) fun b o e=>hx b o (Qz (Qj e)) e
 exact h pins _ σ H xs _ Q I1 (by simpa using rv) hw
def Zp7(to ti:TE)(t:ZjQ):TG:=fun v σ H Q=>to σ H fun o H1=>ti σ H1 fun i H2=>t o i v H2 fun H3=>Q σ H3
theorem ZcK{o i:Expr}{to ti:TE}{t:ZjQ}(ho:PE X o to)(hi:PE X i ti)(hs:Zof X t)
  (ha:∀v,assign (.Subscript o i pos) X.env v=(do
   let ov ← holding [v] (eval o X.env)
   let iv ← holding [v,ov] (eval i X.env)
   standAt pos
   holding [v,ov,iv] (setItem ov iv v)
   release [v,ov,iv] []):=by intro _;rfl):PG X (.Subscript o i pos) (Zp7 to ti t):=by
 intro pins s σ H v u Q I r h
 rw[ha]
 refine wpAny_bind (wpAny_holding (thn (ho pins s σ H _ I h) fun ov s1 ⟨x,H1,I1,r1,q1⟩=>?_))
 refine wpAny_bind (wpAny_holding (thn (hi pins s1 σ H1 _ I1 q1) fun iv s2 ⟨y,H2,I2,r2,q2⟩=>?_))
 refine wpAny_bind (wpAny_standAt (wpAny_bind (wpAny_holding (thn (hs pins s2 σ H2 x y v ov iv u _ I2 r1 r2 r q2) fun _ s3 ⟨H3,I3,q3⟩=>?_))))
 exact wpAny_release ⟨σ,H3,I3,q3⟩
def Zms(te:TE)(g:TG):TS:=fun D σ H=>te σ H fun x H1=>g x σ H1 D.nx
theorem ZaX{tg e:Expr}{te:TE}{g:TG}(he:PE X e te)(hg:PG X tg g)(hs:swapsWithSole [tg] e pos.line X.env=pure false:=by rfl)(hw:swappedStores [tg] e X.env=pure none:=by rfl)
  (h1:(assignEach [tg] X.env).map (·.2)=[assign tg X.env]:=by rfl):PS X (.Assign [tg] e pos) (Zms te g):=by
 intro pins s σ H D I h
 refine wpAny_Assign_stores (thn (he pins s σ H _ I h) fun v s1 ⟨x,H1,I1,r1,q1⟩=>?_) hs hw
 rw[h1]
 exact thn (hg pins s1 σ H1 x v _ I1 r1 q1) fun _ s2 q=>q
theorem Zx{i:Nat}{x:Str}{e:Expr}{te:TE}{pos':Pos}(hN:X.N.Nodup)(hi:X.N[i]? = some x)(hx:Loc X.env.scope x)(he:PE X e te)(hs:swapsWith e (some (.Name x pos')) pos.line X.env=pure false:=by rfl)(hf:X.fn x=true∨X.env.scope.names.lookup x=some .local:=by first|exact .inl rfl|exact .inr rfl|assumption) :
  PS X (.Assign [.Name x pos'] e pos) (Zms te (Zhv i)):=by
 intro pins s σ H D I h
 refine wpAny_Assign_Name (thn (he pins s σ H _ I h) fun v s1 ⟨y,H1,I1,r1,q1⟩=>?_) hs
 exact ZfB I1 hN hi hx r1 (fun s2 I2=>⟨_,H1,I2,q1⟩) hf
def tPar(i j:Nat)(ta:TA):TS:=fun D σ H=>ta σ H fun vs H1=>∃v w,vs=[v,w]∧D.nx ((σ.set i (some v)).set j (some w)) H1
def Zqs(i:Nat)(te:TE)(ti:TIp):TS:=fun D σ H=>∃x,σ[i]? = some (some x)∧te σ H fun y H1=>ti x y H1 fun z H2=>D.nx (σ.set i (some z)) H2
theorem Zo0{i:Nat}{x:Str}{e:Expr}{te:TE}{op:Operator}{ti:TIp}{pos':Pos}(hN:X.N.Nodup)(hi:X.N[i]? = some x)(hx:Loc X.env.scope x)(he:PE X e te)(ho:PIp X op ti)(hf:X.fn x=true∨X.env.scope.names.lookup x=some .local:=by first|exact .inl rfl|exact .inr rfl|assumption) :
  PS X (.AugAssign (.Name x pos') op e pos) (Zqs i te ti):=by
 intro pins s σ H D I h
 obtain⟨v,e1,h⟩:=h
 obtain⟨m,hn,hl⟩:=I.loc
 have vis:Vis X.env.scope x:=by rcases hx with k|k;exact .inl k;exact .inr (.inl k)
 obtain⟨u,r,l⟩:=hl i x v hi e1 vis
 refine wpAny_AugAssign_Name ?_
 have go:wpAny (model X.prog X.w) X.A (eval e X.env) (fun w s₂=>wpAny (model X.prog X.w) X.A (inplaceOp op u w) (fun r s₃=>wpAny (model X.prog X.w) X.A (storeName X.env x r) (fun _=>SP X pins D .next) X.xe s₃) X.xe s₂) X.xe s:=by
  refine thn (he pins s σ H _ I h) fun w s1 ⟨y,H1,I1,r1,q1⟩=>?_
  refine thn (ho pins s1 σ H1 v y u w _ I1 r r1 q1) fun z s2 ⟨zv,H2,I2,r2,q2⟩=>?_
  exact ZfB I2 hN hi hx r2 (fun s3 I3=>⟨_,H2,I3,q2⟩) hf
 rcases l with⟨hk,hm⟩|⟨hk,c,hc,hcell⟩
 ·exact wpAny_loadName_local I.ok.kind hk hn hm go
 ·rcases hk with hk|hk
  ·exact wpAny_loadName_cell I.ok.kind hk hc hcell go
  ·rcases hx with k|k
   ·have:X.env.scope.names.lookup x=some .free:=hk
    rw[k]at this;cases this
   ·have:X.env.scope.names.lookup x=some .free:=hk
    rw[k]at this;cases this
def tAugS(to ti te:TE)(tget:V→V→Hp→VK→Prop)(tip:TIp)(tset:ZjQ):TS:=fun D σ H=>to σ H fun o H1=>ti σ H1 fun i H2=>tget o i H2 fun x H3=>te σ H3 fun y H4=>tip x y H4 fun z H5=>tset o i z H5 fun H6=>D.nx σ H6
def PGet(X:Cx)(t:V→V→Hp→VK→Prop):Prop :=
 ∀ (pins:List (Addr×Obj)) (s:Shared) (σ:St) (H:Hp) (o i:V) (ov iv:Value) (Q:VK),Inv X pins σ H s→Zy o ov→Zy i iv→t o i H Q →
  wpAny (model X.prog X.w) X.A (getItem ov iv) (EP X pins σ Q) X.xe s
def ipI(f:Int→Int→Int):TIp:=fun x y H Q=>∃i j,x=.int i∧y=.int j∧Q (.int (f i j)) H
theorem ZoJ:PIp X .Add (ipI fun i j=>i+j):=by
 intro pins s σ H x y v u Q I r1 r2 h
 obtain⟨i,j,e1,e2,q⟩:=h
 subst e1;subst e2
 obtain⟨t,rfl⟩:=r1
 obtain⟨t',rfl⟩:=r2
 exact iadd_int ⟨.int _,H,I.tok _,⟨_,rfl⟩,q⟩
end
section
variable {X:Cx} {pos:Pos}
def Zow(c:TT)(tb:TS):TS:=fun D σ H=>∃W:Nat→St→Hp→Prop,(∃m,W m σ H)∧∀m σ H,W m σ H →
 c σ H fun b H1=>if b=true then ∃N:St→Hp→Prop,(∀σ' H',N σ' H'→∃m',m'<m∧W m' σ' H')∧tb { D with nx:=N,ct:=N,bk:=D.nx } σ H1 else D.nx σ H1
theorem Zfm{c:Expr}{body:List Stmt}{tc:TT}{tb:TS}(hp:PassesOwn (model X.prog X.w) X.A X.env X.xe)(hc:PT X c tc)(hb:PSs X body tb):PS X (.While c body [] pos) (Zow tc tb):=by
 intro pins s σ H D I h
 obtain⟨W,⟨m0,w0⟩,turn⟩:=h
 refine wpAny_While (codeAny_whileLoop (fun n s'=>∃σ' H',Inv X pins σ' H' s'∧W n σ' H') ?_ m0 ⟨σ,H,I,w0⟩)
 rintro n s1 ⟨σ1,H1,I1,w1⟩
 refine wpAny_passesOwn hp (thn (hc pins s1 σ1 H1 _ I1 (turn n σ1 H1 w1)) fun b s2 ⟨H2,I2,q2⟩=>?_)
 cases b with
 | true =>
  obtain⟨N,hN,q2⟩:=q2
  rw[if_pos rfl]
  refine wpAny_passesOwn hp (thn (hb pins s2 σ1 H2 _ I2 q2) fun f s3 q3=>?_)
  cases f with
  | next =>
   obtain⟨σ3,H3,I3,n3⟩:=q3
   obtain⟨m',hm,w3⟩:=hN σ3 H3 n3
   exact⟨m',hm,σ3,H3,I3,w3⟩
  | cont =>
   obtain⟨σ3,H3,I3,n3⟩:=q3
   obtain⟨m',hm,w3⟩:=hN σ3 H3 n3
   exact⟨m',hm,σ3,H3,I3,w3⟩
  | brk=>exact q3
  | ret v=>exact q3
 | false =>
  rw[if_neg Qi]
  exact wpAny_execs_nil ⟨σ1,H2,I2,q2⟩
end
structure It where
 go:Nat→Hp→Prop
 yld:Nat→Hp→V→Hp→Prop
 stop:Nat→Hp→Prop
def Zeq(X:Cx)(pins:List (Addr×Obj))(H:Hp)(b:Addr):Prop :=
 H b=none∧b≠X.env.locals∧b ∉ X.fs∧(b∈X.ex∨X.s₀.heap.objs.size≤b)∧(∀x c,X.env.cells.lookup x=some c→c≠b)∧∀p∈X.pn++pins,p.1≠b
theorem Inv.fpOk{X:Cx}{pins:List (Addr×Obj)}{σ:St}{H H':Hp}{s:Shared}{b:Addr}(I:Inv X pins σ H s)(hb:s.heap.objs.size≤b)(hn:H' b=none):Zeq X pins H' b:=by
 refine⟨hn,Qaf (QB I.lt hb),I.nofs hb,.inr (QH I.sz hb),fun x c e z=>?_,fun p hp z=>?_⟩
 ·obtain⟨v,q⟩:=I.cell x c e
  exact absurd (QB q.lt (by rw[z];exact hb)) (Q1 _)
 ·exact absurd (QB (Qj (I.pin p hp).1) (by rw[z];exact hb)) (Q1 _)
structure Zkp (P:Program) (w:World) (K:PySem.W.Frag) (tg:Expr) (J:It) (fp:List Addr) (it:Addr) (tn:Nat→Heap→Prop):Prop where
 mem:it∈fp
 obj:∀i h,tn i h→∀b∈fp,∃o,h.get? b=some o∧∀v,o.data≠.cell v
 keep:∀i h h',tn i h→(∀b∈fp,∀o,h.get? b=some o→h'.get? b=some o)→tn i h'
 item:∀ (X:Cx),X.prog=P→X.w=w→X.K=K→X.calm=true→∀ (i:Nat) (pins:List (Addr×Obj)) (s:Shared) (σ:St) (H:Hp) (E:Value→Shared→Prop),Inv X pins σ H s→(∀b∈fp,Zeq X pins H b)→tn i s.heap→J.go i H →
  wpAny (model P w) X.A (pyNext (.ref it)) (fun r s1=>∃u,r=some u ∧
   wpAny (model P w) X.A (letOwnedTupleGo tg (.ref it) u) (fun _ s2=>∃x H',Inv X pins σ H' s2∧Zy x u∧J.yld i H x H'∧tn (i+1) s2.heap∧∀b∈fp,H' b=none) E s1) E s
 done:∀ (X:Cx),X.prog=P→X.w=w→X.K=K→X.calm=true→∀ (i:Nat) (pins:List (Addr×Obj)) (s:Shared) (σ:St) (H:Hp) (E:Value→Shared→Prop),Inv X pins σ H s→(∀b∈fp,Zeq X pins H b)→tn i s.heap→J.stop i H →
  wpAny (model P w) X.A (pyNext (.ref it)) (fun r s1=>r=none∧Inv X pins σ H s1) E s
 self:∀ (A:Around) (i:Nat) (s:Shared) (Q:Value→Shared→Prop) (E:Value→Shared→Prop),tn i s.heap→Q (.ref it) s→wpAny (model P w) A (pyIter (.ref it)) Q E s
abbrev TI:=St→Hp→(It→Hp→Prop)→Prop
def PIE(X:Cx)(pins:List (Addr×Obj))(σ:St)(tg:Expr)(R:It→Hp→Prop)(itv:Value)(s2:Shared):Prop :=
 ∃ (it:Addr) (fp:List Addr) (tn:Nat→Heap→Prop) (J:It) (H':Hp),itv=.ref it∧Inv X pins σ H' s2∧Zkp X.prog X.w X.K tg J fp it tn∧tn 0 s2.heap∧(∀b∈fp,Zeq X pins H' b)∧R J H'
def PI(X:Cx)(tg iter:Expr)(wi:TI):Prop :=
 ∀ (pins:List (Addr×Obj)) (s:Shared) (σ:St) (H:Hp) (R:It→Hp→Prop),Inv X pins σ H s→wi σ H R →
  wpAny (model X.prog X.w) X.A (eval iter X.env) (fun v s1=>wpAny (model X.prog X.w) X.A (pyIter v) (PIE X pins σ tg R) X.xe s1) X.xe s
theorem Zl9{M:Model}{A:Around}{E:Value→Shared→Prop}{s:Shared}{tg:Expr}{it:Addr}{u:Value}{o:Obj}{n:String}{vs:Array Value}{Q:Unit→Shared→Prop}(ho:s.heap.get? it=some o)(hc:o.cls=.type n)(hd:o.data=.fields vs)
  (hn:["enumerate", "zip", "dict_itemiterator", "dict_reverseitemiterator", "odict_iterator", "itertools.zip_longest", "itertools.pairwise"].contains n=false) (hQ:Q () s):wpAny M A (letOwnedTupleGo tg (.ref it) u) Q E s:=by
 unfold letOwnedTupleGo
 cases tg<;>first
  | exact wpAny_pure hQ
  | (cases u<;>first
    | exact wpAny_pure hQ
    | (refine wpAny_bind (wpAny_load ho ?_);rw[hc,hd];show wpAny M A (if (["enumerate", "zip", "dict_itemiterator", "dict_reverseitemiterator", "odict_iterator", "itertools.zip_longest", "itertools.pairwise"].contains n&&vs[0]? == some (rawInt _))=true then _ else _) Q E s;rw[if_neg (by intro h;rw[hn,Bool.false_and]at h;cases h)];exact wpAny_pure hQ))
def Itl(K:PySem.W.Frag)(a:Addr):It :=
 ⟨fun i H=>∃xs x,SqL K H a xs∧xs[i]? = some x,fun i H x H'=>H'=H∧∀xs,SqL K H a xs→xs[i]? = some x,fun i H=>∃xs,SqL K H a xs∧xs.length≤i⟩
def Itt(K:PySem.W.Frag)(a:Addr):It :=
 ⟨fun i H=>∃xs x,SqT K H a xs∧xs[i]? = some x,fun i H x H'=>H'=H∧∀xs,SqT K H a xs→xs[i]? = some x,fun i H=>∃xs,SqT K H a xs∧xs.length≤i⟩
def Itr(lo:Int)(n:Nat):It:=⟨fun i _=>i<n,fun i H x H'=>H'=H∧x=.int (lo+i),fun i _=>n≤i⟩
theorem Zkl{P:Program}{w:World}{K:PySem.W.Frag}{tg:Expr}(a it:Addr):Zkp P w K tg (Itl K a) [it] it (fun i h=>h.IsListIter it a i) where
 mem:=by simp
 obj:=fun i h st b hb=>by
  have e:b=it:=by simpa using hb
  subst e
  obtain⟨o,e,c,d⟩:=st
  exact⟨o,e,fun v z=>by rw[d]at z;cases z⟩
 keep:=fun i h h' st k=>st.at fun o e=>k it (by simp) o e
 item:=by
  intro X hP hw hK hc i pins s σ H E I hf st hg
  subst hP hw hK
  obtain⟨xs,x,hq,hx⟩:=hg
  obtain⟨its,rv,p,hz⟩:=I.list hq
  obtain⟨u,hu,ru⟩:=rv.get hx
  obtain⟨f0,f1,f2,f3,f4,f5⟩:=hf it (by simp)
  refine wpAny_pyNext_list_item st p.isList (x:=u) (by simpa using hu) fun h' st' sb=>?_
  have I1:Inv X pins σ H { s with heap:=h' }:=I.turned (t':=s.toks) (fun b o hb e=>(sb.2 b hb).trans e) f0 f1 f3 f4 f5
  obtain⟨o,e,c,d⟩:=id st'
  exact⟨u,rfl,Zl9 (s:={ s with heap:=h' }) e c d (by decide) ⟨x,H,I1,ru,⟨rfl,fun ys hy=>by rw[I.list_inj hy hq];exact hx⟩,st',fun b hb=>(hf b hb).1⟩⟩
 done:=by
  intro X hP hw hK hc i pins s σ H E I hf st hg
  subst hP hw hK
  obtain⟨xs,hq,hx⟩:=hg
  obtain⟨its,rv,p,hz⟩:=I.list hq
  obtain⟨f0,f1,f2,f3,f4,f5⟩:=hf it (by simp)
  have hl:=rv.length
  exact wpAny_pyNext_list_end (I.ok.hd hc) st p.isList (by simp;omega) fun h' eb=>⟨rfl,I.turned (t':=s.toks) (fun b o hb e=>eb b o hb e) f0 f1 f3 f4 f5⟩
 self:=fun _ _ _ _ _ st h=>wpAny_pyIter_listiter st h
theorem Ziz{P:Program}{w:World}{K:PySem.W.Frag}{tg:Expr}(it:Addr)(lo:Int)(n:Nat):Zkp P w K tg (Itr lo n) [it] it (fun i h=>IsRangeIter h it (lo+(i:Nat)*1) ((n:Int)-(i:Nat)) 1) where
 mem:=by simp
 obj:=fun i h st b hb=>by
  have e:b=it:=by simpa using hb
  subst e
  exact⟨_,st,fun v z=>by
   have z':Data.fields _=Data.cell v:=z
   cases z'⟩
 keep:=fun i h h' st k=>k it (by simp) _ st
 item:=by
  intro X hP hw hK hc i pins s σ H E I hf st hg
  subst hP hw hK
  obtain⟨f0,f1,f2,f3,f4,f5⟩:=hf it (by simp)
  have W:=Walks.range (prog:=X.prog) (w:=X.w) (I.ok.hd hc) it lo 1 n
  refine W.item i s _ _ hg st fun v h' tk hv st' kk=>?_
  obtain⟨t,rfl⟩:=hv
  have I1:Inv X pins σ H { s with heap:=h',toks:=tk }:=I.turned (fun b o hb e=>kk b o (by simpa using hb) e) f0 f1 f3 f4 f5
  refine⟨_,rfl,Zl9 (s:={ s with heap:=h',toks:=tk }) (n := "range_iterator") st' rfl rfl (by decide) ⟨.int (lo+i),H,I1,⟨t,?_⟩,⟨rfl,rfl⟩,st',fun b hb=>(hf b hb).1⟩⟩
  rw[Int.mul_one]
 done:=by
  intro X hP hw hK hc i pins s σ H E I hf st hg
  subst hP hw hK
  obtain⟨f0,f1,f2,f3,f4,f5⟩:=hf it (by simp)
  exact wpAny_pyNext_range_end (I.ok.hd hc) st (by have:n≤i:=hg;omega) fun h' eb=>⟨rfl,I.turned (t':=s.toks) (fun b o hb e=>eb b o hb e) f0 f1 f3 f4 f5⟩
 self:=fun _ _ _ _ _ st h=>wpAny_pyIter_rangeiter st h
section
variable {X:Cx} {tg:Expr}
def ZnJ(K:PySem.W.Frag)(tl:TE):TI:=fun σ H R=>tl σ H fun x H1=>∃a,x=.ref a∧(∃xs,SqL K H1 a xs)∧R (Itl K a) H1
def iTup(K:PySem.W.Frag)(tl:TE):TI:=fun σ H R=>tl σ H fun x H1=>∃a,x=.ref a∧(∃xs,SqT K H1 a xs)∧R (Itt K a) H1
theorem Zni{l:Expr}{tl:TE}(hl:PE X l tl):PI X tg l (ZnJ X.K tl):=by
 intro pins s σ H R I h
 refine thn (hl pins s σ H _ I h) fun v s1 ⟨x,H1,I1,r1,q1⟩=>?_
 obtain⟨a,e,⟨xs,hq⟩,q⟩:=q1
 subst e
 cases r1
 obtain⟨its,rv,p,hz⟩:=I1.list hq
 refine wpAny_pyIter_list p.isList ?_
 refine⟨s1.heap.objs.size,[s1.heap.objs.size],_,_,H1,rfl,I1.kept (t':=s1.toks) fun b o e=>Qd _ e,Zkl a _,⟨_,QA _ rfl,rfl,rfl⟩,fun b hb=>?_,q⟩
 have e:b=s1.heap.objs.size:=by simpa using hb
 subst e
 exact I1.fpOk (Qg _) (I1.hok.fresh (Qg _))
theorem Zh7{pins:List (Addr×Obj)}{σ:St}{H:Hp}{s:Shared}{R:It→Hp→Prop}{E:Value→Shared→Prop}{lo hi:Int}{t u v:Tok}{tk:Nat}(I:Inv X pins σ H s)(h1:-(2 ^ 62)≤lo)(h2:lo<2 ^ 62)(h3:-(2 ^ 62)≤hi)(h4:hi<2 ^ 62)
  (q:R (Itr lo (hi-lo).toNat) H):wpAny (model X.prog X.w) X.A (pyIter (.ref s.heap.objs.size)) (PIE X pins σ tg R) E { s with heap:=s.heap.push { cls:=.type "range",data:=.fields #[.int lo t,.int hi u,.int 1 v] },toks:=tk }:=by
 refine wpAny_pyIter_range (IsRange.new ..) (small_one h1 h2 h3 h4) ?_
 have I1:Inv X pins σ H { s with heap:=s.heap.push { cls:=.type "range",data:=.fields #[.int lo t,.int hi u,.int 1 v] },toks:=tk }:=I.kept fun b o e=>Qd _ e
 refine⟨(s.heap.push { cls:=.type "range",data:=.fields #[.int lo t,.int hi u,.int 1 v] }).objs.size,[(s.heap.push { cls:=.type "range",data:=.fields #[.int lo t,.int hi u,.int 1 v] }).objs.size],_,_,H,rfl,
  I1.kept (t':=tk) fun b o e=>Qd _ e,Ziz _ lo (hi-lo).toNat,?_,fun b hb=>?_,q⟩
 ·have e1:lo+((0:Nat):Int)*1=lo:=by simp
  have e2:(((hi-lo).toNat:Nat):Int)-((0:Nat):Int)=Builtin.Range.rangeSize lo hi 1:=by rw[rangeSize_one];split<;>omega
  show IsRangeIter _ _ (lo+((0:Nat):Int)*1) ((((hi-lo).toNat:Nat):Int)-((0:Nat):Int)) 1
  rw[e1,e2]
  exact QA _ rfl
 ·have e:b=(s.heap.push { cls:=.type "range",data:=.fields #[.int lo t,.int hi u,.int 1 v] }).objs.size:=by simpa using hb
  subst e
  exact I1.fpOk (Qg _) (I1.hok.fresh (Qg _))
def ZpG(ta:TA):TI:=fun σ H R=>ta σ H fun vs H1=>∃j:Int,vs=[.int j] ∧ -(2 ^ 62)≤j∧j<2 ^ 62∧R (Itr 0 j.toNat) H1
def ZpM(ta:TA):TI:=fun σ H R=>ta σ H fun vs H1=>∃i j:Int,vs=[.int i,.int j]∧(-(2 ^ 62)≤i∧i<2 ^ 62 ∧ -(2 ^ 62)≤j∧j<2 ^ 62)∧R (Itr i (j-i).toNat) H1
theorem Zcu{a:Expr}{ta:TA}{p pos:Pos}(hg:Gl X "range")(hm:X.mg "range" = none)(ha:PA X [a] ta)(hs:starEach [a] X.env=[(false,eval a X.env)]:=by rfl):PI X tg (.Call (.Name "range" p) [a] [] pos) (ZpG ta):=by
 intro pins s σ H R I h
 refine Call_ (ZdT I hg hm boot_range (QZ (thn (ha pos pins s σ H _ I h) fun us s1 ⟨vs,H1,I1,r1,q1⟩=>?_) hs rfl))
 obtain⟨j,e,q1,q2,q⟩:=q1
 subst e
 cases r1 with
 | cons r rr =>
  cases rr
  obtain⟨t,rfl⟩:=r
  exact call_range_1 (Zh7 I1 (by omega) (by omega) q1 q2 (by simpa using q))
theorem ZjR{a b:Expr}{ta:TA}{p pos:Pos}(hg:Gl X "range")(hm:X.mg "range" = none)(ha:PA X [a,b] ta)(hs:starEach [a,b] X.env=[(false,eval a X.env),(false,eval b X.env)]:=by rfl)(hs2:starEach [b] X.env=[(false,eval b X.env)]:=by rfl) :
  PI X tg (.Call (.Name "range" p) [a,b] [] pos) (ZpM ta):=by
 intro pins s σ H R I h
 refine Call_ (ZdT I hg hm boot_range (QZ (thn (ha pos pins s σ H _ I h) fun us s1 ⟨vs,H1,I1,r1,q1⟩=>?_) (by rw[hs,hs2]) (by rw[hs2];rfl)))
 obtain⟨i,j,e,⟨q1,q2,q3,q4⟩,q⟩:=q1
 subst e
 cases r1 with
 | cons r rr =>
  cases rr with
  | cons r' rr =>
   cases rr
   obtain⟨t,rfl⟩:=r
   obtain⟨t',rfl⟩:=r'
   exact call_range_2 (Zh7 I1 q1 q2 q3 q4 q)
def Zqi(wi:TI)(g:TG)(tb:TS):TS:=fun D σ H=>wi σ H fun J H1=>∃W:Nat→Nat→St→Hp→Prop,(∃m,W 0 m σ H1)∧∀i m σ H,W i m σ H →
 (J.stop i H∧D.nx σ H)∨(J.go i H∧∃N:St→Hp→Prop,(∀σ' H',N σ' H'→∃m',m'<m∧W (i+1) m' σ' H')∧∀x H',J.yld i H x H'→g x σ H' fun σ2 H2=>tb { D with nx:=N,ct:=N,bk:=D.nx } σ2 H2)
def ZeI(fp:List Addr)(h:Heap):List (Addr×Obj):=fp.filterMap fun b=>(h.get? b).map fun o=>(b,o)
theorem Zbt{fp:List Addr}{h:Heap}{b:Addr}{o:Obj}(hb:b∈fp)(e:h.get? b=some o):(b,o)∈ZeI fp h:=List.mem_filterMap.mpr ⟨b,hb,by rw[e];rfl⟩
theorem Zj4{fp:List Addr}{h:Heap}{p:Addr×Obj}(hp:p∈ZeI fp h):p.1∈fp∧h.get? p.1=some p.2:=by
 obtain⟨b,hb,e⟩:=Qan.mp hp
 cases q:h.get? b with
 | none=>rw[q]at e;cases e
 | some o =>
  rw[q]at e
  have e':(b,o)=p:=Qo e
  subst e'
  exact⟨hb,q⟩
theorem Inv.pinned{pins:List (Addr×Obj)}{σ:St}{H:Hp}{s:Shared}{fp:List Addr}(I:Inv X pins σ H s)(hf:∀b∈fp,Zeq X pins H b)(ho:∀b∈fp,∃o,s.heap.get? b=some o∧∀v,o.data≠.cell v):Inv X (pins++ZeI fp s.heap) σ H s :=
 I.pins_of fun p hp=>(Qk.mp hp).elim (fun z=>I.pin p (Qr _ z)) fun z=>by
  obtain⟨hb,e⟩:=Zj4 z
  obtain⟨f0,f1,f2,_⟩:=hf p.1 hb
  obtain⟨o,e',d⟩:=ho p.1 hb
  rw[e]at e';cases e'
  exact⟨e,f0,f1,f2,d⟩
theorem Inv.unpinned{pins pl:List (Addr×Obj)}{σ:St}{H:Hp}{s:Shared}(I:Inv X (pins++pl) σ H s):Inv X pins σ H s:=I.pins_of fun p hp=>I.pin p (Qr _ (QL _ hp))
theorem Zdf{iter:Expr}{body:List Stmt}{wi:TI}{g:TG}{tb:TS}{pos:Pos}(hp:PassesOwn (model X.prog X.w) X.A X.env X.xe)(hc:X.calm=true)(hi:PI X tg iter wi)(hg:PG X tg g)(hb:PSs X body tb)
  (hs:∀x,foldedSetIterable iter X.env x=pure x:=by intro _;rfl):PS X (.For tg iter body [] pos) (Zqi wi g tb):=by
 intro pins s σ H D I h
 refine wpAny_For (thn (hi pins s σ H _ I h) fun v s1 h1=>thn h1 fun itv s2 h2=>?_) hs
 obtain⟨it,fp,tn,J,H2,e,I2,T,st2,f2,W,⟨m0,w0⟩,turn⟩:=h2
 subst e
 have stat:∀ {H':Hp},(∀b∈fp,H' b=none)→∀b∈fp,Zeq X pins H' b:=fun hn b hb=>⟨hn b hb,(f2 b hb).2⟩
 refine codeAny_forLoop_any (fun n s'=>∃i σ' H',Inv X pins σ' H' s'∧tn i s'.heap∧(∀b∈fp,H' b=none)∧W i n σ' H') ?_ m0 ⟨0,σ,H2,I2,st2,fun b hb=>(f2 b hb).1,w0⟩
 rintro n s3 ⟨i,σ3,H3,I3,st3,fr3,w3⟩
 rcases turn i n σ3 H3 w3 with⟨stop,qn⟩|⟨go,N,hN,step⟩
 ·refine wpAny_passesOwn hp (thn (T.done X rfl rfl rfl hc i pins s3 σ3 H3 X.xe I3 (stat fr3) st3 stop) fun r s4 ⟨hr,I4⟩=>?_)
  subst hr
  exact wpAny_execs_nil ⟨σ3,H3,I4,qn⟩
 ·refine wpAny_passesOwn hp (thn (T.item X rfl rfl rfl hc i pins s3 σ3 H3 X.xe I3 (stat fr3) st3 go) fun r s4 ⟨u,hr,h4⟩=>?_)
  subst hr
  refine wpAny_passesOwn hp (thn h4 fun _ s5 ⟨x,H5,I5,r5,y5,st5,fr5⟩=>?_)
  have I5':=I5.pinned (stat fr5) (T.obj _ _ st5)
  refine wpAny_passesOwn hp (thn (hg _ s5 σ3 H5 x u _ I5' r5 (step x H5 y5)) fun _ s6 ⟨σ6,H6,I6,q6⟩=>?_)
  refine wpAny_passesOwn hp (thn (hb _ s6 σ6 H6 _ I6 q6) fun f s7 q7=>?_)
  have again:∀ {σ7:St} {H7:Hp},Inv X (pins++ZeI fp s5.heap) σ7 H7 s7→N σ7 H7→∃m,m<n∧∃i σ' H',Inv X pins σ' H' s7∧tn i s7.heap∧(∀b∈fp,H' b=none)∧W i m σ' H':=fun {σ7 H7} I7 n7=>by
   obtain⟨m',hm,w7⟩:=hN σ7 H7 n7
   refine⟨m',hm,i+1,σ7,H7,I7.unpinned,T.keep _ _ _ st5 fun b hb o e=>(I7.pin (b,o) (Qr _ (Qr _ (Zbt hb e)))).1,fun b hb=>?_,w7⟩
   obtain⟨o,e,d⟩:=T.obj _ _ st5 b hb
   exact(I7.pin (b,o) (Qr _ (Qr _ (Zbt hb e)))).2.1
  cases f with
  | next=>obtain⟨σ7,H7,I7,n7⟩:=q7;exact again I7 n7
  | cont=>obtain⟨σ7,H7,I7,n7⟩:=q7;exact again I7 n7
  | brk=>obtain⟨σ7,H7,I7,q7⟩:=q7;exact⟨σ7,H7,I7.unpinned,q7⟩
  | ret v=>obtain⟨x7,σ7,H7,I7,r7,q7⟩:=q7;exact⟨x7,σ7,H7,I7.unpinned,r7,q7⟩
end
theorem Zfu{K:PySem.W.Frag}{a:Addr}{xs:List V}{g:TG}{tb:TS}{D:ZeV}{σ:St}{H:Hp}(Pv:Nat→St→Hp→Prop)(h0:Pv 0 σ H)(hl:∀i σ H,i≤xs.length→Pv i σ H→SqL K H a xs)
  (hs:∀i x σ H,xs[i]? = some x→Pv i σ H→g x σ H fun σ2 H2=>tb { D with nx:=Pv (i+1),ct:=Pv (i+1),bk:=D.nx } σ2 H2) (hd:∀σ H,Pv xs.length σ H→D.nx σ H) :
  ∃W:Nat→Nat→St→Hp→Prop,(∃m,W 0 m σ H)∧∀i m σ H,W i m σ H →
   ((Itl K a).stop i H∧D.nx σ H)∨((Itl K a).go i H∧∃N:St→Hp→Prop,(∀σ' H',N σ' H'→∃m',m'<m∧W (i+1) m' σ' H')∧∀x H',(Itl K a).yld i H x H'→g x σ H' fun σ2 H2=>tb { D with nx:=N,ct:=N,bk:=D.nx } σ2 H2):=by
 refine⟨fun i m σ H=>m=xs.length-i∧i≤xs.length∧Pv i σ H,⟨xs.length,by simp,Qn _,h0⟩,?_⟩
 rintro i m σ H ⟨rfl,hi,p⟩
 have q:=hl i σ H hi p
 by_cases hlt:i<xs.length
 ·refine .inr ⟨⟨xs,xs[i],q,by simp[hlt]⟩,Pv (i+1),fun σ' H' p'=>⟨xs.length-(i+1),by omega,rfl,hlt,p'⟩,fun x H' y=>?_⟩
  obtain⟨e,y⟩:=y
  subst e
  exact hs i x σ _ (y xs q) p
 ·have e:i=xs.length:=by omega
  subst e
  exact .inl ⟨⟨xs,q,Qg _⟩,hd σ H p⟩
theorem ZeH{lo:Int}{n:Nat}{g:TG}{tb:TS}{D:ZeV}{σ:St}{H:Hp}(Pv:Nat→St→Hp→Prop)(h0:Pv 0 σ H)
  (hs:∀i σ H,i<n→Pv i σ H→g (.int (lo+i)) σ H fun σ2 H2=>tb { D with nx:=Pv (i+1),ct:=Pv (i+1),bk:=D.nx } σ2 H2) (hd:∀σ H,Pv n σ H→D.nx σ H) :
  ∃W:Nat→Nat→St→Hp→Prop,(∃m,W 0 m σ H)∧∀i m σ H,W i m σ H →
   ((Itr lo n).stop i H∧D.nx σ H)∨((Itr lo n).go i H∧∃N:St→Hp→Prop,(∀σ' H',N σ' H'→∃m',m'<m∧W (i+1) m' σ' H')∧∀x H',(Itr lo n).yld i H x H'→g x σ H' fun σ2 H2=>tb { D with nx:=N,ct:=N,bk:=D.nx } σ2 H2):=by
 refine⟨fun i m σ H=>m=n-i∧i≤n∧Pv i σ H,⟨n,by simp,Qn _,h0⟩,?_⟩
 rintro i m σ H ⟨rfl,hi,p⟩
 by_cases hlt:i<n
 ·refine .inr ⟨hlt,Pv (i+1),fun σ' H' p'=>⟨n-(i+1),by omega,rfl,hlt,p'⟩,fun x H' y=>?_⟩
  obtain⟨e,y⟩:=y
  subst e y
  exact hs i σ _ hlt p
 ·have e:i=n:=by omega
  subst e
  exact .inl ⟨Qg _,hd σ H p⟩
abbrev R2:=V→V→Hp→VK→Prop
def OpR(X:Cx)(f:Value→Value→Sem Value)(r:R2):Prop :=
 ∀ (pins:List (Addr×Obj)) (s:Shared) (σ:St) (H:Hp) (x y:V) (v u:Value) (Q:VK),Inv X pins σ H s→Zy x v→Zy y u→r x y H Q →
  wpAny (model X.prog X.w) X.A (f v u) (EP X pins σ Q) X.xe s
def UnR(X:Cx)(f:Value→Sem Value)(r:V→Hp→VK→Prop):Prop :=
 ∀ (pins:List (Addr×Obj)) (s:Shared) (σ:St) (H:Hp) (x:V) (v:Value) (Q:VK),Inv X pins σ H s→Zy x v→r x H Q →
  wpAny (model X.prog X.w) X.A (f v) (EP X pins σ Q) X.xe s
def ZaM(X:Cx)(f:Value)(r:List V→Hp→VK→Prop):Prop :=
 ∀ (pins:List (Addr×Obj)) (s:Shared) (σ:St) (H:Hp) (xs:List V) (us:List Value) (Q:VK),Inv X pins σ H s→ZB xs us→r xs H Q →
  wpAny (model X.prog X.w) X.A (call f us) (EP X pins σ Q) X.xe s
def TruR(X:Cx)(r:V→Hp→(Bool→Hp→Prop)→Prop):Prop :=
 ∀ (pins:List (Addr×Obj)) (s:Shared) (σ:St) (H:Hp) (x:V) (v:Value) (Q:Bool→Hp→Prop),Inv X pins σ H s→Zy x v→r x H Q →
  wpAny (model X.prog X.w) X.A (truthy v) (TP X pins σ Q) X.xe s
def tOp(r:R2)(ta tb:TE):TE:=fun σ H Q=>ta σ H fun x H1=>tb σ H1 fun y H2=>r x y H2 Q
def tUn(r:V→Hp→VK→Prop)(ta:TE):TE:=fun σ H Q=>ta σ H fun x H1=>r x H1 Q
def rI(C:Int→Int→Prop)(g:Int→Int→V):R2:=fun x y H Q=>∃i j,x=.int i∧y=.int j∧C i j∧Q (g i j) H
def rI0(g:Int→Int→V):R2:=fun x y H Q=>∃i j,x=.int i∧y=.int j∧Q (g i j) H
def rU(g:Int→V):V→Hp→VK→Prop:=fun x H Q=>∃i,x=.int i∧Q (g i) H
section
variable {X:Cx} {a b c:Expr} {ta tb tc:TE} {pos:Pos}
theorem Zok(ha:PE X a ta)(hb:PE X b tb){pins:List (Addr×Obj)}{s:Shared}{σ:St}{H:Hp}{R:V→V→Hp→Prop}(I:Inv X pins σ H s)
  (h:ta σ H fun x H1=>tb σ H1 fun y H2=>R x y H2) {Q:Value→Shared→Prop} {f:Value→Value→Sem Value}
  (hf:∀v u s2 x y H2,Inv X pins σ H2 s2→Zy x v→Zy y u→R x y H2→wpAny (model X.prog X.w) X.A (f v u) Q X.xe s2) :
  wpAny (model X.prog X.w) X.A (eval a X.env) (fun v s₁=>wpAny (model X.prog X.w) X.A (eval b X.env) (fun u s₂=>wpAny (model X.prog X.w) X.A (f v u) Q X.xe s₂) X.xe s₁) X.xe s:=by
 refine thn (ha pins s σ H _ I h) fun v s1 ⟨x,H1,I1,r1,q1⟩=>?_
 refine thn (hb pins s1 σ H1 _ I1 q1) fun u s2 ⟨y,H2,I2,r2,q2⟩=>?_
 exact hf v u s2 x y H2 I2 r1 r2 q2
theorem Z8{op:Operator}{r:R2}(ho:OpR X (binaryOp op) r)(ha:PE X a ta)(hb:PE X b tb):PE X (.BinOp a op b pos) (tOp r ta tb):=by
 intro pins s σ H Q I h
 exact wpAny_BinOp (Zok ha hb I h fun v u s2 x y H2 I2 rx ry q=>ho pins s2 σ H2 x y v u Q I2 rx ry q)
theorem Zjb{op:UnaryOp}{r:V→Hp→VK→Prop}(ho:UnR X (unaryOp op) r)(ha:PE X a ta):PE X (.UnaryOp op a pos) (tUn r ta):=by
 intro pins s σ H Q I h
 exact UnaryOp_ (thn (ha pins s σ H _ I h) fun v s1 ⟨x,H1,I1,r1,q1⟩=>ho pins s1 σ H1 x v Q I1 r1 q1)
theorem opI{f:Value→Value→Sem Value}{C:Int→Int→Prop}{g:Int→Int→Int}
  (rule:∀ (i j:Int) (t u:Tok) (s:Shared) (Q:Value→Shared→Prop) (E:Value→Shared→Prop),C i j→Q (.int (g i j) s.toks) { s with toks:=s.toks+1 }→wpAny (model X.prog X.w) X.A (f (.int i t) (.int j u)) Q E s) :
  OpR X f (rI C fun i j=>.int (g i j)):=by
 intro pins s σ H x y v u Q I rx ry h
 obtain⟨i,j,rfl,rfl,hc,q⟩:=h
 obtain⟨t,rfl⟩:=rx
 obtain⟨t',rfl⟩:=ry
 exact rule i j t t' s _ _ hc ⟨.int (g i j),H,I.tok _,⟨_,rfl⟩,q⟩
theorem Zpw{f:Value→Value→Sem Value}{g:Int→Int→Int}
  (rule:∀ (i j:Int) (t u:Tok) (s:Shared) (Q:Value→Shared→Prop) (E:Value→Shared→Prop),Q (.int (g i j) s.toks) { s with toks:=s.toks+1 }→wpAny (model X.prog X.w) X.A (f (.int i t) (.int j u)) Q E s) :
  OpR X f (rI0 fun i j=>.int (g i j)):=by
 intro pins s σ H x y v u Q I rx ry h
 obtain⟨i,j,rfl,rfl,q⟩:=h
 obtain⟨t,rfl⟩:=rx
 obtain⟨t',rfl⟩:=ry
 exact rule i j t t' s _ _ ⟨.int (g i j),H,I.tok _,⟨_,rfl⟩,q⟩
theorem ZmB{f:Value→Value→Sem Value}{g:Int→Int→Bool}
  (rule:∀ (i j:Int) (t u:Tok) (s:Shared) (Q:Value→Shared→Prop) (E:Value→Shared→Prop),Q (.bool (g i j)) s→wpAny (model X.prog X.w) X.A (f (.int i t) (.int j u)) Q E s) :
  OpR X f (rI0 fun i j=>.bl (g i j)):=by
 intro pins s σ H x y v u Q I rx ry h
 obtain⟨i,j,rfl,rfl,q⟩:=h
 obtain⟨t,rfl⟩:=rx
 obtain⟨t',rfl⟩:=ry
 exact rule i j t t' s _ _ ⟨.bl (g i j),H,I,rfl,q⟩
def Zqt(i j:Int):Prop:=0<j∧j<1073741824
def CDivN(i j:Int):Prop:=j≠0∧j.natAbs<1073741824
def Zp2(i j:Int):Prop:=0≤j∧j≤1000000∧i.natAbs<2 ^ 64
def ZnW(i j:Int):Prop:=(-(2 ^ 64)<i∧i<2 ^ 64)∨(-(2 ^ 64)<j∧j<2 ^ 64)
theorem ZnW.ok{i j:Int}(h:ZnW i j):IntMulOk i j:=by
 rcases h with⟨h1,h2⟩|⟨h1,h2⟩
 ·exact .of_left (intBits_le_64 h1 h2)
 ·exact .of_right (intBits_le_64 h1 h2)
theorem Zbl:OpR X (binaryOp .Add) (rI0 fun i j=>.int (i+j)):=Zpw fun _ _ _ _ _ _ _ q=>add_int q
theorem Zfz:OpR X (binaryOp .Sub) (rI0 fun i j=>.int (i-j)):=Zpw fun _ _ _ _ _ _ _ q=>sub_int q
theorem ZeC:OpR X (binaryOp .Mult) (rI ZnW fun i j=>.int (i*j)):=opI fun _ _ _ _ _ _ _ hc q=>mul_int q hc.ok
theorem Zg3:OpR X (binaryOp .FloorDiv) (rI Zqt fun i j=>.int (i / j)):=opI fun i j _ _ _ _ _ hc q=>by
 have h1:(0:Int)<j:=hc.1
 have h2:j<1073741824:=hc.2
 exact floordiv_int (by omega) (by rw[Int.fdiv_eq_ediv_of_nonneg i (by omega)];exact q) (.inl (PyProof.noPylong_small (by omega)))
theorem Zfa:OpR X (binaryOp .Mod) (rI (fun _ j=>0<j) fun i j=>.int (i % j)):=opI fun i j _ _ _ _ _ hc q=>by
 have h1:(0:Int)<j:=hc
 exact mod_int' (by omega) (by rw[Int.fmod_eq_emod_of_nonneg i (by omega)];exact q)
theorem ZoY:OpR X (binaryOp .Pow) (rI Zp2 fun i j=>.int (i ^ j.toNat)):=opI fun _ _ _ _ _ _ _ hc q=>pow_int_small hc.1 hc.2.1 hc.2.2 q
theorem unI{f:Value→Sem Value}{g:Int→Int}
  (rule:∀ (i:Int) (t:Tok) (s:Shared) (Q:Value→Shared→Prop) (E:Value→Shared→Prop),Q (.int (g i) s.toks) { s with toks:=s.toks+1 }→wpAny (model X.prog X.w) X.A (f (.int i t)) Q E s) :
  UnR X f (rU fun i=>.int (g i)):=by
 intro pins s σ H x v Q I rx h
 obtain⟨i,rfl,q⟩:=h
 obtain⟨t,rfl⟩:=rx
 exact rule i t s _ _ ⟨.int (g i),H,I.tok _,⟨_,rfl⟩,q⟩
theorem ZgN:UnR X (unaryOp .USub) (rU fun i=>.int (-i)):=unI fun _ _ _ _ _ q=>neg_int q
end
def Zpc:V→V→Bool
 | .non,.non=>true|.non,.int _=>true|.int _,.non=>true|.non,.bl _=>true|.bl _,.non=>true|.non,.str _=>true|.str _,.non=>true
 | .int _,.int _=>true|.bl _,.bl _=>true|.str _,.str _=>true|.byt _,.byt _=>true
 | .int _,.str _=>true|.str _,.int _=>true|.bl _,.str _=>true|.str _,.bl _=>true
 | _,_=>false
def rEq:R2:=fun x y H Q=>Zpc x y=true∧Q (.bl (decide (x=y))) H
def rNe:R2:=fun x y H Q=>Zpc x y=true∧Q (.bl (!decide (x=y))) H
theorem Zjd{i j:Int}:decide (V.int i=V.int j)=(i == j):=by
 rw[QX]
 simp
theorem Zlv{i j:Bool}:decide (V.bl i=V.bl j)=(i == j):=by
 rw[QX]
 simp
theorem Zjh{i j:Str}:decide (V.str i=V.str j)=(i == j):=by
 rw[QX]
 simp
theorem ZjD{i j:Array UInt8}:decide (V.byt i=V.byt j)=(i.toList == j.toList):=by
 rw[QX]
 cases i
 cases j
 simp
section
variable {X:Cx} {a b c:Expr} {ta tb tc:TE} {pos:Pos}
theorem ZM{pins:List (Addr×Obj)}{σ:St}{H:Hp}{s:Shared}{Q:VK}{k k':Bool}(I:Inv X pins σ H s)(q:Q (.bl k) H)(e:k=k'):EP X pins σ Q (.bool k') s:=by
 subst e
 exact⟨.bl k,H,I,rfl,q⟩
theorem Zbh:OpR X (compareOp .Eq) rEq:=by
 intro pins s σ H x y v u Q I rx ry h
 obtain⟨hs,q⟩:=h
 cases x with
 | non =>
  cases rx
  cases y with
  | non=>cases ry;exact PySem.EqNone.eq_none_none (ZM I q (by simp))
  | bl j=>cases ry;exact PySem.EqNone.eq_none_bool (ZM I q (by simp))
  | int j=>obtain⟨t',rfl⟩:=ry;exact PySem.EqNone.eq_none_int (ZM I q (by simp))
  | str j=>obtain⟨t',rfl⟩:=ry;exact PySem.EqNone.eq_none_str (ZM I q (by simp))
  | _=>exact absurd (show false=true from hs) Qi
 | bl i =>
  cases rx
  cases y with
  | non=>cases ry;exact PySem.EqNone.eq_bool_none (ZM I q (by simp))
  | bl j=>cases ry;exact eq_bool (ZM I q Zlv)
  | str j=>obtain⟨t',rfl⟩:=ry;exact PySem.EqMixed.eq_bool_str (ZM I q (by simp))
  | _=>exact absurd (show false=true from hs) Qi
 | int i =>
  obtain⟨t,rfl⟩:=rx
  cases y with
  | non=>cases ry;exact PySem.EqNone.eq_int_none (ZM I q (by simp))
  | int j=>obtain⟨t',rfl⟩:=ry;exact eq_int (ZM I q Zjd)
  | str j=>obtain⟨t',rfl⟩:=ry;exact PySem.EqMixed.eq_int_str (ZM I q (by simp))
  | _=>exact absurd (show false=true from hs) Qi
 | str i =>
  obtain⟨t,rfl⟩:=rx
  cases y with
  | non=>cases ry;exact PySem.EqNone.eq_str_none (ZM I q (by simp))
  | bl j=>cases ry;exact PySem.EqMixed.eq_str_bool (ZM I q (by simp))
  | int j=>obtain⟨t',rfl⟩:=ry;exact PySem.EqMixed.eq_str_int (ZM I q (by simp))
  | str j=>obtain⟨t',rfl⟩:=ry;exact eq_str (ZM I q Zjh)
  | _=>exact absurd (show false=true from hs) Qi
 | byt i =>
  obtain⟨t,rfl⟩:=rx
  cases y with
  | byt j=>obtain⟨t',rfl⟩:=ry;exact PySem.W.eq_bytes (ZM I q ZjD)
  | _=>exact absurd (show false=true from hs) Qi
 | _=>cases y<;>exact absurd (show false=true from hs) Qi
theorem Zgx:OpR X (compareOp .NotEq) rNe:=by
 intro pins s σ H x y v u Q I rx ry h
 obtain⟨hs,q⟩:=h
 cases x with
 | non =>
  cases rx
  cases y with
  | non=>cases ry;exact PySem.EqNone.ne_none_none (ZM I q (by simp))
  | bl j=>cases ry;exact PySem.EqNone.ne_none_bool (ZM I q (by simp))
  | int j=>obtain⟨t',rfl⟩:=ry;exact PySem.EqNone.ne_none_int (ZM I q (by simp))
  | str j=>obtain⟨t',rfl⟩:=ry;exact PySem.EqNone.ne_none_str (ZM I q (by simp))
  | _=>exact absurd (show false=true from hs) Qi
 | bl i =>
  cases rx
  cases y with
  | non=>cases ry;exact PySem.EqNone.ne_bool_none (ZM I q (by simp))
  | bl j=>cases ry;exact ne_bool (ZM I q (congrArg not Zlv))
  | str j=>obtain⟨t',rfl⟩:=ry;exact PySem.EqMixed.ne_bool_str (ZM I q (by simp))
  | _=>exact absurd (show false=true from hs) Qi
 | int i =>
  obtain⟨t,rfl⟩:=rx
  cases y with
  | non=>cases ry;exact PySem.EqNone.ne_int_none (ZM I q (by simp))
  | int j=>obtain⟨t',rfl⟩:=ry;exact ne_int (ZM I q (congrArg not Zjd))
  | str j=>obtain⟨t',rfl⟩:=ry;exact PySem.EqMixed.ne_int_str (ZM I q (by simp))
  | _=>exact absurd (show false=true from hs) Qi
 | str i =>
  obtain⟨t,rfl⟩:=rx
  cases y with
  | non=>cases ry;exact PySem.EqNone.ne_str_none (ZM I q (by simp))
  | bl j=>cases ry;exact PySem.EqMixed.ne_str_bool (ZM I q (by simp))
  | int j=>obtain⟨t',rfl⟩:=ry;exact PySem.EqMixed.ne_str_int (ZM I q (by simp))
  | str j=>obtain⟨t',rfl⟩:=ry;exact ne_str (ZM I q (congrArg not Zjh))
  | _=>exact absurd (show false=true from hs) Qi
 | byt i =>
  obtain⟨t,rfl⟩:=rx
  cases y with
  | byt j=>obtain⟨t',rfl⟩:=ry;exact PySem.W.ne_bytes (ZM I q (congrArg not ZjD))
  | _=>exact absurd (show false=true from hs) Qi
 | _=>cases y<;>exact absurd (show false=true from hs) Qi
theorem Zef:OpR X (compareOp .Lt) (rI0 fun i j=>.bl (decide (i<j))):=ZmB fun _ _ _ _ _ _ _ q=>lt_int q
theorem ZnQ:OpR X (compareOp .LtE) (rI0 fun i j=>.bl (decide (i≤j))):=ZmB fun _ _ _ _ _ _ _ q=>le_int q
theorem Zgk:OpR X (compareOp .Gt) (rI0 fun i j=>.bl (decide (j<i))):=ZmB fun _ _ _ _ _ _ _ q=>gt_int q
theorem ZnF:OpR X (compareOp .GtE) (rI0 fun i j=>.bl (decide (j≤i))):=ZmB fun _ _ _ _ _ _ _ q=>ge_int q
theorem Zj1:OpR X (compareOp .Lt) (fun x y H Q=>∃i j,x=.str i∧y=.str j∧Q (.bl (decide (i.cps.toList<j.cps.toList))) H):=by
 intro pins s σ H x y v u Q I rx ry h
 obtain⟨i,j,rfl,rfl,q⟩:=h
 obtain⟨t,rfl⟩:=rx
 obtain⟨t',rfl⟩:=ry
 exact lt_str (ZM I q rfl)
theorem Zbs:OpR X (compareOp .Is) (fun x y H Q=>y=.non∧Q (.bl (decide (x=.non))) H):=by
 intro pins s σ H x y v u Q I rx ry h
 obtain⟨rfl,q⟩:=h
 cases ry
 refine is_none_gen (ZM I q ?_)
 cases x<;>first
  | (cases rx;rfl)
  | (obtain⟨t,rfl⟩:=rx;rfl)
theorem ZcI:OpR X (compareOp .IsNot) (fun x y H Q=>y=.non∧Q (.bl (!decide (x=.non))) H):=by
 intro pins s σ H x y v u Q I rx ry h
 obtain⟨rfl,q⟩:=h
 cases ry
 refine isnot_none_gen (ZM I q ?_)
 cases x<;>first
  | (cases rx;rfl)
  | (obtain⟨t,rfl⟩:=rx;rfl)
def isObj:HO→Bool
 | .lst _=>true
 | .ins _ _ _=>true
 | _=>false
theorem Zo(b:Expr){op:CmpOp}(h:op≠.In:=by decide)(h2:op≠.NotIn:=by decide):behindInMarks op b=false:=by
 have e1:(op == CmpOp.In)=false:=by cases op<;>first|rfl|exact absurd rfl h
 have e2:(op == CmpOp.NotIn)=false:=by cases op<;>first|rfl|exact absurd rfl h2
 cases b<;>simp[behindInMarks,e1,e2]
theorem Zbg{op:CmpOp}{r:R2}(ho:OpR X (compareOp op) r)(ha:PE X a ta)(hb:PE X b tb)(hm:behindInMarks op b=false):PE X (.Compare a [op] [b] pos) (tOp r ta tb):=by
 intro pins s σ H Q I h
 exact wpAny_Compare1 (Zok ha hb I h fun v u s2 x y H2 I2 rx ry q=>ho pins s2 σ H2 x y v u Q I2 rx ry q) hm
def ZnK(t:TE):TT:=fun σ H Q=>t σ H fun x H'=>∃k,x=.bl k∧Q k H'
theorem Zk{op:CmpOp}{r:R2}(ho:OpR X (compareOp op) r)(ha:PE X a ta)(hb:PE X b tb)(hm:behindInMarks op b=false):PT X (.Compare a [op] [b] pos) (ZnK (tOp r ta tb)):=by
 intro pins s σ H Q I h
 refine wpAny_isTrue_Compare1 (thn (ha pins s σ H _ I h) fun v s1 ⟨x,H1,I1,r1,q1⟩=>thn (hb pins s1 σ H1 _ I1 q1) fun u s2 ⟨y,H2,I2,r2,q2⟩=>
  thn (ho pins s2 σ H2 x y v u _ I2 r1 r2 q2) fun c s3 ⟨z,H3,I3,r3,k,e,q3⟩=>?_) hm
 subst e
 cases r3
 exact wpAny_truthy_bool ⟨H3,I3,q3⟩
def ZoE(r r':R2)(ta tb tc:TE):TE:=fun σ H Q=>ta σ H fun x H1=>tb σ H1 fun y H2=>r x y H2 fun z H3=>∃k,z=.bl k ∧
 (if k=true then tc σ H3 fun w' H4=>r' y w' H4 Q else Q (.bl false) H3)
theorem Zlr{op op':CmpOp}{r r':R2}(ho:OpR X (compareOp op) r)(ho':OpR X (compareOp op') r')(ha:PE X a ta)(hb:PE X b tb)(hc:PE X c tc)
  (hm:lastMarks [op,op'] [b,c]=false:=by with_unfolding_all rfl):PT X (.Compare a [op,op'] [b,c] pos) (ZnK (ZoE r r' ta tb tc)):=by
 intro pins s σ H Q I h
 refine isTrue_chain (thn (ha pins s σ H _ I h) fun v s1 ⟨x,H1,I1,r1,q1⟩=>test_link (thn (hb pins s1 σ H1 _ I1 q1) fun u s2 ⟨y,H2,I2,r2,q2⟩=>
  thn (ho pins s2 σ H2 x y v u _ I2 r1 r2 q2) fun d s3 ⟨z,H3,I3,r3,k,e,q3⟩=>?_)) hm
 subst e
 cases r3
 refine wpAny_truthy_bool ?_
 cases k with
 | false =>
  obtain⟨k',e',q'⟩:=q3
  cases e'
  exact ite_ff ⟨H3,I3,q'⟩
 | true =>
  refine ite_tt (test_last (thn (hc pins s3 σ H3 _ I3 q3) fun w' s4 ⟨z',H4,I4,r4,q4⟩=>thn (ho' pins s4 σ H4 y z' u w' _ I4 r2 r4 q4) fun d' s5 ⟨z2,H5,I5,r5,k2,e2,q5⟩=>?_))
  subst e2
  cases r5
  exact wpAny_truthy_bool ⟨H5,I5,q5⟩
def ZqD(K:PySem.W.Frag)(x:V)(H:Hp)(k:Bool):Prop :=
 match x with
 | .non=>k=false
 | .bl b=>k=b
 | .int i=>k=(i != 0)
 | .str y=>y.length≤sizeLine∧k=((y.length:Int) != 0)
 | .byt y=>y.size≤sizeLine∧k=((y.size:Int) != 0)
 | .ref p=>(∃xs,SqL K H p xs∧k = !xs.isEmpty)∨(∃xs,SqT K H p xs∧k = !xs.isEmpty)∨∃kvs,H p=some (.dK kvs)∧k = !kvs.isEmpty
 | _=>False
theorem Zeu:(sizeLine:Nat)<2 ^ 63:=by rw[sizeLine_eq];decide
theorem ZiF:OpR X (binaryOp .Add) (fun x y H Q=>∃i j,x=.str i∧y=.str j∧i.length+j.length≤sizeLine∧Q (.str (i++j)) H):=by
 intro pins s σ H x y v u Q I rx ry h
 obtain⟨i,j,rfl,rfl,hz,q⟩:=h
 obtain⟨t,rfl⟩:=rx
 obtain⟨t',rfl⟩:=ry
 exact add_str (fun t' tk=>⟨.str (i++j),H,I.tok _,⟨_,rfl⟩,q⟩) hz
def PlainIxT(b:Expr):Prop:=∀o i,subscripted b false o i=operate [o,i] (getItem o i)
theorem Zce{x:V}{us:List Value}(r:ZB [x] us):∃u,us=[u]∧Zy x u:=by
 cases r with
 | cons r1 r2=>cases r2;exact⟨_,rfl,r1⟩
theorem ZlU{x y:V}{us:List Value}(r:ZB [x,y] us):∃u w',us=[u,w']∧Zy x u∧Zy y w':=by
 cases r with
 | cons r1 r2 =>
  cases r2 with
  | cons r3 r4=>cases r4;exact⟨_,_,rfl,r1,r3⟩
theorem ZhT:ZaM X (.builtin "abs") (fun xs H Q=>∃i,xs=[.int i]∧Q (.int (if i<0 then -i else i)) H):=by
 intro pins s σ H xs us Q I r h
 obtain⟨i,rfl,q⟩:=h
 obtain⟨u,rfl,t,rfl⟩:=Zce r
 exact call_abs_int fun u tk=>⟨.int (if i<0 then -i else i),H,I.tok _,⟨_,rfl⟩,q⟩
theorem Zf3(hc:X.calm=true):ZaM X (.builtin "max") (fun xs H Q=>∃i j,xs=[.int i,.int j]∧Q (.int (if j>i then j else i)) H):=by
 intro pins s σ H xs us Q I r h
 obtain⟨i,j,rfl,q⟩:=h
 obtain⟨u,w',rfl,⟨t,rfl⟩,⟨t',rfl⟩⟩:=ZlU r
 refine max_two_ints (I.ok.hd hc) fun h' tk k=>⟨_,H,I.kept k,?_,q⟩
 by_cases hj:j>i
 ·rw[if_pos hj,if_pos hj];exact⟨_,rfl⟩
 ·rw[if_neg hj,if_neg hj];exact⟨_,rfl⟩
theorem Zf2(hc:X.calm=true):ZaM X (.builtin "min") (fun xs H Q=>∃i j,xs=[.int i,.int j]∧Q (.int (if j<i then j else i)) H):=by
 intro pins s σ H xs us Q I r h
 obtain⟨i,j,rfl,q⟩:=h
 obtain⟨u,w',rfl,⟨t,rfl⟩,⟨t',rfl⟩⟩:=ZlU r
 refine min_two_ints (I.ok.hd hc) fun h' tk k=>⟨_,H,I.kept k,?_,q⟩
 by_cases hj:j<i
 ·rw[if_pos hj,if_pos hj];exact⟨_,rfl⟩
 ·rw[if_neg hj,if_neg hj];exact⟨_,rfl⟩
theorem ZjF:ZaM X (.type "int") (fun xs H Q=>(∃i,xs=[.int i]∧Q (.int i) H)∨∃k,xs=[.bl k]∧Q (.int (if k then 1 else 0)) H):=by
 intro pins s σ H xs us Q I r h
 rcases h with⟨i,rfl,q⟩|⟨k,rfl,q⟩
 ·obtain⟨u,rfl,t,rfl⟩:=Zce r
  exact call_int_int ⟨.int i,H,I,⟨_,rfl⟩,q⟩
 ·obtain⟨u,rfl,r1⟩:=Zce r
  cases r1
  exact call_int_bool ⟨.int (if k then 1 else 0),H,I.tok _,⟨_,rfl⟩,q⟩
def LenV(K:PySem.W.Frag)(x:V)(H:Hp)(n:Nat):Prop :=
 match x with
 | .str y=>y.length≤sizeLine∧n=y.length
 | .byt y=>y.size≤sizeLine∧n=y.size
 | .ref p=>(∃xs,SqL K H p xs∧n=xs.length)∨∃xs,SqT K H p xs∧n=xs.length
 | _=>False
end
structure ZiC (h:Heap) (x dx C:Addr) (mA:Str→Option Value):Prop where
 obj:h.get? x=some (PySem.W.instObj C dx)
 ns:h.Ns1 dx mA
 ne:dx≠x
theorem Zkk{h:Heap}{dx:Addr}{mA:Str→Option Value}(n:h.Ns1 dx mA):∃od,h.get? dx=some od∧∀name,PySem.W.lookIn name od=some (mA name):=by
 obtain⟨o,es,ep,ho,hd,hk,_,hm⟩:=n
 refine⟨o,ho,fun name=>?_⟩
 have e:=hm name
 unfold nsFind findBy at e
 rw[← Array.find?_toList]at e
 unfold PySem.W.lookIn
 rw[hd]
 dsimp only
 split
 ·rename_i y q
  rw[q]at e
  exact congrArg some e
 ·rename_i q
  rw[q]at e
  have a:es.toList.any (·.refKey)=false:=by
   rw[List.any_eq_false]
   intro y hy
   obtain⟨z,t,hkey⟩:=hk y (Array.mem_toList_iff.mp hy)
   simp[DictEntry.refKey,hkey]
  have a':¬ es.toList.any (·.refKey)=true:=by rw[a];exact Qi
  rw[if_neg a']
  exact congrArg some e
theorem ZiC.look{h:Heap}{x dx C:Addr}{mA:Str→Option Value}(I:ZiC h x dx C mA):∃od,PySem.W.InstAt h x (PySem.W.instObj C dx) C (some od)∧∀name,PySem.W.lookIn name od=some (mA name) :=
 let ⟨od,ho,hl⟩:=Zkk I.ns
 ⟨od,⟨I.obj,rfl,rfl,ho⟩,hl⟩
section
variable {prog:Program} {w:World} {A:Around} {E:Value→Shared→Prop} {s:Shared} {K:PySem.W.Frag} {x dx C f:Addr} {mA:Str→Option Value} {name:Str} {v:Value}
theorem Znn{expr:Bool}{Q:Value→Shared→Prop}(X:K.In s.heap)(I:ZiC s.heap x dx C mA)(hg:PySem.W.plainGet K C name=true)(hh:PySem.W.hasDictIn K C=true)
  (ha:PySem.W.findIn K (.ref C) name=some none) (hv:mA name=some v) (hv':PySem.W.handedIn v=true) (h:Q v { s with toks:=s.toks+1 }) :
  wpAny (model prog w) A (getAttr (.ref x) name expr) Q E s:=by
 obtain⟨od,J,hl⟩:=I.look
 exact PySem.W.get_value X J (PySem.W.plainGet_of hg).1 (PySem.W.findObj_own hh ha rfl (by rw[hl,hv])) hv' h
theorem ZkY{pl:Sem Bool}{Q:Value×List Value→Shared→Prop}(X:K.In s.heap)(I:ZiC s.heap x dx C mA)(hg:PySem.W.plainGet K C name=true)
  (hf:PySem.W.findIn K (.ref C) name=some (some (.ref f))) (ht:PySem.W.isFn K (.ref f)=true) (hv:mA name=none) (h:Q (.ref f,[.ref x]) s) :
  wpAny (model prog w) A (getMethod (.ref x) name pl) Q E s:=by
 obtain⟨od,J,hl⟩:=I.look
 exact PySem.W.method_fn X J (PySem.W.plainGet_of hg).1 (PySem.W.plainGet_of hg).2 hf (beq_iff_eq.mp ht) (by show (PySem.W.lookIn name od).map (·.isSome)=some false;rw[hl,hv];rfl) h
theorem Zm0{ns:List Str}{Q:Unit→Shared→Prop}(X:K.In s.heap)(I:ZiC s.heap x dx C mA)
  (hs:PySem.W.findIn K (.ref C) "__setattr__" = some (some (.builtin "object.__setattr__"))) (hp:PySem.W.plainOver K C=true) (ht:PySem.W.takerIn K C name=some none) (hh:PySem.W.hasDictIn K C=true)
  (hw:PySem.Within mA ns) (hsz:ns.length≤sizeLine)
  (h:∀h',ZiC h' x dx C (fun y=>if y=name then some v else mA y)→Heap.SameBut dx s.heap h'→Q () { s with heap:=h',toks:=s.toks+2 }) :
  wpAny (model prog w) A (setAttr (.ref x) name v) Q E s:=by
 obtain⟨od,J,hl⟩:=I.look
 refine PySem.W.set_plain X J hs (PySem.W.osa_open (s:={ s with toks:=s.toks+1 }) (r:=none) X J hp ht fun b=>?_)
 obtain⟨cd,hc,hd'⟩:=PySem.W.any_some hh
 have hx:s.heap.get? x=some ⟨.ref C,some dx,.plain,#[]⟩:=I.obj
 refine wpAny_bind (wpAny_pure (wpAny_bind (wpAny_bind (wpAny_loadPart hx (wpAny_bind (PySem.W.Looks.here (s:={ s with toks:=s.toks+1 }) (PySem.W.looks_clsIn X hc) ?_))))))
 rw[hd']
 refine wpAny_pure (a:=some dx) (wpAny_bind (wpAny_pure (wpAny_bind ?_)))
 refine wpAny_nsSet1 (s:={ s with toks:=s.toks+1 }) I.ns fun h' hn2 hs2=>?_
 obtain⟨oD,esD,epD,hoD,hdD,hcD⟩:=hn2.count (PySem.Within.cons name v hw)
 refine wpAny_bind (wpAny_lookBehind hoD (by rw[hdD];exact pastItsLine_dict (QH hcD (by rw[Qu];omega))) ?_)
 exact wpAny_pure (h _ ⟨(hs2.2 _ (Ne.symm I.ne)).trans I.obj,hn2,I.ne⟩ hs2)
theorem ZkR{R:Result→Shared→Prop}{vs:List Value}{kw:List (Str×Value)}(X:K.In s.heap)(hm:PySem.W.makesIn K C=true)
  (hi:PySem.W.findIn K (.ref C) "__init__" = some (some (.ref f))) (hf:PySem.W.typeIn K (.ref f)=some (.type "function"))
  (h:codeAny (model prog w) (A.under (.builtin "type.__call__" ⟨.ref C::vs,kw⟩)) (.call (.ref f) ⟨.ref (s.heap.objs.size+1)::vs,kw⟩) (PySem.W.InitBack (s.heap.objs.size+1) R)
   { s with heap:=(s.heap.push PySem.W.emptyDict).push (PySem.W.instObj C s.heap.objs.size) }) :
  codeAny (model prog w) A (.call (.ref C) ⟨vs,kw⟩) R s:=by
 obtain⟨hh,g,d,t,os⟩:=s
 exact PySem.W.make_core (PySem.W.makes_of X hm) (PySem.W.looks_findIn X hi) (fun self=>PySem.W.bind_fn X self hf) (.inl rfl) h
end
def Zn(f:Str)(v:V):List (Str×V)→List (Str×V)
 | []=>[(f,v)]
 | (g,x)::r=>if g=f then (g,v)::r else (g,x)::Zn f v r
theorem Zj(f g:Str)(v:V):∀fs:List (Str×V),(Zn f v fs).lookup g=if g=f then some v else fs.lookup g
 | []=>by
  show List.lookup g [(f,v)]=_
  by_cases h:g=f
  ·have hb:(g == f)=true:=beq_iff_eq.mpr h
   simp only[List.lookup,hb,if_pos h]
  ·have hb:(g == f)=false:=beq_eq_false_iff_ne.mpr h
   simp only[List.lookup,hb,if_neg h]
 | (k,x)::r=>by
  have ih:=Zj f g v r
  rw[show Zn f v ((k,x)::r)=(if k=f then (k,v)::r else (k,x)::Zn f v r) from rfl]
  by_cases hk:k=f
  ·rw[if_pos hk]
   by_cases h:g=k
   ·have hb:(g == k)=true:=beq_iff_eq.mpr h
    simp only[List.lookup,hb,if_pos (h.trans hk)]
   ·have hb:(g == k)=false:=beq_eq_false_iff_ne.mpr h
    simp only[List.lookup,hb,if_neg (fun e:g=f=>h (e.trans hk.symm))]
  ·rw[if_neg hk]
   by_cases h:g=k
   ·have hb:(g == k)=true:=beq_iff_eq.mpr h
    simp only[List.lookup,hb,if_neg (fun e:g=f=>hk (h.symm.trans e))]
   ·have hb:(g == k)=false:=beq_eq_false_iff_ne.mpr h
    simp only[List.lookup,hb]
    exact ih
theorem Zez(f:Str)(v:V):∀fs:List (Str×V),f∈(Zn f v fs).map (·.1)∧∀g,g∈fs.map (·.1)→g∈(Zn f v fs).map (·.1)
 | []=>⟨by simp[Zn],fun g h=>by simp at h⟩
 | (k,x)::r=>by
  obtain⟨i1,i2⟩:=Zez f v r
  rw[show Zn f v ((k,x)::r)=(if k=f then (k,v)::r else (k,x)::Zn f v r) from rfl]
  by_cases hk:k=f
  ·rw[if_pos hk]
   subst hk
   exact⟨by simp,fun g h=>by simpa using h⟩
  ·rw[if_neg hk]
   refine⟨?_,fun g h=>?_⟩
   ·rw[Qe]
    exact Qm _ i1
   ·rw[Qe]at h ⊢
    rcases QG.mp h with e|e
    ·exact List.mem_cons.mpr (.inl e)
    ·exact Qm _ (i2 g e)
theorem ZeO(f:Str)(v:V):∀fs:List (Str×V),(Zn f v fs).length≤fs.length+1
 | []=>by simp[Zn]
 | (k,x)::r=>by
  have ih:=ZeO f v r
  rw[show Zn f v ((k,x)::r)=(if k=f then (k,v)::r else (k,x)::Zn f v r) from rfl]
  by_cases hk:k=f
  ·rw[if_pos hk,Qu,Qu];omega
  ·rw[if_neg hk,Qu,Qu];omega
theorem ZcA.some_of{v:V}{o:Option Value}(r:ZcA (some v) o):∃u,o=some u∧Zy v u:=by
 cases o with
 | none=>exact(show False from r).elim
 | some u=>exact⟨u,rfl,r⟩
theorem ZcA.none_of{o:Option Value}(r:ZcA none o):o=none:=by
 cases o with
 | none=>rfl
 | some u=>exact(show False from r).elim
theorem ZjJ{v:V}{u:Value}(r:Zy v u):PySem.W.handedIn u=true:=by
 cases v with
 | non=>cases (show u=Value.none from r);rfl
 | bl b=>cases (show u=Value.bool b from r);rfl
 | int i=>obtain⟨t,e⟩:=(show ∃t,u=Value.int i t from r);cases e;rfl
 | str x=>obtain⟨t,e⟩:=(show ∃t,u=Value.str x t from r);cases e;rfl
 | byt b=>obtain⟨t,e⟩:=(show ∃t,u=Value.bytes b t from r);cases e;rfl
 | flt b=>obtain⟨t,e⟩:=(show ∃t,u=Value.float b t from r);cases e;rfl
 | ref a=>cases (show u=Value.ref a from r);rfl
 | ty n=>cases (show u=Value.type n from r);rfl
section
variable {P:Program} {w:World} {H H':Hp} {h h':Heap} {a C dx:Addr} {fs fs':List (Str×V)}
theorem Ze2(hok:HOk P w H h)(e:H a=some (.ins C dx fs)):∃mA,ZiC h a dx C mA∧(∀f,ZcA (fs.lookup f) (mA f))∧PySem.Within mA (fs.map (·.1))∧fs.length≤1000∧H dx=some (.own a):=by
 obtain⟨d,z,ne,ob,mA,n,r,q⟩:=(show Zal P w H h a (.ins C dx fs) from hok a _ e)
 exact⟨mA,⟨ob,n,ne⟩,r,q,z,d⟩
end
structure Cls (K:PySem.W.Frag) (C:Addr):Prop where
 pg:PySem.W.plainGet K C Str.empty=true
 hd:PySem.W.hasDictIn K C=true
 po:PySem.W.plainOver K C=true
 sa:PySem.W.findIn K (.ref C) "__setattr__" = some (some (.builtin "object.__setattr__"))
theorem Cls.get{K:PySem.W.Frag}{C:Addr}(c:Cls K C)(f:Str):PySem.W.plainGet K C f=true:=c.pg
def ZaW(K:PySem.W.Frag)(C:Addr)(f:Str):Prop:=PySem.W.findIn K (.ref C) f=some none
theorem ZaW.taker{K:PySem.W.Frag}{C:Addr}{f:Str}(n:ZaW K C f):PySem.W.takerIn K C f=some none:=by
 unfold PySem.W.takerIn
 rw[show PySem.W.findIn K (.ref C) f=some none from n]
 rfl
structure Con (K:PySem.W.Frag) (C:Addr) (f:Str) (v:V) (u:Value):Prop where
 at_:PySem.W.findIn K (.ref C) f=some (some u)
 rel:Zy v u
 get:PySem.W.specialIn K u "__get__" = some none
 cp:PySem.W.copiedNames.contains f=false
structure ZlE (K:PySem.W.Frag) (C:Addr) (m:Str) (f:Addr):Prop where
 at_:PySem.W.findIn K (.ref C) m=some (some (.ref f))
 fn:PySem.W.isFn K (.ref f)=true
 kp:PySem.W.keepIn K (.ref f)=true
section
variable {X:Cx} {pins:List (Addr×Obj)} {σ:St} {H:Hp} {s:Shared} {a C dx:Addr} {fs:List (Str×V)} {f:Str} {v:V} {A:Around} {E:Value→Shared→Prop}
theorem Zfg{b:Bool}{Q:Value→Shared→Prop}(I:Inv X pins σ H s)(e:H a=some (.ins C dx fs))(c:Cls X.K C)(n:ZaW X.K C f)(l:fs.lookup f=some v)
  (h:∀u s',Inv X pins σ H s'→Zy v u→Q u s'):wpAny (model X.prog X.w) A (getAttr (.ref a) f b) Q E s:=by
 obtain⟨mA,O,r,_,_,_⟩:=Ze2 I.hok e
 obtain⟨u,hu,ru⟩:=ZcA.some_of (v:=v) (o:=mA f) (by rw[← l];exact r f)
 exact Znn I.kIn O (c.get f) c.hd n hu (ZjJ ru) (h u _ (I.tok _) ru)
theorem ZfD{m:Str}{g:Addr}{pl:Sem Bool}{Q:Value×List Value→Shared→Prop}(I:Inv X pins σ H s)(e:H a=some (.ins C dx fs))(c:Cls X.K C)(k:ZlE X.K C m g)(l:fs.lookup m=none)
  (h:Q (.ref g,[.ref a]) s):wpAny (model X.prog X.w) A (getMethod (.ref a) m pl) Q E s:=by
 obtain⟨mA,O,r,_,_,_⟩:=Ze2 I.hok e
 have hn:mA m=none:=ZcA.none_of (by rw[← l];exact r m)
 exact ZkY I.kIn O (c.get m) k.at_ k.fn hn h
theorem Zfi{y:V}{u:Value}{Q:Unit→Shared→Prop}(I:Inv X pins σ H s)(e:H a=some (.ins C dx fs))(c:Cls X.K C)(n:ZaW X.K C f)(hl:fs.length<1000)(ry:Zy y u)
  (h:∀s',Inv X pins σ (upd H a (.ins C dx (Zn f y fs))) s'→Q () s'):wpAny (model X.prog X.w) A (setAttr (.ref a) f u) Q E s:=by
 obtain⟨mA,O,r,wi,_,ho⟩:=Ze2 I.hok e
 have hz:(fs.map (·.1)).length≤sizeLine:=by rw[Qa,sizeLine_eq];omega
 refine Zm0 I.kIn O c.sa c.po n.taker c.hd wi hz fun h' O' sb=>h _ ?_
 have hd:∃o,h'.get? dx=some o:=let ⟨o,_,_,e',_⟩:=O'.ns;⟨o,e'⟩
 refine I.write (x:=a) (e:=dx) (by rw[e];exact True.intro) (.inr ho) (fun b q hb z=>(sb.2 b hb).trans z) hd ?_
 refine⟨by rw[Zc O.ne];exact ho,?_,O.ne,O'.obj,_,O'.ns,fun g=>?_,fun g hg=>?_⟩
 ·have:=ZeO f y fs;omega
 ·show ZcA ((Zn f y fs).lookup g) (if g=f then some u else mA g)
  rw[Zj]
  by_cases q:g=f
  ·rw[if_pos q,if_pos q];exact ry
  ·rw[if_neg q,if_neg q];exact r g
 ·by_cases q:g=f
  ·rw[q];exact(Zez f y fs).1
  ·refine(Zez f y fs).2 g (wi g fun z=>hg ?_)
   show (if g=f then some u else mA g)=none
   rw[if_neg q];exact z
theorem Inv.made(I:Inv X pins σ H s):Inv X pins σ (upd (upd H s.heap.objs.size (.own (s.heap.objs.size+1))) (s.heap.objs.size+1) (.ins C s.heap.objs.size []))
  { s with heap:=(s.heap.push PySem.W.emptyDict).push (PySem.W.instObj C s.heap.objs.size) }:=by
 have e1:(s.heap.push PySem.W.emptyDict).get? s.heap.objs.size=some PySem.W.emptyDict:=QA s.heap rfl
 have e2:((s.heap.push PySem.W.emptyDict).push (PySem.W.instObj C s.heap.objs.size)).get? (s.heap.objs.size+1)=some (PySem.W.instObj C s.heap.objs.size):=by
  have:=QA (s.heap.push PySem.W.emptyDict) (o:=PySem.W.instObj C s.heap.objs.size) rfl
  rwa [Heap.size_push]at this
 have e3:(s.heap.push PySem.W.emptyDict).Ns s.heap.objs.size (fun _=>none):=⟨PySem.W.emptyDict,#[],_,e1,rfl,(fun e he=>absurd he (by simp)),fun _=>rfl⟩
 have I1:=I.laid (a:=s.heap.objs.size) (o:=.own (s.heap.objs.size+1)) (h':=s.heap.push PySem.W.emptyDict) (t':=s.toks) (fun b u q=>Qd _ q) (Qg _) ⟨_,e1⟩
 refine I1.laid (a:=s.heap.objs.size+1) (o:=.ins C s.heap.objs.size []) (t':=s.toks) (fun b u q=>Qd _ q) (Nat.le_of_eq (Heap.size_push _ _)) ?_
 have ne:s.heap.objs.size≠s.heap.objs.size+1:=Qz (Nat.lt_succ_self _)
 refine⟨by rw[Zc ne,Zf],Qn _,ne,e2,fun _=>none,(Heap.Ns1.of_empty e3).at fun o q=>Qd _ q,fun _=>True.intro,fun y hy=>absurd rfl hy⟩
theorem ZmE{prog:Program}{w:World}{env:Env}{e:Expr}{f:Str}{pos:Pos}{s:Shared}{Q:Value→Shared→Prop}(hb:attributeBase e f env (eval e env)=eval e env)
  (h:wpAny (model prog w) A (eval e env) (fun o s₁=>wpAny (model prog w) A (getAttr o f true) Q E s₁) E s):wpAny (model prog w) A (eval (.Attribute e f pos) env) Q E s :=
 Attribute_any_ h (by rw[arm_eval_Attribute,hb])
end
def Zqw(K:PySem.W.Frag)(ta:TE)(f:Str):TE:=fun σ H Q=>ta σ H fun x H1=>∃a C dx fs v,x=.ref a∧H1 a=some (.ins C dx fs)∧Cls K C∧ZaW K C f∧fs.lookup f=some v∧Q v H1
def tCon(K:PySem.W.Frag)(ta:TE)(f:Str):TE:=fun σ H Q=>ta σ H fun x H1=>∃a C dx fs v u,x=.ref a∧H1 a=some (.ins C dx fs)∧Cls K C∧Con K C f v u∧fs.lookup f=none∧Q v H1
def ZqG(K:PySem.W.Frag)(ta tv:TE)(f:Str):TS:=fun D σ H=>tv σ H fun y H1=>ta σ H1 fun x H2=>∃a C dx fs,x=.ref a∧H2 a=some (.ins C dx fs)∧Cls K C∧ZaW K C f∧fs.length<1000 ∧
 D.nx σ (upd H2 a (.ins C dx (Zn f y fs)))
def Zo4(X:Cx)(op:Operator)(rd:V→V→Hp→VK→Prop):Prop :=
 ∀ (pins:List (Addr×Obj)) (s:Shared) (σ:St) (H:Hp) (x y:V) (u v:Value) (Q:VK),Inv X pins σ H s→Zy x u→Zy y v→rd x y H Q→wpAny (model X.prog X.w) X.A (inplaceOp op u v) (EP X pins σ Q) X.xe s
def ZmT(K:PySem.W.Frag)(ta tv:TE)(rd:V→V→Hp→VK→Prop)(f:Str):TS:=fun D σ H=>ta σ H fun x H1=>∃a C dx fs v,x=.ref a∧H1 a=some (.ins C dx fs)∧Cls K C∧ZaW K C f∧fs.lookup f=some v ∧
 tv σ H1 fun y H2=>rd v y H2 fun z H3=>∃dx' fs',H3 a=some (.ins C dx' fs')∧fs'.length<1000∧D.nx σ (upd H3 a (.ins C dx' (Zn f z fs')))
section
variable {X:Cx} {o e value:Expr} {f:Str} {pos pos' tpos:Pos} {ta tv:TE}
theorem ZN(he:PE X e ta)(hb:attributeBase e f X.env (eval e X.env)=eval e X.env):PE X (.Attribute e f pos) (Zqw X.K ta f):=by
 intro pins s σ H Q I h
 refine ZmE hb (thn (he pins s σ H _ I h) fun u s1 ⟨x,H1,I1,rx,a,C,dx,fs,v,ex,ea,c,n,l,q⟩=>?_)
 subst ex
 obtain rfl:u=Value.ref a:=rx
 exact Zfg I1 ea c n l fun u' s2 I2 ru=>⟨v,H1,I2,ru,q⟩
theorem ZbD(ha:PE X o ta)(hv:PE X value tv)(hs:swapsWith value (some (.Attribute o f pos')) pos.line X.env=pure false):PS X (.Assign [.Attribute o f pos'] value pos) (ZqG X.K ta tv f):=by
 intro pins s σ H D I h
 refine plainObj_wpAny_Assign_Attribute (thn (hv pins s σ H _ I h) fun u s1 ⟨y,H1,I1,ry,q⟩=>thn (ha pins s1 σ H1 _ I1 q) fun ov s2 ⟨x,H2,I2,rx,a,C,dx,fs,ex,ea,c,n,l,q2⟩=>?_) hs
 subst ex
 obtain rfl:ov=Value.ref a:=rx
 exact Zfi I2 ea c n l ry fun s3 I3=>⟨σ,_,I3,q2⟩
theorem ZcE{op:Operator}{rd:V→V→Hp→VK→Prop}(ha:PE X o ta)(hv:PE X value tv)(hop:Zo4 X op rd):PS X (.AugAssign (.Attribute o f tpos) op value pos) (ZmT X.K ta tv rd f):=by
 intro pins s σ H D I h
 refine wpAny_AugAssign_AttributeAny (thn (ha pins s σ H _ I h) fun ov s1 ⟨x,H1,I1,rx,a,C,dx,fs,v,ex,ea,c,n,l,q⟩=>?_)
 subst ex
 obtain rfl:ov=Value.ref a:=rx
 refine Zfg I1 ea c n l fun u s2 I2 ru=>thn (hv pins s2 σ H1 _ I2 q) fun w3 s3 ⟨y,H2,I3,ry,q3⟩=>thn (hop pins s3 σ H2 v y u w3 _ I3 ru ry q3) fun w4 s4 ⟨z,H3,I4,rz,dx',fs',ea',l',q4⟩=>?_
 exact Zfi I4 ea' c n l' rz fun s5 I5=>⟨σ,_,I5,q4⟩
def Zqc:V→V→Hp→VK→Prop:=fun x y H Q=>∃i j,x=.int i∧y=.int j∧Q (.int (i+j)) H
def rSub:V→V→Hp→VK→Prop:=fun x y H Q=>∃i j,x=.int i∧y=.int j∧Q (.int (i-j)) H
theorem Zfp:Zo4 X .Add Zqc:=by
 rintro pins s σ H x y u v Q I rx ry ⟨i,j,rfl,rfl,q⟩
 obtain⟨t,rfl⟩:=(show ∃t,u=Value.int i t from rx)
 obtain⟨t',rfl⟩:=(show ∃t',v=Value.int j t' from ry)
 exact PyProof.Rows.iadd_int ⟨.int (i+j),H,I.tok _,⟨_,rfl⟩,q⟩
end
section
variable {X:Cx} {pins:List (Addr×Obj)} {σ:St} {H:Hp} {s:Shared} {A:Around} {E:Value→Shared→Prop} {Q:Value→Shared→Prop} {c:Value} {b:Bool}
inductive ZdX (K:PySem.W.Frag) (H:Hp):V→Value→Prop where
 | non:ZdX K H .non (.type "NoneType")
 | bl (x:Bool):ZdX K H (.bl x) (.type "bool")
 | int (i:Int):ZdX K H (.int i) (.type "int")
 | str (x:Str):ZdX K H (.str x) (.type "str")
 | flt (x:UInt64):ZdX K H (.flt x) (.type "float")
 | lst {a:Addr} {xs:List V} (e:H a=some (.lst xs)):ZdX K H (.ref a) (.type "list")
 | frz {a:Addr} {o:Obj} {xs:List V} (e:H a=some (.frz o (.lst xs))):ZdX K H (.ref a) (.type "list")
 | tup {a:Addr} {xs:List V} (e:H a=some (.tup xs)):ZdX K H (.ref a) (.type "tuple")
 | dK {a:Addr} {kvs:List (Key×V)} (e:H a=some (.dK kvs)):ZdX K H (.ref a) (.type "dict")
 | dT {a:Addr} {kvs:List (List Key×V)} (e:H a=some (.dT kvs)):ZdX K H (.ref a) (.type "dict")
 | ins {a C dx:Addr} {fs:List (Str×V)} (e:H a=some (.ins C dx fs)) (cl:Cls K C) (ha:PySem.W.findIn K (.ref C) "__class__" = some (some (.builtin "object.__class__")))
   (hn:PySem.W.specialIn K (.builtin "object.__class__") "__get__" = some (some (.builtin "getset_descriptor.__get__"))) (htk:PySem.W.takesIn K (.builtin "object.__class__")=some true)
   (hm:PySem.W.mroIn K C (.type "object")=some true):ZdX K H (.ref a) (.ref C)
theorem ZjT{x:V}{u t:Value}(I:Inv X pins σ H s)(rx:Zy x u)(ty:ZdX X.K H x t)(e:PySem.W.kitOne X.K t c=some b)(h:∀tk,Q (.bool b) { s with toks:=tk }) :
  wpAny (model X.prog X.w) A (call (.builtin "isinstance") [u,c]) Q E s:=by
 cases ty with
 | non=>cases (show u=Value.none from rx);exact QO PySem.W.kitx_none I.kIn True.intro e (fun z=>nomatch z) h
 | bl y=>cases (show u=Value.bool y from rx);exact QO PySem.W.kitx_bool I.kIn True.intro e (fun z=>nomatch z) h
 | int i=>obtain⟨t,q⟩:=(show ∃t,u=Value.int i t from rx);cases q;exact QO PySem.W.kitx_int I.kIn True.intro e (fun z=>nomatch z) h
 | str y=>obtain⟨t,q⟩:=(show ∃t,u=Value.str y t from rx);cases q;exact QO PySem.W.kitx_str I.kIn True.intro e (fun z=>nomatch z) h
 | flt y=>obtain⟨t,q⟩:=(show ∃t,u=Value.float y t from rx);cases q;exact QO PySem.W.kitx_float I.kIn True.intro e (fun z=>nomatch z) h
 | @lst a xs ea =>
  cases (show u=Value.ref a from rx)
  obtain⟨_,_,n,_,h1⟩:=(show Zal X.prog X.w H s.heap a (.lst xs) from I.hok a _ ea)
  exact QO PySem.W.kitx_list I.kIn ⟨_,h1,rfl⟩ e (fun z=>nomatch z) h
 | @frz a ob xs ea =>
  cases (show u=Value.ref a from rx)
  obtain⟨_,_,_,n,_,h1⟩:=(show Zal X.prog X.w H s.heap a (.frz ob (.lst xs)) from I.hok a _ ea)
  exact QO PySem.W.kitx_list I.kIn ⟨_,h1,rfl⟩ e (fun z=>nomatch z) h
 | @tup a xs ea =>
  cases (show u=Value.ref a from rx)
  obtain⟨_,_,_,p⟩:=(show Zal X.prog X.w H s.heap a (.tup xs) from I.hok a _ ea)
  obtain⟨o,h1,h2,_⟩:=p
  exact QO PySem.W.kitx_tuple I.kIn ⟨o,h1,h2⟩ e (fun z=>nomatch z) h
 | @dK a kvs ea =>
  cases (show u=Value.ref a from rx)
  obtain⟨_,_,vs,_,p⟩:=(show Zal X.prog X.w H s.heap a (.dK kvs) from I.hok a _ ea)
  obtain⟨o,es,ep,h1,h2,_⟩:=p
  exact QO PySem.W.kitx_dict I.kIn ⟨o,h1,h2.1⟩ e (fun z=>nomatch z) h
 | @dT a kvs ea =>
  cases (show u=Value.ref a from rx)
  obtain⟨_,_,xs,_,o,es,ep,h1,h2,_⟩:=(show Zal X.prog X.w H s.heap a (.dT kvs) from I.hok a _ ea)
  exact QO PySem.W.kitx_dict I.kIn ⟨o,h1,h2.1⟩ e (fun z=>nomatch z) h
 | @ins a C dx fs ea cl ha hn htk hm =>
  cases (show u=Value.ref a from rx)
  obtain⟨mA,O,_⟩:=Ze2 I.hok ea
  obtain⟨od,J,_⟩:=O.look
  exact QO (PySem.W.kitx_own (cl.get _) cl.hd ha hn htk hm) I.kIn J e (fun z=>nomatch z) h
end
structure ZaF (k:Nat) (A:Around):Prop where
 hd:A.handled=none
 dp:A.depth+3*k+5<recursionLimit
 un:A.units+16*k+200<cLine
 gd:A.guards=some []
theorem ZaF.mono{j k:Nat}{A:Around}(r:ZaF k A)(h:j≤k):ZaF j A:=⟨r.hd,by have:=r.dp;omega,by have:=r.un;omega,r.gd⟩
theorem ZaF.deeper{k:Nat}{A:Around}(r:ZaF (k+1) A)(env:Env):ZaF k (A.deeper env) :=
 ⟨r.hd,by have:=r.dp;show A.depth+1+3*k+5<_;omega,by have:=r.un;show A.units+3+16*k+200<_;omega,r.gd⟩
theorem Zia{A:Around}{C:Addr}{us:List Value}{kw:List (Str×Value)}:(A.under (.builtin "type.__call__" ⟨.ref C::us,kw⟩)).depth=A.depth+1:=by
 first|rfl|simp[Around.under,Code.weight,Code.isCreation,Code.isGuard,Code.isCaller,Code.frames,Code.isFrame,guardIds]
theorem ZiN{A:Around}{C:Addr}{us:List Value}{kw:List (Str×Value)}:(A.under (.builtin "type.__call__" ⟨.ref C::us,kw⟩)).units=A.units+1:=by
 first|rfl|simp[Around.under,Code.cUnits,Code.frames,Code.isFrame]
theorem ZaF.make{k:Nat}{A:Around}(r:ZaF (k+1) A)(C:Addr)(us:List Value)(kw:List (Str×Value)):ZaF k (A.under (.builtin "type.__call__" ⟨.ref C::us,kw⟩)) :=
 ⟨r.hd,by have:=r.dp;rw[Zia];omega,by have:=r.un;rw[ZiN];omega,by rw[show (A.under (.builtin "type.__call__" ⟨.ref C::us,kw⟩)).guards=A.guards from by first|rfl|simp[Around.under,pushGuards,Code.guards,Code.isGuard,guardIds]];exact r.gd⟩
theorem ZaF.depth{k:Nat}{A:Around}(r:ZaF k A):A.depth<recursionLimit:=by have:=r.dp;omega
theorem ZaF.units{k:Nat}{A:Around}(r:ZaF k A):A.units+64<cLine:=by have:=r.un;omega
def ZnV:TA:=fun _ H Q=>Q [] H
def ZpO(ta:TE)(tr:TA):TA:=fun σ H Q=>ta σ H fun x H1=>tr σ H1 fun xs H2=>Q (x::xs) H2
section
variable {X:Cx} {e:Expr} {es:List Expr} {te:TE} {t:TA} {pos:Pos}
theorem Zg:PA X [] ZnV:=fun _ _ _ _ H Q I h=>Calls.spliced_nil ⟨[],H,I,.nil,h⟩
theorem Za(ha:PE X e te)(hr:PA X es t)(hs:starEach (e::es) X.env=(false,eval e X.env)::starEach es X.env:=by rfl):PA X (e::es) (ZpO te t):=by
 intro pos pins s σ H Q I h
 rw[hs]
 show wpAny _ _ (spliced ((false,eval e X.env)::backTo pos (starEach es X.env))) _ _ s
 refine Calls.spliced_cons (thn (ha pins s σ H _ I h) fun u s1 ⟨x,H1,I1,r1,q1⟩=>?_)
 exact thn (hr pos pins s1 σ H1 _ I1 q1) fun us s2 ⟨xs,H2,I2,r2,q2⟩=>⟨x::xs,H2,I2,.cons r1 r2,q2⟩
def ZqK(t:TA):TE:=fun σ H Q=>t σ H fun xs H1=>xs.length≤sizeLine∧∀p,H1 p=none→Q (.ref p) (upd H1 p (.tup xs))
def Zp9(t:TA):TE:=fun σ H Q=>t σ H fun xs H1=>xs.length≤sizeLine∧∀p,H1 p=none→Q (.ref p) (upd H1 p (.lst xs))
theorem Zbf{x1}(h:PA X es t):PE X (.Tuple es x1 pos) (ZqK t):=by
 intro pins s σ H Q I hq
 refine wpAny_Tuple_spliced (thn (h pos pins s σ H _ I hq) fun us s1 ⟨xs,H1,I1,r,z,q⟩=>⟨by rw[← r.length];exact z,?_⟩)
 have hf:H1 s1.heap.objs.size=none:=I1.hok.fresh (Qg _)
 refine⟨.ref s1.heap.objs.size,upd H1 s1.heap.objs.size (.tup xs),I1.laid (t':=s1.toks) (fun b u e=>Qd _ e) (Qg _) ?_,rfl,q _ hf⟩
 exact⟨z,us,r,⟨_,QA _ rfl,rfl,_,rfl⟩⟩
theorem ZbU(h:PA X es t):PE X (.List es pos) (Zp9 t):=by
 intro pins s σ H Q I hq
 refine wpAny_List_spliced (thn (h pos pins s σ H _ I hq) fun us s1 ⟨xs,H1,I1,r,z,q⟩=>⟨by rw[← r.length];exact z,?_⟩)
 have hf:H1 s1.heap.objs.size=none:=I1.hok.fresh (Qg _)
 refine⟨.ref s1.heap.objs.size,upd H1 s1.heap.objs.size (.lst xs),I1.laid (t':=s1.toks) (fun b u e=>Qd _ e) (Qg _) ?_,rfl,q _ hf⟩
 exact⟨z,us,0,r,QA _ rfl⟩
end
abbrev Sp:=List V→Hp→VK→XK→Prop
abbrev CXT:=List Env→Hp→Shared→XK→Value→Shared→Prop
structure Zip (P:Program) (w:World) (K:PySem.W.Frag) (mg:Str→Option Value) (base:Heap) (A:Around) (outer:List Env) (s:Shared) (H:Hp):Prop where
 frames:A.frames=some outer
 mod:Mod K mg base
 bs:∀b o,base.get? b=some o→s.heap.get? b=some o∧H b=none
 bsz:base.objs.size≤s.heap.objs.size
 funs:s.heap.FunFrames base outer
 frf:∀b∈frs outer,H b=none
 hok:HOk P w H s.heap
 bare:AllBare s.gens
def CE(outer:List Env)(P:Program)(w:World)(H:Hp)(s:Shared)(Q:VK)(u:Value)(s':Shared):Prop :=
 ∃v H',s'.os=s.os∧AllBare s'.gens∧Un (frs outer) [] H H' s.heap s'.heap∧HOk P w H' s'.heap∧Zy v u∧Q v H'
def CR(CX:CXT)(outer:List Env)(P:Program)(w:World)(H:Hp)(s:Shared)(Q:VK)(E:XK)(r:Result)(s':Shared):Prop :=
 match r with
 | .ok (.ret u)=>CE outer P w H s Q u s'
 | .ok _=>False
 | .error e=>CX outer H s E e s'
structure ZdB (P:Program) (w:World) (K:PySem.W.Frag) (mg:Str→Option Value) (base:Heap) (CX:CXT) (k:Nat) (f:Addr) (fd:FuncData) (ps:List Str) (sp:Sp):Prop where
 len:∀vs H Q E,sp vs H Q E→vs.length=ps.length
 run:∀ (A:Around) (outer:List Env) (s:Shared) (H:Hp) (args:Args) (us:List Value) (vs:List V) (Q:VK) (E:XK),ZaF k A→Zip P w K mg base A outer s H→BindsTo s fd args (ps.zip us)→ZB vs us→sp vs H Q E →
  codeAny (model P w) A (.call (.ref f) args) (CR CX outer P w H s Q E) s
theorem Zip.make{P:Program}{w:World}{K:PySem.W.Frag}{mg:Str→Option Value}{base:Heap}{A:Around}{outer:List Env}{s:Shared}{H:Hp}(e:Zip P w K mg base A outer s H)(C:Addr)(us:List Value)(kw:List (Str×Value)) :
  Zip P w K mg base (A.under (.builtin "type.__call__" ⟨.ref C::us,kw⟩)) outer s H:=⟨by first|exact e.frames|(simpa [Around.under,Code.envs,Code.isFrame,pushEnvs] using e.frames),e.mod,e.bs,e.bsz,e.funs,e.frf,e.hok,e.bare⟩
section
variable {X:Cx} {pins:List (Addr×Obj)} {σ:St} {H:Hp} {s s':Shared}
theorem Inv.env0(I:Inv X pins σ H s):Zip X.prog X.w X.K X.mg X.base X.A X.stack s H :=
 ⟨I.ok.frames,I.ok.mod,I.bs,QH I.ok.bsz I.sz,I.stack,I.stkFree,I.hok,I.bare⟩
theorem Inv.after{Q:VK}{u:Value}(I:Inv X pins σ H s)(h:CE X.stack X.prog X.w H s Q u s'):EP X pins σ Q u s':=by
 obtain⟨v,H',os,bare,un,hok,r,q⟩:=h
 obtain⟨hh,g,d,t,os'⟩:=s'
 obtain rfl:os'=s.os:=os
 exact⟨v,H',I.call (h':=hh) (g':=g) (d':=d) (t':=t) (ch:=[]) un hok bare (fun b z=>absurd z (by simp)),r,q⟩
end
def ZnE(sp:Sp)(dvs:List V)(E:XK)(t:TA):TE:=fun σ H Q=>t σ H fun vs H1=>sp (vs++dvs) H1 Q E
def Zi5(C:Addr)(m:Str)(sp:Sp)(dvs:List V)(E:XK)(ta:TE)(t:TA):TE:=fun σ H Q=>ta σ H fun x H1=>∃a dx fs,x=.ref a∧H1 a=some (.ins C dx fs)∧fs.lookup m=none ∧
 t σ H1 fun vs H2=>sp (x::(vs++dvs)) H2 Q E
def ZnH(C:Addr)(sp:Sp)(dvs:List V)(E:XK)(t:TA):TE:=fun σ H Q=>t σ H fun vs H1=>∀x dx,H1 x=none→H1 dx=none→dx≠x →
 sp (.ref x::(vs++dvs)) (upd (upd H1 dx (.own x)) x (.ins C dx [])) (fun v H2=>v=.non∧Q (.ref x) H2) E
def ZbW(K:PySem.W.Frag)(fd:FuncData)(ps:List Str)(ds:List Value):Prop :=
 ∀ (s:Shared) (us:List Value),K.In s.heap→(us++ds).length=ps.length→BindsTo s fd ⟨us,[]⟩ (ps.zip (us++ds))
theorem ZbW.all{K:PySem.W.Frag}{fd:FuncData}{ps:List Str}(h:∀us:List Value,us.length=ps.length→bindArgs fd ⟨us,[]⟩=pure (ps.zip us)):ZbW K fd ps []:=fun s us _ hl=>by
 rw[Q5]at hl ⊢
 exact .of_eq (h us hl)
def ZdK(CX:CXT)(X:Cx)(E:XK):Prop:=∀ (pins:List (Addr×Obj)) (σ:St) (H:Hp) (s:Shared) (e:Value) (s':Shared),Inv X pins σ H s→CX X.stack H s E e s'→X.xe e s'
section
variable {X:Cx} {CX:CXT} {k:Nat} {f C:Addr} {fd:FuncData} {ps:List Str} {sp:Sp} {dvs:List V} {ds:List Value} {E:XK} {x m:Str} {p pos apos:Pos} {e o:Expr} {es:List Expr} {ta:TE} {t:TA}
theorem Zii{pins:List (Addr×Obj)}{σ:St}{H:Hp}{s:Shared}{Q:VK}{us:List Value}{vs:List V}(F:ZdB X.prog X.w X.K X.mg X.base CX k f fd ps sp)(hr:ZaF k X.A)(hb:ZbW X.K fd ps ds)(hd:ZB dvs ds)(hx:ZdK CX X E)
  (I:Inv X pins σ H s) (r:ZB vs us) (h:sp (vs++dvs) H Q E):wpAny (model X.prog X.w) X.A (call (.ref f) us) (EP X pins σ Q) X.xe s:=by
 have r2:ZB (vs++dvs) (us++ds):=r.append hd
 have hl:(us++ds).length=ps.length:=by rw[← r2.length];exact F.len _ _ _ _ h
 refine wpAny_call (codeAny_mono (F.run X.A X.stack s H ⟨us,[]⟩ (us++ds) (vs++dvs) Q E hr I.env0 (hb s us I.kIn hl) r2 h) fun r s' hq=>?_)
 cases r with
 | error e=>exact hx pins σ H s e s' I hq
 | ok fl =>
  cases fl with
  | ret u=>exact I.after hq
  | next=>exact False.elim hq
  | brk=>exact False.elim hq
  | cont=>exact False.elim hq
theorem Znk(F:ZdB X.prog X.w X.K X.mg X.base CX k f fd ps sp)(hr:ZaF k X.A)(hg:Gl X x)(hm:X.mg x=some (.ref f))(hk:PySem.W.keepIn X.K (.ref f)=true)(hb:ZbW X.K fd ps ds)(hd:ZB dvs ds)(hx:ZdK CX X E)
  (ha:PA X (e::es) t) (hdb:(x == ("__debug__" : Str))=false:=by decide) (he:starEach (e::es) X.env=(false,eval e X.env)::starEach es X.env:=by rfl) (hpl:(backTo pos (starEach es X.env)).any (·.1)=false:=by rfl) :
  PE X (.Call (.Name x p) (e::es) [] pos) (ZnE sp dvs E t):=by
 intro pins s σ H Q I h
 refine wpAny_Call_Name_kw (ZgS I hg hm ?_ hdb)
 refine PySem.W.callWith_K (h₀:=X.base) I.ok.mod.kin hk (thn (ha pos pins s σ H _ I h) fun us s1 ⟨vs,H1,I1,r,q⟩=>⟨I1.kIn,?_⟩) he hpl
 exact Zii F hr hb hd hx I1 r q
theorem Zm3{pl:Sem Bool}(he:PE X o ta)(c:Cls X.K C)(hm:ZlE X.K C m f)(F:ZdB X.prog X.w X.K X.mg X.base CX k f fd ps sp)(hr:ZaF k X.A)(hb:ZbW X.K fd ps ds)(hd:ZB dvs ds)(hx:ZdK CX X E)(ha:PA X (e::es) t)
  (hst:starEach (e::es) X.env=(false,eval e X.env)::starEach es X.env:=by rfl) (hpl:(backTo pos (starEach es X.env)).any (·.1)=false:=by rfl)
  (ht:eval (.Call (.Attribute o m apos) (e::es) [] pos) X.env=(do
   let ov ← eval o X.env
   standAt apos.atName
   let (f,first) ← holding [ov] (getMethod ov m pl)
   callWith pos f first (backTo pos (starEach (e::es) X.env)) (backToKw pos (keywordEach [] X.env))):=by rfl) :
  PE X (.Call (.Attribute o m apos) (e::es) [] pos) (Zi5 C m sp dvs E ta t):=by
 intro pins s σ H Q I h
 refine PySem.W.methodCall_KW (pl:=pl) (thn (he pins s σ H _ I h) fun u s1 ⟨x,H1,I1,rx,a,dx,fs,ex,ea,l,q⟩=>?_) ht
 subst ex
 obtain rfl:u=Value.ref a:=rx
 refine ZfD I1 ea c hm l ?_
 refine PySem.W.callWith_K (first:=[.ref a]) (h₀:=X.base) I.ok.mod.kin hm.kp (thn (ha pos pins s1 σ H1 _ I1 q) fun us s2 ⟨vs,H2,I2,r,q2⟩=>⟨I2.kIn,?_⟩) hst hpl
 exact Zii (us:=.ref a::us) (vs:=.ref a::vs) F hr hb hd hx I2 (.cons rfl r) q2
theorem ZlW{pl:Sem Bool}(he:PE X o ta)(c:Cls X.K C)(hm:ZlE X.K C m f)(F:ZdB X.prog X.w X.K X.mg X.base CX k f fd ps sp)(hr:ZaF k X.A)(hb:ZbW X.K fd ps ds)(hd:ZB dvs ds)(hx:ZdK CX X E)
  (ht:eval (.Call (.Attribute o m apos) [] [] pos) X.env=(do
   let ov ← eval o X.env
   standAt apos.atName
   let (f,first) ← holding [ov] (getMethod ov m pl)
   callWith pos f first (backTo pos (starEach [] X.env)) (backToKw pos (keywordEach [] X.env))):=by rfl) :
  PE X (.Call (.Attribute o m apos) [] [] pos) (Zi5 C m sp dvs E ta ZnV):=by
 intro pins s σ H Q I h
 refine PySem.W.methodCall_KW (pl:=pl) (thn (he pins s σ H _ I h) fun u s1 ⟨x,H1,I1,rx,a,dx,fs,ex,ea,l,q⟩=>?_) ht
 subst ex
 obtain rfl:u=Value.ref a:=rx
 refine ZfD I1 ea c hm l ?_
 exact PySem.W.callWith_K0 (first:=[.ref a]) I1.kIn hm.kp (Zii (us:=[.ref a]) (vs:=[.ref a]) F hr hb hd hx I1 (.cons rfl .nil) q)
structure Mk (K:PySem.W.Frag) (C f:Addr):Prop where
 makes:PySem.W.makesIn K C=true
 init:PySem.W.findIn K (.ref C) "__init__" = some (some (.ref f))
 fn:PySem.W.isFn K (.ref f)=true
 kp:PySem.W.keepIn K (.ref C)=true
theorem ZlZ{pins:List (Addr×Obj)}{σ:St}{H:Hp}{s:Shared}{Q:VK}{us:List Value}{vs:List V}(M:Mk X.K C f)(F:ZdB X.prog X.w X.K X.mg X.base CX k f fd ps sp)(hr:ZaF (k+1) X.A)(hb:ZbW X.K fd ps ds)(hd:ZB dvs ds)
  (hx:ZdK CX X E) (I:Inv X pins σ H s) (r:ZB vs us)
  (h:∀x dx,H x=none→H dx=none→dx≠x→sp (.ref x::(vs++dvs)) (upd (upd H dx (.own x)) x (.ins C dx [])) (fun v H2=>v=.non∧Q (.ref x) H2) E) :
  wpAny (model X.prog X.w) X.A (call (.ref C) us) (EP X pins σ Q) X.xe s:=by
 have hq:=h (s.heap.objs.size+1) s.heap.objs.size (I.hok.fresh (Q8 _)) (I.hok.fresh (Qg _)) (Qz (Nat.lt_succ_self _))
 have I2:=Inv.made (C:=C) I
 have r2:ZB (V.ref (s.heap.objs.size+1)::(vs++dvs)) (Value.ref (s.heap.objs.size+1)::(us++ds)):=.cons rfl (r.append hd)
 have hl:(Value.ref (s.heap.objs.size+1)::us++ds).length=ps.length:=by
  have e:=r2.length
  rw[F.len _ _ _ _ hq]at e
  exact e.symm
 refine wpAny_call (ZkR (f:=f) I.kIn M.makes M.init (beq_iff_eq.mp M.fn) (codeAny_mono (F.run _ X.stack _ _ ⟨Value.ref (s.heap.objs.size+1)::us,[]⟩ (Value.ref (s.heap.objs.size+1)::(us++ds)) _ _ E (hr.make C us [])
  (I2.env0.make C us []) (hb _ (Value.ref (s.heap.objs.size+1)::us) I2.kIn hl) r2 hq) fun r s' hq'=>?_))
 cases r with
 | error e=>exact hx pins σ _ _ e s' I2 hq'
 | ok fl =>
  cases fl with
  | ret u =>
   obtain⟨v,H',I3,rv,ev,q3⟩:=I2.after hq'
   subst ev
   exact⟨rv,⟨V.ref (s.heap.objs.size+1),H',I3,rfl,q3⟩⟩
  | next=>exact False.elim hq'
  | brk=>exact False.elim hq'
  | cont=>exact False.elim hq'
theorem Zmk(M:Mk X.K C f)(F:ZdB X.prog X.w X.K X.mg X.base CX k f fd ps sp)(hr:ZaF (k+1) X.A)(hg:Gl X x)(hm:X.mg x=some (.ref C))(hb:ZbW X.K fd ps ds)(hd:ZB dvs ds)(hx:ZdK CX X E)
  (ha:PA X (e::es) t) (hdb:(x == ("__debug__" : Str))=false:=by decide) (he:starEach (e::es) X.env=(false,eval e X.env)::starEach es X.env:=by rfl) (hpl:(backTo pos (starEach es X.env)).any (·.1)=false:=by rfl) :
  PE X (.Call (.Name x p) (e::es) [] pos) (ZnH C sp dvs E t):=by
 intro pins s σ H Q I h
 refine wpAny_Call_Name_kw (ZgS I hg hm ?_ hdb)
 refine PySem.W.callWith_K (h₀:=X.base) I.ok.mod.kin M.kp (thn (ha pos pins s σ H _ I h) fun us s1 ⟨vs,H1,I1,r,q⟩=>⟨I1.kIn,?_⟩) he hpl
 exact ZlZ M F hr hb hd hx I1 r q
end
def PK(X:Cx)(kws:List Keyword)(t:TA):Prop :=
 ∀ (pos:Pos) (pins:List (Addr×Obj)) (s:Shared) (σ:St) (H:Hp) (Q:List V→Hp→Prop),Inv X pins σ H s→t σ H Q→wpAny (model X.prog X.w) X.A (evalAll ((backToKw pos (keywordEach kws X.env)).map (·.2))) (AP X pins σ Q) X.xe s
section
variable {X:Cx} {CX:CXT} {k:Nat} {f C:Addr} {fd:FuncData} {ps ks:List Str} {sp:Sp} {E:XK} {x m:Str} {p pos apos kpos:Pos} {e o:Expr} {es:List Expr} {kws:List Keyword} {te ta:TE} {t tk:TA} {nm:Option Str}
structure KBinds (K:PySem.W.Frag) (fd:FuncData) (ps ks:List Str) (g:List Value→List Value→List Value) (gV:List V→List V→List V):Prop where
 to:∀ (s:Shared) (us ws:List Value),K.In s.heap→(g us ws).length=ps.length→BindsTo s fd ⟨us,ks.zip ws⟩ (ps.zip (g us ws))
 rel:∀ {vs:List V} {us:List Value} {zs:List V} {ws:List Value},ZB vs us→ZB zs ws→ZB (gV vs zs) (g us ws)
def tCallK(sp:Sp)(gV:List V→List V→List V)(E:XK)(t tk:TA):TE:=fun σ H Q=>t σ H fun vs H1=>tk σ H1 fun zs H2=>sp (gV vs zs) H2 Q E
variable {g:List Value→List Value→List Value} {gV:List V→List V→List V}
end
structure Zs (N P:List Str) (sc:Scope):Prop where
 kind:sc.kind=.function
 co:sc.isCoroutine=false
 gen:sc.isGenerator=false
 nd:N.Nodup
 pre:N.take P.length=P
 par:∀x∈P,sc.names.lookup x=some .local∨sc.names.lookup x=some .cell
 nofree:∀y∈sc.names,y.2≠.free
theorem Zgn{kindOf:Str→Option NameKind}{x:Str}:∀ {binds:List (Str×Value)} {m:Str→Option Value},(∀v,(x,v) ∉ binds)→bindL kindOf binds m x=m x
 | [],_,_=>rfl
 | (n,v)::r,m,h=>by
  unfold bindL
  rw[Zgn fun w hw=>h w (Qm _ hw)]
  split
  ·have:x≠n:=by rintro rfl;exact h v QM
   simp[this]
  ·rfl
theorem Zf1{kindOf:Str→Option NameKind}{x:Str}:∀ {binds:List (Str×Value)} {m:Str→Option Value},(∀v,(x,v) ∉ binds)→bindC kindOf binds m x=m x
 | [],_,_=>rfl
 | (n,v)::r,m,h=>by
  unfold bindC
  rw[Zf1 fun w hw=>h w (Qm _ hw)]
  split
  ·rfl
  ·have:x≠n:=by rintro rfl;exact h v QM
   simp[this]
theorem Zgc{kindOf:Str→Option NameKind}{x:Str}{v:Value}:∀ {P:List Str} {vs:List Value} {i:Nat} {m:Str→Option Value},P.Nodup→P[i]? = some x→vs[i]? = some v→kindOf x=some .local →
  bindL kindOf (P.zip vs) m x=some v
 | [],_,_,_,_,h,_,_=>by simp at h
 | _::_,[],_,_,_,_,h,_=>by simp at h
 | p::P,w::vs,0,m,nd,h1,h2,hk=>by
  simp at h1 h2;subst h1;subst h2
  show bindL kindOf ((p,w)::P.zip vs) m p=_
  unfold bindL
  rw[Zgn fun v hv=>(QK.mp nd).1 (List.of_mem_zip hv).1,if_pos hk]
  simp
 | p::P,w::vs,i+1,m,nd,h1,h2,hk=>by
  show bindL kindOf ((p,w)::P.zip vs) m x=_
  unfold bindL
  exact Zgc (i:=i) (QK.mp nd).2 (by simpa using h1) (by simpa using h2) hk
theorem Zga{kindOf:Str→Option NameKind}{x:Str}{v:Value}:∀ {P:List Str} {vs:List Value} {i:Nat} {m:Str→Option Value},P.Nodup→P[i]? = some x→vs[i]? = some v→kindOf x≠some .local →
  bindC kindOf (P.zip vs) m x=some v
 | [],_,_,_,_,h,_,_=>by simp at h
 | _::_,[],_,_,_,_,h,_=>by simp at h
 | p::P,w::vs,0,m,nd,h1,h2,hk=>by
  simp at h1 h2;subst h1;subst h2
  show bindC kindOf ((p,w)::P.zip vs) m p=_
  unfold bindC
  rw[Zf1 fun v hv=>(QK.mp nd).1 (List.of_mem_zip hv).1,if_neg hk]
  simp
 | p::P,w::vs,i+1,m,nd,h1,h2,hk=>by
  show bindC kindOf ((p,w)::P.zip vs) m x=_
  unfold bindC
  exact Zga (i:=i) (QK.mp nd).2 (by simpa using h1) (by simpa using h2) hk
def Zc6(N:List Str)(vs:List V):St:=vs.map some++List.replicate (N.length-vs.length) none
def ZgV(CX:CXT)(P:Program)(w:World)(K:PySem.W.Frag)(mg:Str→Option Value)(base:Heap)(N:List Str)(qual:Str)(scope:Scope)(f:Addr)(cd:Value)(A:Around)(outer:List Env)(s:Shared)(H:Hp)(E:XK):Cx where
 prog:=P
 w:=w
 K:=K
 mg:=mg
 base:=base
 A:=A.deeper (envOfC qual scope s.heap.objs.size f cd)
 N:=N
 s₀:=s
 H₀:=H
 env:=envOfC qual scope s.heap.objs.size f cd
 outer:=outer
 stack:=envOfC qual scope s.heap.objs.size f cd::outer
 ex:=[]
 calm:=true
 fn:=fun _=>true
 pn:=[]
 xe:=fun e s'=>wpAny (model P w) (A.deeper (envOfC qual scope s.heap.objs.size f cd)) (leaving (envOfC qual scope s.heap.objs.size f cd) e) (fun _ s''=>CX outer H s E e s'') (fun e' s''=>CX outer H s E e' s'') s'
theorem ZhG{sc:Scope}{n:Nat}{x:Str}(h:sc.names.lookup x=some .cell):∃c,(cellsFrom n sc.names []).lookup x=some c:=by
 have q:=PySem.W.cellsFrom_some sc.names n [] (.inl h)
 exact Option.isSome_iff_exists.mp q
theorem Zj5{CX:CXT}{P:Program}{w:World}{K:PySem.W.Frag}{mg:Str→Option Value}{base:Heap}{N ps:List Str}{qual:Str}{scope:Scope}{f:Addr}{cd:Value}{A:Around}{outer:List Env}{s s1:Shared}{H:Hp}{E:XK}{us:List Value}{vs:List V}
  (S:Zs N ps scope) (hd:A.handled=none) (e0:Zip P w K mg base A outer s H) (hl:vs.length=ps.length) (r:ZB vs us)
  (x:InCallC s s.heap.objs.size (bindL (envOfC qual scope s.heap.objs.size f cd).kindOf (ps.zip us) fun _=>none) (cellsFrom (s.heap.objs.size+1) scope.names []) (bindC (envOfC qual scope s.heap.objs.size f cd).kindOf (ps.zip us) fun _=>none) s1) :
  Inv (ZgV CX P w K mg base N qual scope f cd A outer s H E) [] (Zc6 N vs) H s1:=by
 have hpl:ps.length≤N.length:=by have:=congrArg List.length S.pre;rw[Qy]at this;omega
 obtain⟨h1,tk,rfl,hk⟩:=x.done
 have noA:∀b:Addr,b ∉ (ZgV CX P w K mg base N qual scope f cd A outer s H E).ex:=fun b z=>absurd (show b∈([]:List Addr) from z) (by simp)
 refine⟨⟨e0.mod,S.kind,rfl,rfl,Qg _,fun y z c h1 h2=>?_,fun y hy=>?_,fun y c _ h=>?_,fun _=>hd,Around.frames_deeper e0.frames,.inr ⟨rfl,rfl⟩,fun b z=>absurd z (noA b),e0.bs,e0.bsz,fun b _ _=>noA b,fun b z=>absurd z (noA b),e0.funs,e0.frf⟩,
  rfl,e0.bare,Un.kept hk,⟨_,x.toInCall.ns,fun i y v h1 h2 h3=>?_⟩,fun y c h=>⟨_,x.cell y c h⟩,e0.hok.fresh (Qg _),fun y c h=>?_,fun p hp=>absurd (show p∈([]:List (Addr×Obj)) from hp) (by simp),e0.hok.kept hk,?_⟩
 ·exact name_of_addr x.apart (QY h1) (QY h2)
 ·have hy:scope.names.lookup y=some .cell∨scope.names.lookup y=some .free:=hy
  rcases hy with hy|hy
  ·exact ZhG hy
  ·exact absurd rfl (S.nofree _ (QY hy))
 ·exact Qat (x.above y c (QY h))
 ·have hi:i<vs.length:=by
   unfold Zc6 at h2
   by_cases hi:i<vs.length
   ·exact hi
   ·rw[QN (by simpa using hi)]at h2
    rw[List.getElem?_replicate]at h2
    split at h2<;>cases h2
  have ha:vs[i]? = some v:=by
   unfold Zc6 at h2
   rw[QP (by simpa using hi),Qv]at h2
   cases e:vs[i]? with
   | none=>rw[e]at h2;cases h2
   | some a=>rw[e]at h2;cases h2;rfl
  obtain⟨u,hu,rv⟩:=r.get ha
  have hp:ps[i]? = some y:=by
   rw[← S.pre,List.getElem?_take_of_lt (by omega)];exact h1
  have ndP:ps.Nodup:=by rw[← S.pre];exact S.nd.sublist (List.take_sublist _ _)
  refine⟨u,rv,?_⟩
  rcases S.par y (Qq hp) with k|k
  ·exact .inl ⟨k,Zgc ndP hp hu k⟩
  ·obtain⟨c,e⟩:=ZhG (n:=s.heap.objs.size+1) k
   refine .inr ⟨.inl k,c,e,?_⟩
   have q:=x.cell y c e
   rw[Zga ndP hp hu (by show scope.names.lookup y≠_;rw[k];decide)]at q
   exact q
 ·exact e0.hok.fresh (Qat (x.above y c (QY h)))
 ·unfold Zc6
  show _=N.length
  rw[Qs,Qa,List.length_replicate]
  omega
theorem Zpb{CX:CXT}{P:Program}{w:World}{K:PySem.W.Frag}{mg:Str→Option Value}{base:Heap}{k:Nat}{f:Addr}{name qual:Str}{params:Arguments}{body:List Stmt}{scope:Scope}{dV kV doc pm cdv ct oc:Value}{an od:Option Addr}
  {osl:Array (Option Value)} {N ps:List Str} {sp:Sp} (lk:K.lookup f=some ⟨oc,od,.func (PySem.W.fnOf name qual params body scope dV kV doc pm an cdv ct),osl⟩) (hcd:PySem.W.codeIn K cdv qual=true) (S:Zs N ps scope)
  (len:∀vs H Q E,sp vs H Q E→vs.length=ps.length)
  (hbody:∀ (A:Around) (outer:List Env) (s:Shared) (H:Hp) (vs:List V) (Q:VK) (E:XK),ZaF k (A.deeper (envOfC qual scope s.heap.objs.size f cdv))→sp vs H Q E →
   ∃t,PSs (ZgV CX P w K mg base N qual scope f cdv A outer s H E) body t∧t { nx:=fun _ H'=>Q .non H',rt:=Q } (Zc6 N vs) H) :
  ZdB P w K mg base CX (k+1) f (PySem.W.fnOf name qual params body scope dV kV doc pm an cdv ct) ps sp:=by
 refine⟨len,fun A outer s H args us vs Q E hr e0 hb r hsp=>?_⟩
 have hl:=len _ _ _ _ hsp
 have KX:K.In s.heap:=e0.mod.kin.keeps fun b o e=>(e0.bs b o e).1
 have lim:s.heap.NoLimit:=e0.mod.nolimit.keeps fun b o e=>(e0.bs b o e).1
 have hkind:∀y∈ps.zip us,scope.names.lookup y.1=some .local∨(scope.names.lookup y.1=some .cell∧((cellsFrom (s.heap.objs.size+1) scope.names []).lookup y.1).isSome=true):=fun ⟨n,v⟩ hy=>by
  rcases S.par n (List.of_mem_zip hy).1 with q|q
  ·exact .inl q
  ·exact .inr ⟨q,PySem.W.cellsFrom_some _ _ _ (.inl q)⟩
 refine codeAny_call_function hr.depth (KX _ _ lk) rfl S.co S.gen rfl (PySem.W.codeRec_of KX hcd) (hb _ _ _ _ ?_)
 refine wpAny_newFunctionEnv_cells S.kind hkind fun env he s1 x=>?_
 subst he
 refine⟨lim.keeps x.toInCall.keep,codeAny_func ?_⟩
 obtain⟨t,ht,hq⟩:=hbody A outer s H vs Q E (hr.deeper _) hsp
 have I:Inv (ZgV CX P w K mg base N qual scope f cdv A outer s H E) [] (Zc6 N vs) H s1:=Zj5 S hr.hd e0 hl r x
 refine wpAny_mono (ht [] s1 (Zc6 N vs) H _ I hq) (fun fl s' hs=>?_) fun e s' hs=>hs
 have fin:∀ {σ':St} {H':Hp} {v:V} {u:Value},Inv (ZgV CX P w K mg base N qual scope f cdv A outer s H E) [] σ' H' s'→Zy v u→Q v H'→CE outer P w H s Q u s' :=
  fun {σ' H' v u} J rv q=>⟨v,H',J.os,J.bare,J.base,J.hok,rv,q⟩
 cases fl with
 | ret u =>
  obtain⟨v,σ',H',J,rv,q⟩:=hs
  exact fin J rv q
 | next =>
  obtain⟨σ',H',J,q⟩:=hs
  exact fin (v:=V.non) (u:=Value.none) J rfl q
 | brk =>
  obtain⟨_,_,_,q⟩:=hs
  exact False.elim q
 | cont =>
  obtain⟨_,_,_,q⟩:=hs
  exact False.elim q
section
variable {X:Cx} {x:Str} {p pos:Pos} {e:Expr} {es:List Expr} {t:TA} {id T:String} {r:List V→Hp→VK→Prop}
def tCB(r:List V→Hp→VK→Prop)(t:TA):TE:=fun σ H Q=>t σ H fun vs H1=>r vs H1 Q
theorem Zu(hc:ZaM X (.builtin id) r)(hg:Gl X x)(hm:X.mg x=none)(hv:bootBuiltins x=some (.builtin id))(ha:PA X (e::es) t)(hn:x ≠ "__name__":=by decide)(hdb:(x == ("__debug__" : Str))=false:=by decide)
  (he:starEach (e::es) X.env=(false,eval e X.env)::starEach es X.env:=by rfl) (hpl:(backTo pos (starEach es X.env)).any (·.1)=false:=by rfl):PE X (.Call (.Name x p) (e::es) [] pos) (tCB r t):=by
 intro pins s σ H Q I h
 refine wpAny_Call_Name_kw (ZdT I hg hm hv ?_ hn hdb)
 exact PyProof.Rows.callWith_builtin1 (thn (ha pos pins s σ H _ I h) fun us s1 ⟨vs,H1,I1,r1,q1⟩=>hc pins s1 σ H1 vs us Q I1 r1 q1) he hpl
theorem ZcG(hc:ZaM X (.type T) r)(hg:Gl X x)(hm:X.mg x=none)(hv:bootBuiltins x=some (.type T))(ha:PA X (e::es) t)(hn:x ≠ "__name__":=by decide)(hdb:(x == ("__debug__" : Str))=false:=by decide)
  (he:starEach (e::es) X.env=(false,eval e X.env)::starEach es X.env:=by rfl) (hpl:(backTo pos (starEach es X.env)).any (·.1)=false:=by rfl):PE X (.Call (.Name x p) (e::es) [] pos) (tCB r t):=by
 intro pins s σ H Q I h
 refine wpAny_Call_Name_kw (ZdT I hg hm hv ?_ hn hdb)
 exact QZ (thn (ha pos pins s σ H _ I h) fun us s1 ⟨vs,H1,I1,r1,q1⟩=>hc pins s1 σ H1 vs us Q I1 r1 q1) he hpl
end
end L2
namespace HT
open PySem PyProof.Rows
def lexLt:List Int→List Int→Bool
 | [],[]=>false
 | [],_::_=>true
 | _::_,[]=>false
 | x::xs,y::ys=>if x=y then lexLt xs ys else decide (x<y)
theorem Zod(x y:Int)(xs ys:List Int):lexLt (x::xs) (y::ys)=if x=y then lexLt xs ys else decide (x<y):=rfl
theorem Zmd:lexLt [] []=false:=rfl
theorem ZkA(y:Int)(ys:List Int):lexLt [] (y::ys)=true:=rfl
theorem Zlw(x:Int)(xs:List Int):lexLt (x::xs) []=false:=rfl
section
open PySem.SeqAt
open PySem.AutoSeq1 (wpAny_loadPart')
open PySem.MeetsSeq PySem.MeetsSeq2 PySem.MeetsSeq3
end
section
variable {prog:Program} {w:World} {A:Around} {E:Value→Shared→Prop} {s:Shared}
def sIx(n d:Nat):Option Int→Nat
 | none=>d
 | some v=>if v<0 then (v+(n:Int)).toNat else min v.toNat n
theorem Zpt(n d:Nat):sIx n d none=d:=rfl
end
end HT
namespace L2
open PySem PySem.Spec PyProof.Rows
abbrev TO:=St→Hp→(Option Int→Hp→Prop)→Prop
def PO(X:Cx)(e:Option Expr)(t:TO):Prop :=
 ∀ (pins:List (Addr×Obj)) (s:Shared) (σ:St) (H:Hp) (Q:Option Int→Hp→Prop),Inv X pins σ H s→t σ H Q →
  wpAny (model X.prog X.w) X.A (evalPart e X.env) (fun u s'=>∃o H',Inv X pins σ H' s'∧IsPart u o∧Q o H') X.xe s
def Znx:TO:=fun _ H Q=>Q none H
def ZpT(t:TE):TO:=fun σ H Q=>t σ H fun x H1=>∃i,x=.int i∧Q (some i) H1
theorem ZiV{ns:List Int}:∀ {us:List Value},ZB (ns.map V.int) us→IntsAre us ns:=by
 induction ns with
 | nil=>intro us r;rw[List.map_nil]at r;cases r;exact .nil
 | cons n ns ih =>
  intro us r
  rw[Qe]at r
  cases r with
  | cons r1 r2 =>
   obtain⟨t,e⟩:=r1
   subst e
   exact .cons n t (ih r2)
section
variable {X:Cx} {e:Expr} {te:TE} {lo hi:Option Expr} {tl th:TO} {pos p2:Pos}
theorem ZjA:PO X none Znx:=by
 intro pins s σ H Q I h
 rw[evalPart_none]
 exact wpAny_pure ⟨none,H,I,.none,h⟩
theorem Zje(h:PE X e te):PO X (some e) (ZpT te):=by
 intro pins s σ H Q I hw
 rw[evalPart_some]
 refine thn (h pins s σ H _ I hw) fun u s1 ⟨x,H1,I1,r1,q1⟩=>?_
 obtain⟨i,rfl,q⟩:=q1
 obtain⟨t,rfl⟩:=r1
 exact⟨some i,H1,I1,.int i t,q⟩
def SlR(X:Cx)(r:V→Option Int→Option Int→Hp→VK→Prop):Prop :=
 ∀ (pins:List (Addr×Obj)) (s:Shared) (σ:St) (H:Hp) (x:V) (v vl vu:Value) (lo hi:Option Int) (sl:Addr) (Q:VK),Inv X pins σ H s→Zy x v→s.heap.IsSliceOf sl vl vu .none→IsPart vl lo→IsPart vu hi→r x lo hi H Q →
  ∃T id,typeLookup (.type T) "__getitem__" = pure (some (.builtin id))∧s.TypeIs v T∧wpAny (model X.prog X.w) X.A (getItem v (.ref sl)) (EP X pins σ Q) X.xe s
def tSl(r:V→Option Int→Option Int→Hp→VK→Prop)(te:TE)(tl th:TO):TE:=fun σ H Q=>te σ H fun x H1=>tl σ H1 fun l H2=>th σ H2 fun u H3=>r x l u H3 Q
theorem ZhC{r:V→Option Int→Option Int→Hp→VK→Prop}(hr:SlR X r)(he:PE X e te)(hl:PO X lo tl)(hu:PO X hi th):PE X (.Subscript e (.Slice lo hi none p2) pos) (tSl r te tl th):=by
 intro pins s σ H Q I h
 refine Subscript_ (thn (he pins s σ H _ I h) fun v s1 ⟨x,H1,I1,r1,q1⟩=>?_)
 refine wpAny_Slice (thn (hl pins s1 σ H1 _ I1 q1) fun vl s2 ⟨l,H2,I2,pl,q2⟩=>thn (hu pins s2 σ H2 _ I2 q2) fun vu s3 ⟨u,H3,I3,pu,q3⟩=>?_)
 rw[evalPart_none]
 refine wpAny_pure ?_
 have I4:Inv X pins σ H3 { s3 with heap:=s3.heap.push { cls:=.type "slice",data:=.fields #[vl,vu,.none] } }:=I3.kept (t':=s3.toks) fun b ob q=>Qd _ q
 obtain⟨T,id,hT,ht,hg⟩:=hr pins { s3 with heap:=s3.heap.push { cls:=.type "slice",data:=.fields #[vl,vu,.none] } } σ H3 x v vl vu l u s3.heap.objs.size Q I4 r1 (Heap.IsSliceOf.new ..) pl pu q3
 show wpAny (model X.prog X.w) X.A (subscriptTail e (.Slice lo hi none p2) v (.ref s3.heap.objs.size)) (EP X pins σ Q) X.xe { s3 with heap:=s3.heap.push { cls:=.type "slice",data:=.fields #[vl,vu,.none] } }
 exact tail_any (ops:=[.ref s3.heap.objs.size,v]) ht hT hg (by with_unfolding_all rfl)
def ZgH(xs:List V)(lo hi:Option Int):List V:=(xs.drop (HT.sIx xs.length 0 lo)).take (HT.sIx xs.length xs.length hi-HT.sIx xs.length 0 lo)
theorem ZhQ(xs:List V)(lo hi:Option Int):(ZgH xs lo hi).length≤xs.length:=by
 unfold ZgH
 rw[Qy,QU]
 omega
def rSlT(K:PySem.W.Frag):V→Option Int→Option Int→Hp→VK→Prop:=fun x lo hi H Q=>∃a xs,x=.ref a∧SqT K H a xs ∧
 ¬ (HT.sIx xs.length 0 lo=0∧HT.sIx xs.length xs.length hi=xs.length)∧∀p,H p=none→Q (.ref p) (upd H p (.tup (ZgH xs lo hi)))
def rLtT(K:PySem.W.Frag):R2:=fun x y H Q=>∃a b ns ms,x=.ref a∧y=.ref b∧SqT K H a (ns.map V.int)∧SqT K H b (ms.map V.int)∧Q (.bl (HT.lexLt ns ms)) H
def rCatT(K:PySem.W.Frag):R2:=fun x y H Q=>∃a b xs ys,x=.ref a∧y=.ref b∧SqT K H a xs∧SqT K H b ys∧xs≠[]∧xs.length+ys.length≤sizeLine ∧
 (ys=[]→Q (.ref a) H)∧(ys≠[]→∀p,H p=none→Q (.ref p) (upd H p (.tup (xs++ys))))
end
def ixN(n:Nat)(i:Int):Option Nat:=if 0≤i then (if i<n then some i.toNat else none) else if -(n:Int)≤i then some (i+n).toNat else none
def atI{α:Type}(xs:List α)(i:Int):Option α:=(ixN xs.length i).bind fun j=>xs[j]?
theorem Zjq{n:Nat}{i:Int}{j:Nat}(h:ixN n i=some j):seqIndex? i n=some j∧j<n ∧ -(n:Int)≤i∧i<n:=by
 unfold ixN at h
 by_cases h0:0≤i
 ·rw[if_pos h0]at h
  by_cases h1:i<n
  ·rw[if_pos h1]at h
   have e:i.toNat=j:=Qo h
   exact⟨by rw[seqIndex_of h0 h1,e],by omega,by omega,h1⟩
  ·rw[if_neg h1]at h;cases h
 ·rw[if_neg h0]at h
  by_cases h1:-(n:Int)≤i
  ·rw[if_pos h1]at h
   have e:(i+n).toNat=j:=Qo h
   exact⟨by rw[seqIndex_neg (by omega) h1,e],by omega,h1,by omega⟩
  ·rw[if_neg h1]at h;cases h
theorem Zg4{α:Type}{xs:List α}{i:Int}{v:α}(h:atI xs i=some v):∃j,seqIndex? i xs.length=some j∧xs[j]? = some v∧j<xs.length ∧ -(xs.length:Int)≤i∧i<xs.length:=by
 unfold atI at h
 cases e:ixN xs.length i with
 | none=>rw[e]at h;cases h
 | some j =>
  rw[e]at h
  obtain⟨h1,h2,h3,h4⟩:=Zjq e
  exact⟨j,h1,h,h2,h3,h4⟩
theorem Zay{α:Type}{xs:List α}{j:Nat}{v:α}(h:xs[j]? = some v):atI xs (j:Int)=some v:=by
 have hj:j<xs.length:=(Qc.mp h).1
 have e:ixN xs.length (j:Int)=some j:=by
  unfold ixN
  rw[if_pos (by omega),if_pos (by omega)];simp
 unfold atI;rw[e];exact h
theorem ZlK{α:Type}(xs:List α)(v:α):atI (xs++[v]) (-1)=some v:=by
 have hl:(xs++[v]).length=xs.length+1:=by simp
 have e:ixN (xs++[v]).length (-1)=some xs.length:=by
  unfold ixN
  rw[hl,if_neg (by decide),if_pos (by omega)]
  congr 1
  omega
 unfold atI
 rw[e]
 show (xs++[v])[xs.length]? = some v
 simp
def Zmt(b:Expr):Prop:=∀o i,subscripted b false o i=operate [o,i] (getItem o i)
def IxR(X:Cx)(r:R2):Prop :=
 ∀ (value slice:Expr) (pins:List (Addr×Obj)) (s:Shared) (σ:St) (H:Hp) (x y:V) (v u:Value) (Q:VK),Inv X pins σ H s→Zy x v→Zy y u→r x y H Q →
  subscripted slice false v u=operate [v,u] (getItem v u)→wpAny (model X.prog X.w) X.A (subscriptTail value slice v u) (EP X pins σ Q) X.xe s
def MtR(X:Cx)(id:String)(r:V→List V→Hp→VK→Prop):Prop :=
 ∀ (pins:List (Addr×Obj)) (s:Shared) (σ:St) (H:Hp) (x:V) (xs:List V) (v:Value) (us:List Value) (Q:VK),Inv X pins σ H s→Zy x v→ZB xs us→r x xs H Q →
  wpAny (model X.prog X.w) X.A (call (.builtin id) (v::us)) (EP X pins σ Q) X.xe s
section
variable {X:Cx} {a b:Expr} {ta tb:TE} {pos:Pos}
theorem ZF{r:R2}(hr:IxR X r)(ha:PE X a ta)(hb:PE X b tb)(hs:Zmt b):PE X (.Subscript a b pos) (tOp r ta tb):=by
 intro pins s σ H Q I h
 exact Subscript_ (Zok ha hb I h fun v u s2 x y H2 I2 rx ry q=>hr a b pins s2 σ H2 x y v u Q I2 rx ry q (hs _ _))
def Zo1(K:PySem.W.Frag):R2:=fun x y H Q=>∃p xs i v,x=.ref p∧y=.int i∧SqL K H p xs∧atI xs i=some v∧Q v H
def Zn4(K:PySem.W.Frag):R2:=fun x y H Q=>∃p xs i v,x=.ref p∧y=.int i∧SqT K H p xs∧atI xs i=some v∧Q v H
def ZpC:R2:=fun x y H Q=>∃z i c,x=.str z∧y=.int i∧z.length≤sizeLine∧atI z.cps.toList i=some c∧Q (.str ⟨#[c]⟩) H
theorem ZmZ:IxR X (Zo1 X.K):=by
 intro value slice pins s σ H x y v u Q I rx ry h hs
 obtain⟨p,xs,i,z,rfl,rfl,hq,he,q⟩:=h
 cases rx
 obtain⟨t,rfl⟩:=ry
 obtain⟨its,r,pl,hz⟩:=I.list hq
 obtain⟨j,h1,h2,h3,h4,h5⟩:=Zg4 he
 obtain⟨w,ew,rw'⟩:=r.get h2
 have hl:=r.length
 have hn:=Zeu
 have fin:EP X pins σ Q w s:=⟨z,H,I,rw',q⟩
 by_cases h0:0≤i
 ·have hj:i.toNat=j:=by
   rw[seqIndex_of h0 h5]at h1
   exact Qo h1
  exact item_listR pl.isList h0 (by omega) (by rw[hj];simpa using ew) fin hs
 ·have hj:(i+(its.toArray.size:Int)).toNat=j:=by
   rw[seqIndex_neg (by omega) h4]at h1
   rw[QD,← hl]
   exact Qo h1
  exact subscriptTail_builtinR (x:=w) pl.isList.typeIs slot_list_getitem.lookup
   (wpAny_getItem_list_neg (Q:=fun r s'=>r=w∧EP X pins σ Q r s') pl.isList (by omega) (by rw[QD]<;>omega) (by omega) (by rw[hj];simpa using ew) ⟨rfl,fin⟩) hs
theorem Zoy:IxR X (Zn4 X.K):=by
 intro value slice pins s σ H x y v u Q I rx ry h hs
 obtain⟨p,xs,i,z,rfl,rfl,hq,he,q⟩:=h
 cases rx
 obtain⟨t,rfl⟩:=ry
 obtain⟨its,r,pl,hz⟩:=I.tuple hq
 obtain⟨j,h1,h2,h3,h4,h5⟩:=Zg4 he
 obtain⟨w,ew,rw'⟩:=r.get h2
 have hl:=r.length
 have hn:=Zeu
 have fin:EP X pins σ Q w s:=⟨z,H,I,rw',q⟩
 exact subscriptTail_builtinR (x:=w) pl.typeIs slot_tuple_getitem.lookup
  (getItem_tuple (j:=j) (Q:=fun r s'=>r=w∧EP X pins σ Q r s') pl (by omega) (by omega) (by rw[QD,← hl];exact h1) (by simpa using ew) ⟨rfl,fin⟩) hs
theorem Zfy:IxR X ZpC:=by
 intro value slice pins s σ H x y v u Q I rx ry h hs
 obtain⟨z,i,c,rfl,rfl,hz,he,q⟩:=h
 obtain⟨t,rfl⟩:=rx
 obtain⟨t',rfl⟩:=ry
 obtain⟨j,h1,h2,h3,h4,h5⟩:=Zg4 he
 have hl:z.cps.toList.length=z.length:=by simp[Str.length]
 rw[hl]at h1 h4 h5
 have hn:=Zeu
 exact tail_any (typeIs_str s z t) slot_str_getitem.lookup (getItem_str (c:=c) (by
  have e1:decide (i < -(2 ^ 63:Int))=false:=decide_eq_false (by omega)
  have e2:decide (i≥2 ^ 63)=false:=decide_eq_false (by omega)
  rw[e1,e2,Bool.or_false]) (by rw[h1];simpa using h2) ⟨.str ⟨#[c]⟩,H,I.tok _,⟨_,rfl⟩,q⟩) hs
def rIx(K:PySem.W.Frag):R2:=fun x y H Q=>Zo1 K x y H Q∨Zn4 K x y H Q∨ZpC x y H Q
theorem ZiG(its:List Value)(n j:Nat)(u:Value):Obj.mapSeq (·.setIfInBounds j u) { cls:=.type "list",data:=.seq its.toArray n }={ cls:=.type "list",data:=.seq (its.set j u).toArray n }:=by
 simp[Obj.mapSeq]
theorem Inv.lst{pins:List (Addr×Obj)}{σ:St}{H:Hp}{s:Shared}{p:Addr}{xs:List V}(I:Inv X pins σ H s)(h:H p=some (.lst xs)) :
  ∃ (its:List Value) (n:Nat),ZB xs its∧s.heap.get? p=some { cls:=.type "list",data:=.seq its.toArray n }∧xs.length≤sizeLine:=by
 obtain⟨z,its,n,r,e⟩:=I.hok p _ h
 exact⟨its,n,r,e,z⟩
theorem Inv.lstUpd{pins:List (Addr×Obj)}{σ:St}{H:Hp}{s:Shared}{p:Addr}{xs ys:List V}{its its':List Value}{n n':Nat}{f:Obj→Obj}(I:Inv X pins σ H s)(h:H p=some (.lst xs))
  (ho:s.heap.get? p=some { cls:=.type "list",data:=.seq its.toArray n }) (hf:f { cls:=.type "list",data:=.seq its.toArray n }={ cls:=.type "list",data:=.seq its'.toArray n' }) (r:ZB ys its') (hz:ys.length≤sizeLine) (t:Nat) :
  Inv X pins σ (upd H p (.lst ys)) { s with heap:=s.heap.update p f,toks:=t }:=by
 have e:(s.heap.update p f).get? p=some { cls:=.type "list",data:=.seq its'.toArray n' }:=by
  rw[Heap.get?_update_self f ho (by rw[hf]<;>rfl),hf]
 refine I.write (x:=p) (e:=p) (by rw[h];trivial) (.inl rfl) (fun b u hb q=>(Heap.get?_update_other _ _ (Ne.symm hb)).trans q) ⟨_,e⟩ ?_
 exact⟨hz,its',n',r,e⟩
def Zpd:V→V→V→Hp→(Hp→Prop)→Prop:=fun o i v H Q=>∃p xs k j,o=.ref p∧i=.int k∧H p=some (.lst xs)∧ixN xs.length k=some j∧Q (upd H p (.lst (xs.set j v)))
theorem Zht:Zof X Zpd:=by
 intro pins s σ H o i v ov iv u Q I ro ri rv h
 obtain⟨p,xs,k,j,rfl,rfl,hp,hj,q⟩:=h
 cases ro
 obtain⟨t,rfl⟩:=ri
 obtain⟨its,n,r,ho,hz⟩:=I.lst hp
 obtain⟨h1,h2,h3,h4⟩:=Zjq hj
 have hl:=r.length
 have hn:=Zeu
 have I':Inv X pins σ (upd H p (.lst (xs.set j v))) { s with heap:=s.heap.update p (Obj.mapSeq (·.setIfInBounds j u)) } :=
  I.lstUpd hp ho (ZiG its n j u) (r.set rv j) (by rw[List.length_set];exact hz) s.toks
 by_cases h0:0≤k
 ·have hk:k.toNat=j:=by
   rw[seqIndex_of h0 h4]at h1
   exact Qo h1
  exact PySem.W.ki_setAt ho h0 (by omega) (by rw[QD,← hl];exact h4) (by rw[hk];exact⟨_,I',q⟩)
 ·have hk:(k+(its.toArray.size:Int)).toNat=j:=by
   rw[seqIndex_neg (by omega) h3]at h1
   rw[QD,← hl]
   exact Qo h1
  exact PySem.W.ki_setBack ho (by omega) (by rw[QD,← hl];exact h3) (by omega) (by rw[hk];exact⟨_,I',q⟩)
theorem ZgF(lo hi:Option Int)(n:Nat):(sliceBounds lo hi none n).1=((HT.sIx n 0 lo:Nat):Int)∧(sliceBounds lo hi none n).2.1=((HT.sIx n n hi:Nat):Int)∧(sliceBounds lo hi none n).2.2=1:=by
 refine⟨?_,?_,rfl⟩
 ·cases lo with
  | none=>simp[sliceBounds,HT.sIx]
  | some i =>
   simp only[sliceBounds,HT.sIx,Option.getD_none,show (1:Int)>0 by decide,if_true]
   by_cases h:i<0
   ·simp only[h,if_true]<;>omega
   ·simp only[h,if_false]<;>omega
 ·cases hi with
  | none=>simp[sliceBounds,HT.sIx]
  | some i =>
   simp only[sliceBounds,HT.sIx,Option.getD_none,show (1:Int)>0 by decide,if_true]
   by_cases h:i<0
   ·simp only[h,if_true]<;>omega
   ·simp only[h,if_false]<;>omega
theorem ZfZ(its:List Value)(lo hi:Option Int):slicePick its.toArray lo hi none=((its.drop (HT.sIx its.length 0 lo)).take (HT.sIx its.length its.length hi-HT.sIx its.length 0 lo)).toArray:=by
 obtain⟨h1,h2,h3⟩:=ZgF lo hi its.toArray.size
 unfold slicePick
 rw[h1,h2,h3]
 simp only[sliceRange_one,pick_run,List.size_toArray]<;>rfl
def Zo5(K:PySem.W.Frag):V→Option Int→Option Int→Hp→VK→Prop:=fun x lo hi H Q=>∃a xs,x=.ref a∧SqL K H a xs∧∀p,H p=none→Q (.ref p) (upd H p (.lst (ZgH xs lo hi)))
theorem Znc:SlR X (Zo5 X.K):=by
 intro pins s σ H x v vl vu lo hi sl Q I rx hs pl pu h
 obtain⟨a,xs,rfl,hx,q⟩:=h
 cases rx
 obtain⟨its,r,ht,hz⟩:=I.list hx
 have hlen:=r.length
 refine⟨"list",_,slot_list_getitem.lookup,ht.isList.typeIs,?_⟩
 refine wpAny_getItem_list_slice ht.isList hs pl pu .none (by simp) ?_ (by rw[QD]<;>omega)
 rw[ZfZ,← hlen]
 refine⟨.ref s.heap.objs.size,_,I.laid (t':=s.toks) (o:=.lst (ZgH xs lo hi)) (fun b ob q=>Qd _ q) (Qg _) ?_,rfl,q _ (I.hok.fresh (Qg _))⟩
 exact⟨QH (ZhQ xs lo hi) hz,_,0,(r.drop (HT.sIx xs.length 0 lo)).take (HT.sIx xs.length xs.length hi-HT.sIx xs.length 0 lo),QA _ rfl⟩
def Zd3:V→Bool
 | .non=>true
 | .bl _=>true
 | .int _=>true
 | .str _=>true
 | _=>false
def eqV:V→V→Bool
 | .non,.non=>true
 | .bl a,.bl b=>a == b
 | .bl a,.int b=>(if a then 1 else 0) == b
 | .int a,.bl b=>a == (if b then 1 else 0)
 | .int a,.int b=>a == b
 | .str a,.str b=>a == b
 | _,_=>false
theorem ZnS{A:Around}{s:Shared}{y x:V}{u v:Value}(ry:Zy y u)(rx:Zy x v)(fy:Zd3 y=true)(fx:Zd3 x=true):SeqAt.EqAt A s u v (eqV y x):=by
 cases y with
 | non =>
  cases ry
  cases x with
  | non=>cases rx;exact SeqAt.EqAt.same _
  | bl b=>cases rx;exact SeqAt.EqAt.none_bool b
  | int b=>obtain⟨t,rfl⟩:=rx;exact SeqAt.EqAt.none_int b t
  | str b=>obtain⟨t,rfl⟩:=rx;exact SeqAt.EqAt.none_str b t
  | _=>exact absurd (show false=true from fx) Qi
 | bl a =>
  cases ry
  cases x with
  | non=>cases rx;exact SeqAt.EqAt.bool_none a
  | bl b=>cases rx;exact SeqAt.EqAt.bool_bool a b
  | int b=>obtain⟨t,rfl⟩:=rx;exact SeqAt.EqAt.bool_int a b t
  | str b=>obtain⟨t,rfl⟩:=rx;exact SeqAt.EqAt.bool_str a b t
  | _=>exact absurd (show false=true from fx) Qi
 | int a =>
  obtain⟨t',rfl⟩:=ry
  cases x with
  | non=>cases rx;exact SeqAt.EqAt.int_none a t'
  | bl b=>cases rx;exact SeqAt.EqAt.int_bool a t' b
  | int b=>obtain⟨t,rfl⟩:=rx;exact SeqAt.EqAt.int_int a t' b t
  | str b=>obtain⟨t,rfl⟩:=rx;exact SeqAt.EqAt.int_str a t' b t
  | _=>exact absurd (show false=true from fx) Qi
 | str a =>
  obtain⟨t',rfl⟩:=ry
  cases x with
  | non=>cases rx;exact SeqAt.EqAt.str_none a t'
  | bl b=>cases rx;exact SeqAt.EqAt.str_bool a t' b
  | int b=>obtain⟨t,rfl⟩:=rx;exact SeqAt.EqAt.str_int a t' b t
  | str b=>obtain⟨t,rfl⟩:=rx;exact SeqAt.EqAt.str_str a t' b t
  | _=>exact absurd (show false=true from fx) Qi
 | _=>exact absurd (show false=true from fy) Qi
def eqU(x:V)(u:Value):Bool:=match u with
 | .none=>eqV .non x
 | .bool b=>eqV (.bl b) x
 | .int i _=>eqV (.int i) x
 | .str z _=>eqV (.str z) x
 | _=>false
theorem Zle{x y:V}{u:Value}(r:Zy y u)(f:Zd3 y=true):eqU x u=eqV y x:=by
 cases y with
 | non=>cases r;rfl
 | bl b=>cases r;rfl
 | int i=>obtain⟨t,rfl⟩:=r;rfl
 | str z=>obtain⟨t,rfl⟩:=r;rfl
 | _=>exact absurd (show false=true from f) Qi
theorem Zg1{x:V}:∀ {xs:List V} {us:List Value},ZB xs us→xs.all Zd3=true→us.any (eqU x)=xs.any fun y=>eqV y x
 | _,_,.nil,_=>rfl
 | y::xs,u::us,.cons r t,f=>by
  rw[List.all_cons,Q2]at f
  rw[Qak,Qak,Zle r f.1,Zg1 t f.2]
theorem Zfo{A:Around}{s:Shared}{x:V}{v:Value}(rx:Zy x v)(fx:Zd3 x=true):∀ {xs:List V} {us:List Value},ZB xs us→xs.all Zd3=true→∀u∈us,SeqAt.EqAt A s u v (eqU x u)
 | _,_,.nil,_=>fun u hu=>by cases hu
 | y::xs,u::us,.cons r t,f=>fun u' hu=>by
  rw[List.all_cons,Q2]at f
  rcases QG.mp hu with rfl|hu
  ·rw[Zle r f.1];exact ZnS r rx f.1 fx
  ·exact Zfo rx fx t f.2 u' hu
def inV(x:V)(xs:List V):Bool:=xs.any fun y=>eqV y x
def rIn(K:PySem.W.Frag)(neg:Bool):R2:=fun x y H Q=>∃p xs,y=.ref p∧(SqL K H p xs∨SqT K H p xs)∧Zd3 x=true∧xs.all Zd3=true∧Q (.bl (if neg then !inV x xs else inV x xs)) H
theorem Zke:OpR X (compareOp .In) (rIn X.K false):=by
 intro pins s σ H x y v u Q I rx ry h
 obtain⟨p,xs,rfl,hq,fx,fs,q⟩:=h
 cases ry
 rcases hq with hq|hq
 ·obtain⟨its,r,pl,hz⟩:=I.list hq
  refine SeqAt.in_listAt (eqU x) pl.isList (fun w hw=>Zfo rx fx r fs w (by simpa using hw)) ⟨.bl _,H,I,rfl,?_⟩
  rw[show its.toArray.any (eqU x)=its.any (eqU x) by simp,Zg1 r fs]
  exact q
 ·obtain⟨its,r,pl,hz⟩:=I.tuple hq
  refine SeqAt.in_tupleAt (eqU x) pl (fun w hw=>Zfo rx fx r fs w (by simpa using hw)) ⟨.bl _,H,I,rfl,?_⟩
  rw[show its.toArray.any (eqU x)=its.any (eqU x) by simp,Zg1 r fs]
  exact q
theorem ZgL:ZaM X (.builtin "len") (fun xs H Q=>∃p ys,xs=[.ref p]∧(SqL X.K H p ys∨SqT X.K H p ys)∧Q (.int ys.length) H):=by
 intro pins s σ H xs us Q I r h
 obtain⟨p,ys,rfl,hq,q⟩:=h
 obtain⟨u,rfl,rx⟩:=Zce r
 cases rx
 have hn:=Zeu
 rcases hq with hq|hq
 ·obtain⟨its,r',pl,hz⟩:=I.list hq
  have hlen:=r'.length
  exact Calls.call_len_list pl.isList (by simp only[List.size_toArray]<;>omega) ⟨.int ys.length,H,I.tok _,⟨s.toks+1,by rw[QD,hlen]⟩,q⟩
 ·obtain⟨its,r',pl,hz⟩:=I.tuple hq
  have hlen:=r'.length
  exact len_tuple pl (by simp only[List.size_toArray]<;>omega) ⟨.int ys.length,H,I.tok _,⟨s.toks+1,by rw[QD,hlen]⟩,q⟩
theorem ZaK:ZaM X (.builtin "len") (fun xs H Q=>∃z,xs=[.str z]∧z.length≤sizeLine∧Q (.int z.length) H):=by
 intro pins s σ H xs us Q I r h
 obtain⟨z,rfl,hz,q⟩:=h
 obtain⟨u,rfl,t,rfl⟩:=Zce r
 have hn:=Zeu
 exact len_str (by omega) ⟨.int z.length,H,I.tok _,⟨_,rfl⟩,q⟩
theorem ZgA:ZaM X (.type "list") (fun xs H Q=>∃p ys,xs=[.ref p]∧(SqL X.K H p ys∨SqT X.K H p ys)∧∀l,H l=none→Q (.ref l) (upd H l (.lst ys))):=by
 intro pins s σ H xs us Q I r h
 obtain⟨p,ys,rfl,hq,q⟩:=h
 obtain⟨u,rfl,rx⟩:=Zce r
 cases rx
 have fin:∀ (its:List Value),ZB ys its→ys.length≤sizeLine→∀ (h':Heap) (c':Nat),(∀b o',s.heap.get? b=some o'→h'.get? b=some o') →
   h'.get? s.heap.objs.size=some { cls:=.type "list",dict:=none,data:=.seq its.toArray c',slots:=#[] }→EP X pins σ Q (.ref s.heap.objs.size) { s with heap:=h' }:=fun its r' hz h' c' kp e =>
  ⟨.ref s.heap.objs.size,_,I.laid (t':=s.toks) kp (Qg _) (show Zal X.prog X.w _ h' _ (.lst ys) from⟨hz,its,c',r',e⟩),rfl,q _ (I.hok.fresh (Qg _))⟩
 rcases hq with hq|hq
 ·obtain⟨its,r',pl,hz⟩:=I.list hq
  have hlen:=r'.length
  obtain⟨o,ho,hc,n,hd⟩:=pl.isList
  exact call_list_seq p (.inl rfl) ho hc hd (fun h' c' kp e=>fin its r' hz h' c' kp e) (by simp only[List.size_toArray]<;>omega)
 ·obtain⟨its,r',pl,hz⟩:=I.tuple hq
  have hlen:=r'.length
  obtain⟨o,ho,hc,n,hd⟩:=pl
  exact call_list_seq p (.inr rfl) ho hc hd (fun h' c' kp e=>fin its r' hz h' c' kp e) (by simp only[List.size_toArray]<;>omega)
def tyV(K:PySem.W.Frag)(T:String)(x:V)(H:Hp):Prop:=match x with
 | .str _=>T = "str"
 | .int _=>T = "int"
 | .ref p=>(T = "list"∧∃xs,SqL K H p xs)∨(T = "tuple"∧∃o,K.lookup p=some o∧o.cls=.type "tuple"∧o.dict=none) ∨
   (T = "dict"∧((∃kvs,H p=some (.dK kvs))∨∃kvs,H p=some (.dT kvs)))∨(T = "set"∧∃S n,H p=some (.set S n))
 | _=>False
theorem Zk0{pins:List (Addr×Obj)}{σ:St}{H:Hp}{s:Shared}{T:String}{x:V}{v:Value}(I:Inv X pins σ H s)(r:Zy x v)(ty:tyV X.K T x H) :
  s.TypeIs v T∧∀a,v=.ref a→∃ob,s.heap.get? a=some ob∧ob.dict=none:=by
 cases x with
 | str z =>
  obtain⟨t,rfl⟩:=r
  cases (show T = "str" from ty)
  exact⟨typeIs_str s z t,fun _ e=>nomatch e⟩
 | int i =>
  obtain⟨t,rfl⟩:=r
  cases (show T = "int" from ty)
  exact⟨typeIs_int s i t,fun _ e=>nomatch e⟩
 | ref p =>
  cases r
  rcases ty with⟨rfl,xs,hq⟩|⟨rfl,o,hk,hc,hd⟩|⟨rfl,hk⟩|⟨rfl,S,n,hk⟩
  ·obtain⟨its,_,pl,_⟩:=I.list hq
   refine⟨pl.isList.typeIs,fun a e=>?_⟩
   cases e
   obtain⟨o,n,e,c,hd,_⟩:=pl
   exact⟨o,e,hd⟩
  ·refine⟨⟨o,I.kIn p o hk,hc⟩,fun a e=>?_⟩
   cases e
   exact⟨o,I.kIn _ o hk,hd⟩
  ·have z:∃o,s.heap.get? p=some o∧o.ExactDict:=by
    rcases hk with⟨kvs,hk⟩|⟨kvs,hk⟩
    ·obtain⟨_,_,_,_,o,_,_,e,ex,_⟩:=I.hok p _ hk
     exact⟨o,e,ex⟩
    ·obtain⟨_,_,_,_,o,_,_,e,ex,_⟩:=I.hok p _ hk
     exact⟨o,e,ex⟩
   obtain⟨o,e,ex⟩:=z
   refine⟨⟨o,e,ex.1⟩,fun a e2=>?_⟩
   cases e2
   exact⟨o,e,ex.2.1⟩
  ·obtain⟨o,_,_,_,e,ex,_⟩:=I.hok p _ hk
   refine⟨⟨o,e,ex.1⟩,fun a e2=>?_⟩
   cases e2
   exact⟨o,e,ex.2.1⟩
 | _=>exact False.elim ty
def Zqj(K:PySem.W.Frag)(T:String)(r:V→List V→Hp→VK→Prop)(to:TE):TE:=fun σ H Q=>to σ H fun x H1=>tyV K T x H1∧r x [] H1 Q
def tBM(K:PySem.W.Frag)(T:String)(r:V→List V→Hp→VK→Prop)(to:TE)(t:TA):TE:=fun σ H Q=>to σ H fun x H1=>tyV K T x H1∧t σ H1 fun xs H2=>r x xs H2 Q
variable {o e:Expr} {es:List Expr} {to:TE} {t:TA} {name:Str} {apos cpos:Pos} {T id:String} {r:V→List V→Hp→VK→Prop}
theorem Zn7(pa:PlainAttrs T)(slot:Slot T name id)(hty:typeOf (.builtin id)=pure (.type "method_descriptor"))(hm:MtR X id r)(ho:PE X o to)
  (hbase:attributeBase o name X.env (eval o X.env)=eval o X.env:=by rfl) (hline:(apos.endLine == cpos.line)=true:=by rfl):PE X (.Call (.Attribute o name apos) [] [] cpos) (Zqj X.K T r to):=by
 intro pins s σ H Q I h
 refine wpAny_Call_method0_late hbase hline (thn (ho pins s σ H _ I h) fun v s1 ⟨x,H1,I1,r1,ty,q1⟩=>?_)
 obtain⟨h1,h2⟩:=Zk0 I1 r1 ty
 exact⟨T,id,pa,slot,hty,h1,h2,Calls.callWith_builtin rfl (PySem.evalArgs_none (hm pins s1 σ H1 x [] v [] Q I1 r1 .nil q1))⟩
theorem ZeS(pa:PlainAttrs T)(slot:Slot T name id)(hty:typeOf (.builtin id)=pure (.type "method_descriptor"))(hm:MtR X id r)(ho:PE X o to)(ha:PA X (e::es) t)
  (hbase:attributeBase o name X.env (eval o X.env)=eval o X.env:=by rfl)
  (hfew:((backTo cpos (starEach (e::es) X.env)).all (fun x=>!x.1)&&(backToKw cpos (keywordEach [] X.env)).all (fun x=>x.1.isSome)
   && decide ((e::es).length+([]:List Keyword).length+(if ([]:List Keyword).isEmpty then 0 else 1)<30))=true:=by rfl)
  (hline:(apos.endLine == cpos.line)=true:=by rfl) (hs:starEach (e::es) X.env=(false,eval e X.env)::starEach es X.env:=by rfl) (hplain:(backTo cpos (starEach es X.env)).any (·.1)=false:=by rfl) :
  PE X (.Call (.Attribute o name apos) (e::es) [] cpos) (tBM X.K T r to t):=by
 intro pins s σ H Q I h
 refine wpAny_Call_method_late hbase hfew hline rfl (thn (ho pins s σ H _ I h) fun v s1 ⟨x,H1,I1,r1,ty,q1⟩=>?_)
 obtain⟨h1,h2⟩:=Zk0 I1 r1 ty
 refine⟨T,id,pa,slot,hty,h1,h2,?_⟩
 have hA:=ha cpos pins s1 σ H1 _ I1 q1
 rw[hs]at hA ⊢
 refine Calls.callWith_builtin (by show (false||(backTo cpos (starEach es X.env)).any (·.1))=false;rw[hplain]<;>rfl) (Calls.evalArgs_plain ?_)
 exact thn hA fun us s2 ⟨vs,H2,I2,r2,q2⟩=>hm pins s2 σ H2 x vs v us Q I2 r1 r2 q2
end
def MtM(X:Cx)(id:String)(r:V→List V→Hp→VK→Prop):Prop :=
 ∀ (pins:List (Addr×Obj)) (s:Shared) (σ:St) (H:Hp) (x:V) (xs:List V) (v:Value) (us:List Value) (Q:VK),Inv X pins σ H s→Zy x v→ZB xs us→r x xs H Q →
  wpAny (model X.prog X.w) X.A (call (.builtin id) (v::us)) (EP X pins σ Q) X.xe s
theorem ZB.one:∀ {x:V} {us:List Value},ZB [x] us→∃u,us=[u]∧Zy x u
 | _,_,.cons r .nil=>⟨_,rfl,r⟩
theorem ZB.zero:∀ {us:List Value},ZB [] us→us=[]
 | _,.nil=>rfl
theorem ZB.reverse{xs:List V}{us:List Value}(h:ZB xs us):ZB xs.reverse us.reverse:=by
 induction h with
 | nil=>exact .nil
 | cons r t ih=>rw[Qad,Qad];exact ZB.append ih (.cons r .nil)
section
variable {X:Cx} {pins:List (Addr×Obj)} {σ:St} {H:Hp} {s:Shared} {l b:Addr} {xs ys zs:List V}
theorem Inv.lset{its its':List Value}{n:Nat}{f:Array Value→Array Value}{t':Nat}(I:Inv X pins σ H s)(hH:H l=some (.lst xs))
  (e:s.heap.get? l=some { cls:=.type "list",data:=.seq its.toArray n }) (hf:f its.toArray=its'.toArray) (hv:ZB ys its') (hz:ys.length≤sizeLine) :
  Inv X pins σ (upd H l (.lst ys)) { s with heap:=s.heap.update l (Obj.mapSeq f),toks:=t' }:=by
 have q:=PySem.IsL.update e f
 rw[hf]at q
 refine I.write (x:=l) (e:=l) (by rw[hH];exact trivial) (.inl rfl) (fun b' u hb hu=>(Heap.get?_update_other s.heap (Obj.mapSeq f) (Ne.symm hb)).trans hu) ⟨_,q⟩ ?_
 exact⟨hz,its',_,hv,q⟩
theorem Inv.lnew{its:List Value}{t':Nat}(I:Inv X pins σ H s)(hv:ZB ys its)(hz:ys.length≤sizeLine) :
  Inv X pins σ (upd H s.heap.objs.size (.lst ys)) { s with heap:=s.heap.push { cls:=.type "list",data:=.seq its.toArray },toks:=t' } :=
 I.laid (fun _ _ q=>Qd _ q) (Qg _) ⟨hz,its,0,hv,QA _ rfl⟩
theorem Inv.fresh(I:Inv X pins σ H s):H s.heap.objs.size=none:=I.hok.fresh (Qg _)
theorem Inv.lstM(I:Inv X pins σ H s)(hH:H l=some (.lst xs)):xs.length≤sizeLine∧∃ (its:List Value) (n:Nat),ZB xs its∧xs.length=its.length∧s.heap.get? l=some { cls:=.type "list",data:=.seq its.toArray n }:=by
 obtain⟨z,its,n,r,e⟩:=I.hok l _ hH
 exact⟨z,its,n,r,r.length,e⟩
end
section
variable {X:Cx}
def ZmH:V→List V→Hp→VK→Prop:=fun x vs H Q=>∃l xs y,x=.ref l∧vs=[y]∧H l=some (.lst xs)∧xs.length<sizeLine∧Q .non (upd H l (.lst (xs++[y])))
theorem ZbP:MtM X "list.append" ZmH:=by
 intro pins s σ H x vs v us Q I rx rv h
 obtain⟨l,xs,y,rfl,rfl,hH,hz,q⟩:=h
 cases rx
 obtain⟨u,rfl,ru⟩:=rv.one
 obtain⟨z,its,n,r,hl,e⟩:=I.lstM hH
 refine call_meets F.slot_list_append ⟨_,e,rfl⟩ F.entry_list_append (F.args_list_append_2 _ _) (PySem.list_append l its.toArray n u (by rw[QD];omega)) ⟨e,?_⟩
 refine⟨.non,_,I.lset (its':=its++[u]) hH e (by simp) (r.append (.cons ru .nil)) ?_,rfl,q⟩
 rw[Qs,QF]
 omega
def rExtend:V→List V→Hp→VK→Prop:=fun x vs H Q=>∃l b xs zs,x=.ref l∧vs=[.ref b]∧H l=some (.lst xs)∧H b=some (.lst zs)∧xs.length+zs.length≤sizeLine∧Q .non (upd H l (.lst (xs++zs)))
def rPop:V→List V→Hp→VK→Prop:=fun x vs H Q=>∃l xs y,x=.ref l∧vs=[]∧H l=some (.lst xs)∧xs[xs.length-1]? = some y∧Q y (upd H l (.lst xs.dropLast))
def rPopAt:V→List V→Hp→VK→Prop:=fun x vs H Q=>∃l xs i k y,x=.ref l∧vs=[.int i]∧H l=some (.lst xs) ∧ -(2 ^ 63)≤i∧i<2 ^ 63∧seqIndex? i xs.length=some k∧xs[k]? = some y∧Q y (upd H l (.lst (xs.eraseIdx k)))
def ZkN:V→List V→Hp→VK→Prop:=fun x vs H Q=>∃l xs,x=.ref l∧vs=[]∧H l=some (.lst xs)∧Q .non (upd H l (.lst xs.reverse))
theorem Ziq:MtM X "list.reverse" ZkN:=by
 intro pins s σ H x vs v us Q I rx rv h
 obtain⟨l,xs,rfl,rfl,hH,q⟩:=h
 cases rx
 have hus:=rv.zero
 subst hus
 obtain⟨z,its,n,r,hl,e⟩:=I.lstM hH
 refine call_meets F.slot_list_reverse ⟨_,e,rfl⟩ F.entry_list_reverse (F.args_list_reverse_1 _) (AutoSeq1.list_reverse_list_0 l its.toArray n (by rw[QD];omega)) ⟨e,?_⟩
 refine⟨.non,_,I.lset (its':=its.reverse) hH e (by simp) r.reverse ?_,rfl,q⟩
 rw[List.length_reverse]
 omega
def rClear:V→List V→Hp→VK→Prop:=fun x vs H Q=>∃l xs,x=.ref l∧vs=[]∧H l=some (.lst xs)∧Q .non (upd H l (.lst []))
def rCat:R2:=fun x y H Q=>∃l b xs zs,x=.ref l∧y=.ref b∧H l=some (.lst xs)∧H b=some (.lst zs)∧xs.length+zs.length≤sizeLine∧∀p,H p=none→Q (.ref p) (upd H p (.lst (xs++zs)))
def rRep:R2:=fun x y H Q=>∃l k xs,x=.ref l∧y=.int k∧H l=some (.lst xs) ∧ -(2 ^ 63)≤k∧k<2 ^ 63∧xs.length*k.toNat≤sizeLine ∧
 ∀p,H p=none→Q (.ref p) (upd H p (.lst (List.replicate k.toNat xs).flatten))
end
section
variable {prog:Program} {w:World} {A:Around} {E:Value→Shared→Prop} {s:Shared}
end
section
variable {X:Cx}
end
end L2
namespace Att
open PySem PySem.W PySem.Calls PyProof.Rows
theorem ZeW{P:Params}{h:Heap}:∀ (ns:List Int) (vs:List Value),WellAll P h vs (ns.map WData.int)→IntsAre vs ns:=by
 intro ns
 induction ns with
 | nil =>
  intro vs w
  rw[List.map_nil]at w
  cases w
  exact .nil
 | cons n ns ih =>
  intro vs w
  rw[Qe]at w
  cases w with
  | cons a b =>
   cases a
   exact .cons _ _ (ih _ b)
theorem ZjL{l:OpenLaw}{n:Nat}(hn:l.most=some n){P:Params}{h:Heap}{args:List WData}{vals:List Value}
  (hpre:l.row.toRowW.claim.pre args=true) (hwl:WellAll P h vals args) :
  ∃a vs ns,vals=[Value.ref a]∧args=[WData.list (ns.map WData.int)]∧h.get? a=some { cls:=.type "list",data:=.seq vs.toArray }∧IntsAre vs ns∧ns.length≤n:=by
 have hsh:WShape.hasAll [] args [.list .int]=true:=(pre_splitW hpre).1
 have hc:l.pre.holds [] { args:=args }=true:=(pre_splitW hpre).2
 obtain⟨d,r,rfl,h1,h2⟩:=hasAllW_cons hsh
 obtain rfl:=hasAllW_nil h2
 obtain⟨xs,rfl,h3⟩:=hasW_list h1
 obtain⟨ns,rfl⟩:=items_int h3
 have hlen:ns.length≤n:=by
  unfold OpenLaw.pre at hc
  have h4:(WTm.not (.lt (.lit (.int (n:Int))) (.len (.arg 0)))).holds [] { args:=[.list (ns.map .int)] }=true:=by
   have h4:=(holds_andW hc).1
   rw[hn]at h4
   exact h4
  have h5:=condW_of h4 (w_not (w_lt w_lit (w_len_list (w_arg rfl))))
  rw[Qa]at h5
  refine Nat.le_of_not_lt fun q=>?_
  have q':(n:Int)<((ns.length:Nat):Int):=by omega
  first
   | (rw[decide_eq_true q']at h5;exact absurd h5 (by decide))
   | (simp at h5;omega)
 cases hwl with
 | cons w1 w2 =>
  cases w2
  cases w1 with
  | list ho hall=>exact⟨_,_,ns,rfl,rfl,ho,ZeW ns _ hall,hlen⟩
theorem ZjX(l:OpenLaw)(args:List WData):l.row.toRowW.claim.post args (.bool true) args=true :=
 postW_of (r:=l.row.toRowW) (X:=(true == true))
  (show WShape.has [] (.bool true) .bool=true by first|rfl|decide|simp[WShape.has,WShape.arms,WShape.armsAll])
  (show (WTm.eq .res (.lit (.bool true))).value [] { args:=args,res:=some (.bool true),after:=args }=some (.bool (true == true)) from w_eq_bool (w_res rfl) w_lit) rfl
theorem attach_call{l:OpenLaw}{n:Nat}{q:Program}{loose:List Str}{XP:(Str→Option Value)→Heap→Prop}{YP:World→Heap→Prop}{d:DefRec}
  (hn:l.most=some n) (hdf:d.params.defaults=[])
  (call:∀ (w:World) (s₀ s₁:Shared) (mg mb:Str→Option Value) (fa:Addr) (o:Obj) (pm cd doc:Value) (a:Addr) (vs:List Value) (ns:List Int),
   Ground q loose [] XP w s₀ mg mb s₁.heap→YP w s₁.heap →
   s₁.heap.get? fa=some o→o.data=.func (docDef d.name d.params d.body d.scope pm cd doc)→s₁.heap.CodeRec cd d.name→mg d.name=some (.ref fa) →
   s₁.heap.get? a=some { cls:=.type "list",data:=.seq vs.toArray }→IntsAre vs ns→ns.length≤n→s₁.gens = #[] →
   codeAny (model l.prog w) callerA (.call (.ref fa) ⟨[.ref a],[]⟩) (fun r s'=>r=.ok (.ret (.bool true))∧OldK s₁.heap s'.heap∧s'.os=s₁.os∧AllBare s'.gens) s₁) :
  WalkO q loose XP YP l.row.toRowW d [] (fun f vs=>PySem.call f vs):=by
 intro w s₀ s₁ mg mb G Y fa o pm cd doc dV kV ho hd hcd hD hmg hg args vals as hpre hlay hrd hwl hlo
 obtain rfl:dV=.none:=Dflts.none hD hdf
 obtain rfl:kV=.none:=Dflts.noKw hD
 obtain⟨a,vs,ns,rfl,rfl,hobj,hints,hlen⟩:=ZjL hn hpre hwl
 refine enter_call (codeAny_mono (call w s₀ s₁ mg mb fa o pm cd doc a vs ns G Y ho (fd_plain hd) hcd hmg hobj hints hlen hg) fun r s' hq=>?_)
 obtain⟨rfl,h2,h3,h4⟩:=hq
 exact⟨.inl ⟨.bool true,.bool true,[],rfl,fun _=>rfl,.bool true,ZjX l _,fun _=>⟨List.Pairwise.nil,fun _ hm=>(nomatch hm)⟩⟩,h2,h3,h4⟩
section
variable {prog:Program} {w:World} {A:Around} {E:Value→Shared→Prop} {s:Shared} {K:Frag}
def noObjs(h:Heap):Heap:={ h with objs:=#[] }
def ledger(h:Heap)(L d:Addr):List (Addr×Obj):=(List.range h.objs.size).filterMap fun a=>if a=L∨a=d then none else (h.get? a).map fun o=>(a,o)
end
end Att
namespace L2
open PySem PySem.Spec PyProof.Rows
theorem Zgb:∀ {vs:List Value} {ns:List Int},IntsAre vs ns→ZB (ns.map V.int) vs
 | _,_,.nil=>.nil
 | _,_,.cons n t h=>.cons ⟨t,rfl⟩ (Zgb h)
def ZoX(H:Hp):Prop:=∀b,H b=none∨∃o xs,H b=some (.frz o (.lst xs))
theorem Zlp{P:Program}{w:World}{K:PySem.W.Frag}{mg mb:Str→Option Value}{CX:CXT}{k:Nat}{fa a:Addr}{fd:FuncData}{x:Str}{sp:Sp}{s₁:Shared}{vs:List Value}{ns:List Int}
  (KX:K.In s₁.heap) (hns:s₁.heap.Ns mainGlobals mg) (hb:s₁.heap.Ns builtinsNs mb) (hbb:∀x:Str,x ≠ "__name__"→mb x=bootBuiltins x) (hlim:s₁.heap.NoLimit) (hg:s₁.gens = #[])
  (ha:s₁.heap.get? a=some { cls:=.type "list",data:=.seq vs.toArray }) (hi:IntsAre vs ns) (hl:ns.length≤sizeLine) (hr:ZaF k callerA)
  (F:∀base:Heap,K.In base→base.Ns mainGlobals mg→ZdB P w K mg base CX k fa fd [x] sp) (hbind:∀ (s:Shared) (u:Value),BindsTo s fd ⟨[u],[]⟩ [(x,u)])
  (hsp:∀H:Hp,ZoX H→SqL K H a (ns.map V.int)→sp [.ref a] H (fun v _=>v=.bl true) fun _ _ _=>False)
  (hCX:∀H e s',CX [] H s₁ (fun _ _ _=>False) e s'→False) :
  codeAny (model P w) callerA (.call (.ref fa) ⟨[.ref a],[]⟩) (fun r s'=>r=.ok (.ret (.bool true))∧OldK s₁.heap s'.heap∧s'.os=s₁.os∧AllBare s'.gens) s₁:=by
 have rv:=Zgb hi
 have lenV:=hi.length
 have core:∀H:Hp,ZoX H→SqL K H a (ns.map V.int)→HOk P w H s₁.heap→(∀b,H b≠none→b=a)→(H a≠none→K.lookup a=none) →
   codeAny (model P w) callerA (.call (.ref fa) ⟨[.ref a],[]⟩) (fun r s'=>r=.ok (.ret (.bool true))∧OldK s₁.heap s'.heap∧s'.os=s₁.os∧AllBare s'.gens) s₁:=by
  intro H hO hS hok hA hK
  have base_of:∀ {b:Addr} {o:Obj},s₁.heap.get? b=some o→H b=none→(ZgW s₁.heap H).get? b=some o:=fun e n=>ZlF e n
  have noA:∀ {b:Addr} {o:Obj} {es:Array DictEntry} {ep:Nat},s₁.heap.get? b=some o→o.data=.dict es ep→H b=none:=fun {b o es ep} e d=>by
   cases q:H b with
   | none=>rfl
   | some u =>
    have e':b=a:=hA b (by rw[q];simp)
    subst e'
    rw[ha]at e;cases e
    have d':Data.seq vs.toArray _=Data.dict es ep:=d
    cases d'
  have nsK:∀ {b:Addr} {m:Str→Option Value},s₁.heap.Ns b m→(ZgW s₁.heap H).Ns b m:=fun {b m} ⟨o,es,ep,e,d,r⟩=>⟨o,es,ep,base_of e (noA e d),d,r⟩
  have hKb:K.In (ZgW s₁.heap H):=fun b o e=>base_of (KX b o e) (by
   cases q:H b with
   | none=>rfl
   | some u =>
    have e':b=a:=hA b (by rw[q];simp)
    subst e'
    rw[hK (by rw[q];simp)]at e;cases e)
  have hM:Mod K mg (ZgW s₁.heap H):=⟨hKb,nsK hns,⟨mb,nsK hb,hbb⟩,let ⟨mc,h1,h2⟩:=hlim;⟨mc,nsK h1,h2⟩⟩
  have e0:Zip P w K mg (ZgW s₁.heap H) callerA [] s₁ H:=⟨rfl,hM,fun b o e=>ZmO e,Nat.le_of_eq (ZjG _ _),trivial,fun b hb=>absurd (show b∈([]:List Addr) from hb) (by simp),hok,.of_eq hg⟩
  refine codeAny_mono ((F _ hKb (nsK hns)).run callerA [] s₁ H ⟨[.ref a],[]⟩ [.ref a] [.ref a] _ _ hr e0 (hbind s₁ (.ref a)) (.cons rfl .nil) (hsp H hO hS)) fun r s' h=>?_
  cases r with
  | error e=>exact(hCX H e s' h).elim
  | ok fl =>
   cases fl with
   | next=>exact False.elim h
   | brk=>exact False.elim h
   | cont=>exact False.elim h
   | ret u =>
    obtain⟨v,H',os,bare,un,hok',r',q⟩:=h
    have q':v=.bl true:=q
    subst q'
    obtain rfl:u=Value.bool true:=r'
    refine⟨rfl,OldK.of_keep fun b o e=>?_,os,bare⟩
    cases q:H b with
    | none=>exact un.keep b o e q (by intro z;exact absurd (show b∈([]:List Addr) from z) (by simp)) (by simp)
    | some u =>
     rcases hO b with z|⟨ob,xs,z⟩
     ·rw[q]at z;cases z
     ·have z2:=un.frzs b ob _ z
      obtain⟨e1,_⟩:=hok b _ z
      obtain⟨e2,_⟩:=hok' b _ z2
      rw[e]at e1;cases e1
      exact e2
 cases hk:K.lookup a with
 | some o =>
  have e:=KX a o hk
  rw[ha]at e
  cases e
  refine core (fun _=>none) (fun _=>.inl rfl) (.inr ⟨_,vs.toArray,_,hk,rfl,rfl,rfl,by rw[QD,lenV];exact hl,by simpa using rv⟩) (fun b u z=>by have z':(none:Option HO)=some u:=z;cases z') (fun b z=>absurd rfl z) fun z=>absurd rfl z
 | none =>
  refine core (fun b=>if b=a then some (.frz { cls:=.type "list",data:=.seq vs.toArray } (.lst (ns.map V.int))) else none) (fun b=>?_) (.inl (.inr ⟨{ cls:=.type "list",data:=.seq vs.toArray },if_pos rfl⟩)) (fun b u z=>?_) (fun b z=>?_) fun _=>hk
  ·by_cases hb:b=a
   ·exact .inr ⟨_,_,if_pos hb⟩
   ·exact .inl (if_neg hb)
  ·by_cases hb:b=a
   ·have z':=(if_pos hb).symm.trans z
    cases z'
    subst hb
    exact⟨ha,by rw[Qa];exact hl,vs,_,rv,ha⟩
   ·have z':=(if_neg hb).symm.trans z
    cases z'
  ·by_cases hb:b=a
   ·exact hb
   ·exact absurd (if_neg hb) z
abbrev KOf{K:PySem.W.Frag}{h:Heap}(_:K.In h):PySem.W.Frag:=K
theorem walk_of{l:PySem.W.OpenLaw}{n k:Nat}{q:Program}{loose:List Str}{XP:(Str→Option Value)→Heap→Prop}{YP:World→Heap→Prop}{d:DefRec}{K:Params→PySem.W.Frag}{CX:World→CXT}{sp:World→Sp}{x:Str}
  (hn:l.most=some n) (hn2:n≤sizeLine) (hdf:d.params.defaults=[]) (hr:ZaF k callerA)
  (hY:∀ (w:World) (h:Heap),YP w h→(K w.params).In h)
  (F:∀ (w:World) (mg:Str→Option Value) (fa:Addr) (h:Heap),(K w.params).In h→h.Ns mainGlobals mg→mg d.name=some (.ref fa) →
   ∃fd:FuncData,(∀ (s:Shared) (u:Value),BindsTo s fd ⟨[u],[]⟩ [(x,u)]) ∧
    ∀base:Heap,(K w.params).In base→base.Ns mainGlobals mg→ZdB l.prog w (K w.params) mg base (CX w) k fa fd [x] (sp w))
  (hsp:∀ (w:World) (H:Hp) (a:Addr) (ns:List Int),ns.length≤n→ZoX H→SqL (K w.params) H a (ns.map V.int)→sp w [.ref a] H (fun v _=>v=.bl true) fun _ _ _=>False)
  (hCX:∀ (w:World) (H:Hp) (s:Shared) (e:Value) (s':Shared),CX w [] H s (fun _ _ _=>False) e s'→False) :
  PySem.W.WalkO q loose XP YP l.row.toRowW d [] (fun f vs=>PySem.call f vs):=by
 refine Att.attach_call hn hdf fun w s₀ s₁ mg mb fa o pm cd doc a vs ns G Y ho hd hcd hmg hobj hints hlen hg=>?_
 have KX:=hY w _ Y
 obtain⟨fd,hb,hF⟩:=F w mg fa _ KX G.T.g hmg
 exact Zlp KX G.T.g G.T.b G.T.builtins G.T.nolimit hg hobj hints (QH hlen hn2) hr hF hb (fun H hO hS=>hsp w H a ns hlen hO hS) fun H e s'=>hCX w H s₁ e s'
def ZV(s:Stmt)(j:Nat):Stmt:=match s with
 | .ClassDef _ _ _ body _ _ _ _ _ _ _=>body.getD j (.Pass ⟨0,0,0,0⟩)
 | _=>.Pass ⟨0,0,0,0⟩
def Zp(s:Stmt):Arguments:=match s with
 | .FunctionDef _ a _ _ _ _ _ _ _ _=>a
 | _=>{ posonlyargs:=[],args:=[],vararg:=none,kwonlyargs:=[],kw_defaults:=[],kwarg:=none,defaults:=[] }
def Zm(s:Stmt):List Stmt:=match s with
 | .FunctionDef _ _ b _ _ _ _ _ _ _=>b
 | _=>[]
def Ze(s:Stmt):Scope:=match s with
 | .FunctionDef _ _ _ _ _ _ sc _ _ _=>sc
 | _=>{ kind:=.function,names:=[],isGenerator:=false,isCoroutine:=false }
abbrev CX0:CXT:=fun _ _ _ _ _ _=>False
abbrev E0:XK:=fun _ _ _=>False
theorem Zjx{X:Cx}:ZdK CX0 X E0:=fun _ _ _ _ _ _ _ h=>h.elim
structure Fun (K:PySem.W.Frag) (x qual:Str) (st:Stmt) (f:Addr) (fd:FuncData):Prop where
 ex:∃ (oc:Value) (od:Option Addr) (kV doc pm:Value) (an:Option Addr) (cdv ct:Value) (osl:Array (Option Value)),
  fd=PySem.W.fnOf x qual (Zp st) (Zm st) (Ze st) .none kV doc pm an cdv ct∧K.lookup f=some ⟨oc,od,.func fd,osl⟩∧PySem.W.codeIn K cdv qual=true
 kp:PySem.W.keepIn K (.ref f)=true
section
variable {P:Program} {w:World} {K:PySem.W.Frag} {mg:Str→Option Value} {base:Heap}
theorem Fun.ok{x qual:Str}{st:Stmt}{f:Addr}{fd:FuncData}{N ps:List Str}{k:Nat}{sp:Sp}(F:Fun K x qual st f fd)(S:Zs N ps (Ze st))(len:∀vs H Q E,sp vs H Q E→vs.length=ps.length)
  (hbody:∀ (cdv:Value) (A:Around) (outer:List Env) (s:Shared) (H:Hp) (vs:List V) (Q:VK) (E:XK),ZaF k (A.deeper (envOfC qual (Ze st) s.heap.objs.size f cdv))→sp vs H Q E →
   ∃t,PSs (ZgV CX0 P w K mg base N qual (Ze st) f cdv A outer s H E).nox (Zm st) t∧t { nx:=fun _ H'=>Q .non H',rt:=Q } (Zc6 N vs) H):ZdB P w K mg base CX0 (k+1) f fd ps sp:=by
 obtain⟨oc,od,kV,doc,pm,an,cdv,ct,osl,rfl,lk,hcd⟩:=F.ex
 refine Zpb lk hcd S len fun A outer s H vs Q E hr hsp=>?_
 obtain⟨t,h,q⟩:=hbody cdv A outer s H vs Q E hr hsp
 exact⟨t,h.nox,q⟩
theorem Fun.binds{x qual:Str}{st:Stmt}{f:Addr}{fd:FuncData}{ps:List Str}(F:Fun K x qual st f fd)
  (h:∀ (kV doc pm:Value) (an:Option Addr) (cdv ct:Value) (us:List Value),us.length=ps.length→bindArgs (PySem.W.fnOf x qual (Zp st) (Zm st) (Ze st) .none kV doc pm an cdv ct) ⟨us,[]⟩=pure (ps.zip us)):ZbW K fd ps []:=by
 obtain⟨oc,od,kV,doc,pm,an,cdv,ct,osl,rfl,lk,hcd⟩:=F.ex
 exact .all (h kV doc pm an cdv ct)
theorem ZK{x qual:Str}{st:Stmt}{f:Addr}{oc:Value}{od an:Option Addr}{osl:Array (Option Value)}{kV doc pm cdv ct:Value}(l:K.lookup f=some ⟨oc,od,.func (PySem.W.fnOf x qual (Zp st) (Zm st) (Ze st) .none kV doc pm an cdv ct),osl⟩)
  (c:PySem.W.codeIn K cdv qual=true) (k:PySem.W.keepIn K (.ref f)=true):Fun K x qual st f (PySem.W.fnOf x qual (Zp st) (Zm st) (Ze st) .none kV doc pm an cdv ct):=⟨⟨oc,od,kV,doc,pm,an,cdv,ct,osl,rfl,l,c⟩,k⟩
end
theorem Zhu{A:Around}{k:Nat}(hr:ZaF k A):A.units+1<cLine:=Nat.lt_of_le_of_lt (Nat.add_le_add_left (by decide:1≤64) _) hr.units
theorem ZE{n:Nat}(h:n≤1000):n<sizeLine:=Nat.lt_of_le_of_lt h (by decide)
section
variable {X:Cx}
theorem pv(i:Nat){x:Str}{pos:Pos}(hN:X.N[i]? = some x:=by rfl)(hv:Vis X.env.scope x:=by first|exact Or.inl rfl|exact Or.inr (Or.inl rfl)|exact Or.inr (Or.inr rfl))(hd:(x == ("__debug__" : Str))=false:=by decide)
  (hcd:(x == ("__classdict__" : Str))=false:=by decide):PE X (.Name x pos) (ZnB i):=Zib hN hv hd hcd
end
theorem Zbb{A B:Prop}(h:B):if false=true then A else B:=by
 rw[if_neg Qi]
 exact h
theorem Zbp{A B:Prop}(h:A):if true=true then A else B:=by
 rw[if_pos rfl]
 exact h
theorem ZbJ{c A B:Prop}[Decidable c](h1:c→A)(h2:¬ c→B):if c then A else B:=by
 by_cases h:c
 ·rw[if_pos h]
  exact h1 h
 ·rw[if_neg h]
  exact h2 h
theorem Zcv{c A B:Prop}[Decidable c](hc:c)(h:B):if (!decide c)=true then A else B:=by
 rw[decide_eq_true hc]
 exact Zbb h
def Zz(H H':Hp):Prop:=∀b o,H b=some o→H' b=some o
theorem Zz.refl(H:Hp):Zz H H:=fun _ _ h=>h
theorem Zz.trans{H H1 H2:Hp}(a:Zz H H1)(b:Zz H1 H2):Zz H H2:=fun c o h=>b c o (a c o h)
theorem Zz.free{H H':Hp}(e:Zz H H'){l:Addr}(h:H' l=Option.none):H l=Option.none:=by
 cases q:H l with
 | none=>rfl
 | some o =>
  rw[e l o q]at h
  cases h
theorem Zz.seq{K:PySem.W.Frag}{H H':Hp}{a:Addr}{xs:List V}(e:Zz H H')(h:SqL K H a xs):SqL K H' a xs:=by
 rcases h with(h|⟨o,h⟩)|h
 ·exact .inl (.inl (e _ _ h))
 ·exact .inl (.inr ⟨o,e _ _ h⟩)
 ·exact .inr h
def Zar(cells:List (Str×Addr)):List (Str×NameKind)→List (Str×Addr)→List (Str×Addr)
 | [],acc=>acc
 | (n,k)::r,acc=>if k == .free then Zar cells r ((n,(cells.lookup n).getD 0)::acc) else Zar cells r acc
theorem ZdH{sc:Scope}{env:Env}(h:∀y∈sc.names,y.2=.free→∃c,env.cells.lookup y.1=some c) :
  closureFor sc env=pure (Zar env.cells sc.names []):=by
 have go:∀ (names:List (Str×NameKind)) (acc:List (Str×Addr)),(∀y∈names,y.2=.free→∃c,env.cells.lookup y.1=some c) →
   (forIn names acc fun (x:Str×NameKind) (r:List (Str×Addr))=>if (x.2 == NameKind.free)=true then (do let c ← cellOf env x.1;pure (ForInStep.yield ((x.1,c)::r))) else pure (ForInStep.yield r):Sem (List (Str×Addr)))=pure (Zar env.cells names acc):=by
  intro names
  induction names with
  | nil=>intro acc _;rfl
  | cons y r ih =>
   intro acc hy
   obtain⟨n,k⟩:=y
   rw[List.forIn_cons]
   cases hk:(k == NameKind.free) with
   | false =>
    have e1:Zar env.cells ((n,k)::r) acc=Zar env.cells r acc:=by
     show (if (k == NameKind.free)=true then _ else _)=_
     rw[hk];rfl
    rw[e1,← ih acc fun z hz=>hy z (Qm _ hz)]
    simp only[hk,Bool.false_eq_true,if_false,pure_bind]
   | true =>
    have hk':k=.free:=by simpa using hk
    obtain⟨c,hc⟩:=hy (n,k) QM hk'
    have e1:Zar env.cells ((n,k)::r) acc=Zar env.cells r ((n,c)::acc):=by
     show (if (k == NameKind.free)=true then _ else _)=_
     rw[hk,hc];rfl
    have e2:cellOf env n=pure c:=by
     unfold cellOf
     rw[hc]
    rw[e1,← ih ((n,c)::acc) fun z hz=>hy z (Qm _ hz)]
    simp only[hk,if_true,e2,pure_bind]
 have q:=go sc.names [] h
 unfold closureFor
 first
  | (rw[show (forIn sc.names ([]:List (Str×Addr)) _:Sem (List (Str×Addr)))=pure (Zar env.cells sc.names []) from q];rfl)
  | (simp only[bind_pure];exact q)
  | exact q
theorem Zdk(cells:List (Str×Addr)):∀ (names:List (Str×NameKind)) (acc:List (Str×Addr)) (x:Str) (c:Addr),(Zar cells names acc).lookup x=some c →
  (∃y∈names,y.1=x∧y.2=.free∧c=(cells.lookup x).getD 0)∨acc.lookup x=some c
 | [],acc,x,c,h=>.inr h
 | (n,k)::r,acc,x,c,h=>by
  by_cases hk:(k == NameKind.free)=true
  ·have e:Zar cells ((n,k)::r) acc=Zar cells r ((n,(cells.lookup n).getD 0)::acc):=by
    show (if (k == NameKind.free)=true then _ else _)=_
    rw[if_pos hk]
   rw[e]at h
   rcases Zdk cells r _ x c h with⟨y,hy,q⟩|q
   ·exact .inl ⟨y,Qm _ hy,q⟩
   ·rw[Qag]at q
    by_cases hx:(x == n)=true
    ·rw[hx]at q
     have hx':x=n:=by simpa using hx
     subst hx'
     exact .inl ⟨(x,k),QM,rfl,by simpa using hk,(Qo q).symm⟩
    ·have hx':(x == n)=false:=by simpa using hx
     rw[hx']at q
     exact .inr q
  ·have e:Zar cells ((n,k)::r) acc=Zar cells r acc:=by
    show (if (k == NameKind.free)=true then _ else _)=_
    rw[if_neg hk]
   rw[e]at h
   rcases Zdk cells r _ x c h with⟨y,hy,q⟩|q
   ·exact .inl ⟨y,Qm _ hy,q⟩
   ·exact .inr q
theorem Ze5(cells:List (Str×Addr)):∀ (names:List (Str×NameKind)) (acc:List (Str×Addr)) (x:Str),((∃y∈names,y.1=x∧y.2=.free)∨∃c,acc.lookup x=some c) →
  ∃c,(Zar cells names acc).lookup x=some c
 | [],acc,x,h=>by
  rcases h with⟨y,hy,_⟩|h
  ·cases hy
  ·exact h
 | (n,k)::r,acc,x,h=>by
  by_cases hk:(k == NameKind.free)=true
  ·have e:Zar cells ((n,k)::r) acc=Zar cells r ((n,(cells.lookup n).getD 0)::acc):=by
    show (if (k == NameKind.free)=true then _ else _)=_
    rw[if_pos hk]
   rw[e]
   refine Ze5 cells r _ x ?_
   by_cases hx:(x == n)=true
   ·exact .inr ⟨_,by rw[Qag,hx]⟩
   ·have hx':(x == n)=false:=by simpa using hx
    rcases h with⟨y,hy,q⟩|⟨c,q⟩
    ·rcases QG.mp hy with rfl|hy
     ·exact absurd (by simpa using q.1.symm) hx
     ·exact .inl ⟨y,hy,q⟩
    ·exact .inr ⟨c,by rw[Qag,hx'];exact q⟩
  ·have e:Zar cells ((n,k)::r) acc=Zar cells r acc:=by
    show (if (k == NameKind.free)=true then _ else _)=_
    rw[if_neg hk]
   rw[e]
   refine Ze5 cells r _ x ?_
   rcases h with⟨y,hy,q⟩|h
   ·rcases QG.mp hy with rfl|hy
    ·exact absurd (by simpa using q.2) hk
    ·exact .inl ⟨y,hy,q⟩
   ·exact .inr h
structure ZY (N N':List Str) (o c:Scope):Prop where
 kind:c.kind=.function
 okind:o.kind=.function
 nocell:∀y∈c.names,y.2≠.cell
 loc:∀y∈c.names,y.2=.local→c.names.lookup y.1=some .local
 free:∀y∈c.names,y.2=.free→c.names.lookup y.1=some .free∧(o.names.lookup y.1=some .cell∨o.names.lookup y.1=some .free)
 len:N.length≤N'.length
 same:∀i∈List.range N.length,∀x∈N'[i]?,c.names.lookup x=some .local∨c.names.lookup x=some .free→c.names.lookup x=some .free∧N[i]? = some x
 nd:N'.Nodup
def ZR(X:Cx)(c:Scope)(N':List Str)(C:Addr)(s:Shared)(H:Hp)(fp:List Addr):Cx :=
 { X with N:=N',s₀:=s,H₀:=H,env:=compEnvC c (Zar X.env.cells c.names []) C X.env,outer:=X.stack,stack:=X.stack,ex:=fp,fn:=fun _=>false,pn:=[],xe:=fun _ _=>False }
theorem Zc2{env:Env}(hf:env.scope.kind=.function):∀ (names:List (Str×NameKind)) (x:Str),
  (names.map fun (p:Str×NameKind)=>if (p.2 == NameKind.free&&env.scope.kind == .function&&env.kindOf p.1 == some .cell)=true then (p.1,NameKind.cell) else (p.1,p.2)).lookup x =
   match names.lookup x with
   | some .free=>if env.kindOf x=some .cell then some .cell else some .free
   | k=>k
 | [],x=>rfl
 | (n,k)::r,x=>by
  have ih:=Zc2 hf r x
  rw[Qe]
  by_cases hx:(x == n)=true
  ·have hx':x=n:=by simpa using hx
   subst hx'
   have e2:List.lookup x ((x,k)::r)=some k:=by rw[Qag];simp
   rw[e2]
   by_cases hk:k=.free
   ·subst hk
    by_cases hc:env.kindOf x=some .cell
    ·simp[List.lookup_cons,hf,hc]
    ·simp[List.lookup_cons,hf,hc]
   ·have hk':(k == NameKind.free)=false:=by simpa using hk
    rw[hk']
    simp only[Bool.false_and,Bool.false_eq_true,if_false,List.lookup_cons,beq_self_eq_true]
    all_goals (cases k<;>first|rfl|exact absurd rfl hk)
  ·have hx':(x == n)=false:=by simpa using hx
   have e2:List.lookup x ((n,k)::r)=List.lookup x r:=by rw[Qag,hx']
   rw[e2,← ih]
   by_cases hc:(k == NameKind.free&&env.scope.kind == .function&&env.kindOf n == some .cell)=true
   ·simp only[hc,if_true,List.lookup_cons,hx']
   ·simp only[hc,if_false,List.lookup_cons,hx',Bool.false_eq_true]
section
variable {X:Cx} {N N':List Str} {o c:Scope}
theorem Zch(S:ZY N N' o c)(ho:X.env.scope=o)(cl:List (Str×Addr))(C:Addr)(x:Str):(compEnvC c cl C X.env).kindOf x =
  match c.names.lookup x with
  | some .free=>if X.env.kindOf x=some .cell then some .cell else some .free
  | k=>k:=Zc2 (env:=X.env) (by rw[ho];exact S.okind) c.names x
theorem ZcM{names:List (Str×NameKind)}{x:Str}{k:NameKind}(h:names.lookup x=some k):(x,k)∈names:=QY h
theorem ZbM(S:ZY N N' o c)(ho:X.env.scope=o)(ok:X.Ok){x:Str}{a:Addr}(h:(Zar X.env.cells c.names []).lookup x=some a) :
  X.env.cells.lookup x=some a∧c.names.lookup x=some .free:=by
 rcases Zdk _ _ _ _ _ h with⟨y,hy,rfl,hf,e⟩|q
 ·have hk:=S.free y hy hf
  have hv:X.env.kindOf y.1=some .cell∨X.env.kindOf y.1=some .free:=by
   show X.env.scope.names.lookup y.1=_∨X.env.scope.names.lookup y.1=_
   rw[ho];exact hk.2
  obtain⟨b,hb⟩:=ok.has y.1 hv
  rw[hb]at e
  exact⟨by rw[hb,e];rfl,hk.1⟩
 ·cases q
theorem ZhO(S:ZY N N' o c)(ho:X.env.scope=o)(ok:X.Ok){x:Str}(h:c.names.lookup x=some .free):∃a,(Zar X.env.cells c.names []).lookup x=some a∧X.env.cells.lookup x=some a:=by
 obtain⟨a,ha⟩:=Ze5 X.env.cells c.names [] x (.inl ⟨(x,.free),ZcM h,rfl,rfl⟩)
 exact⟨a,ha,(ZbM S ho ok ha).1⟩
theorem Zm6(S:ZY N N' o c)(ho:X.env.scope=o){pins:List (Addr×Obj)}{σ:St}{H:Hp}{s:Shared}{fp:List Addr}(I:Inv X pins σ H s)
  (hf:∀b∈fp,Zeq X pins H b) (ht:∀b∈fp,b<s.heap.objs.size):(ZR X c N' s.heap.objs.size s H fp).Ok where
 mod:=I.ok.mod
 kind:=S.kind
 glob:=I.ok.glob
 blt:=I.ok.blt
 above:=Qg _
 inj:=fun x y a h1 h2=>I.ok.inj x y a (ZbM S ho I.ok h1).1 (ZbM S ho I.ok h2).1
 has:=fun x hx=>by
  have e:=Zch (X:=X) S ho (Zar X.env.cells c.names []) s.heap.objs.size x
  have hx':(compEnvC c (Zar X.env.cells c.names []) s.heap.objs.size X.env).kindOf x=some .cell∨(compEnvC c (Zar X.env.cells c.names []) s.heap.objs.size X.env).kindOf x=some .free:=hx
  rw[e]at hx'
  cases q:c.names.lookup x with
  | none=>rw[q]at hx';rcases hx' with z|z<;>cases z
  | some k =>
   by_cases hk:k=.free
   ·subst hk
    obtain⟨a,ha,_⟩:=ZhO S ho I.ok q
    exact⟨a,ha⟩
   ·rw[q]at hx'
    have hc:k=.cell:=by
     cases k<;>first|rfl|exact absurd rfl hk|(rcases hx' with z|z<;>cases z)
    subst hc
    exact absurd rfl (S.nocell _ (ZcM q))
 cab:=fun x a h=>by cases (show false=true from h)
 hd:=I.ok.hd
 frames:=I.ok.frames
 stk:=.inl rfl
 exf:=fun b hb=>⟨Qz (ht b hb),fun x a h=>(hf b hb).2.2.2.2.1 x a (ZbM S ho I.ok h).1⟩
 bs:=fun b ob e=>I.bs b ob e
 bsz:=QH I.ok.bsz I.sz
 noex:=fun b ob e hb=>by
  rcases(hf b hb).2.2.2.1 with z|z
  ·exact I.ok.noex b ob e z
  ·exact absurd (QB (Qj e) (QH I.ok.bsz z)) (Q1 _)
 exfs:=fun b hb hb'=>by
  rcases QG.mp (I.stkSub b hb') with z|z
  ·exact(hf b hb).2.1 z
  ·exact(hf b hb).2.2.1 z
 funs:=I.stack
 frf:=I.stkFree
theorem Zh9(S:ZY N N' o c)(hN:X.N=N)(ho:X.env.scope=o){pins:List (Addr×Obj)}{σ:St}{H:Hp}{s:Shared}{fp:List Addr}{h₁:Heap}{tk:Nat}{m₀:Str→Option Value}(I:Inv X pins σ H s)
  (hf:∀b∈fp,Zeq X pins H b) (ht:∀b∈fp,b<s.heap.objs.size) (hns:h₁.Ns s.heap.objs.size m₀) (hk:∀b ob,s.heap.get? b=some ob→h₁.get? b=some ob) :
  Inv (ZR X c N' s.heap.objs.size s H fp) [] (σ++List.replicate (N'.length-N.length) none) H { s with heap:=h₁,toks:=tk } where
 ok:=Zm6 S ho I hf ht
 os:=rfl
 bare:=I.bare
 base:=Un.kept hk
 loc:=by
  refine⟨m₀,hns,fun i x v e1 e2 e3=>?_⟩
  obtain⟨m,hn,hl⟩:=I.loc
  have hlen:σ.length=N.length:=by rw[I.len,hN]
  have hi:i<σ.length:=by
   by_cases hi:i<σ.length
   ·exact hi
   ·rw[QN (by omega),List.getElem?_replicate]at e2
    split at e2<;>cases e2
  have e2':σ[i]? = some (some v):=by rw[QP hi]at e2;exact e2
  have kd:=Zch (X:=X) S ho (Zar X.env.cells c.names []) s.heap.objs.size x
  have vis:c.names.lookup x=some .local∨c.names.lookup x=some .free:=by
   have e3':(compEnvC c (Zar X.env.cells c.names []) s.heap.objs.size X.env).kindOf x=some .local∨(compEnvC c (Zar X.env.cells c.names []) s.heap.objs.size X.env).kindOf x=some .cell∨(compEnvC c (Zar X.env.cells c.names []) s.heap.objs.size X.env).kindOf x=some .free:=e3
   rw[kd]at e3'
   cases q:c.names.lookup x with
   | none=>rw[q]at e3';rcases e3' with z|z|z<;>cases z
   | some k =>
    cases k with
    | «local»=>exact .inl rfl
    | free=>exact .inr rfl
    | cell=>exact absurd rfl (S.nocell _ (ZcM q))
    | _=>rw[q]at e3';rcases e3' with z|z|z<;>cases z
  obtain⟨hfr,hNi⟩:=S.same i (Qae.mpr (by omega)) x (by rw[show N'[i]? = some x from e1];rfl) vis
  have hok:X.env.kindOf x=some .cell∨X.env.kindOf x=some .free:=by
   show X.env.scope.names.lookup x=_∨X.env.scope.names.lookup x=_
   rw[ho];exact(S.free _ (ZcM hfr) rfl).2
  obtain⟨u,r,l⟩:=hl i x v (by rw[hN];exact hNi) e2' (.inr hok)
  refine⟨u,r,.inr ⟨?_,?_⟩⟩
  ·show (compEnvC c (Zar X.env.cells c.names []) s.heap.objs.size X.env).kindOf x=some .cell∨(compEnvC c (Zar X.env.cells c.names []) s.heap.objs.size X.env).kindOf x=some .free
   rw[kd,hfr]
   show (if X.env.kindOf x=some .cell then some NameKind.cell else some NameKind.free)=some .cell∨(if X.env.kindOf x=some .cell then some NameKind.cell else some NameKind.free)=some .free
   by_cases q:X.env.kindOf x=some .cell
   ·rw[if_pos q];exact .inl rfl
   ·rw[if_neg q];exact .inr rfl
  ·obtain⟨a,ha,ha'⟩:=ZhO S ho I.ok hfr
   refine⟨a,ha,?_⟩
   rcases l with⟨z,_⟩|⟨_,a',e,ob,hob,hd⟩
   ·rcases hok with q|q<;>rw[q]at z<;>cases z
   ·rw[ha']at e;cases e
    exact⟨ob,hk _ _ hob,hd⟩
 cell:=fun x a h=>by
  obtain⟨v,ob,e,d⟩:=I.cell x a (ZbM S ho I.ok h).1
  exact⟨v,ob,hk _ _ e,d⟩
 free:=I.hok.fresh (Qg _)
 freeC:=fun x a h=>I.freeC x a (ZbM S ho I.ok h).1
 pin:=fun p hp=>absurd (show p∈([]:List (Addr×Obj)) from hp) (by simp)
 hok:=I.hok.kept hk
 len:=by
  have hlen:σ.length=N.length:=by rw[I.len,hN]
  have:=S.len
  show (σ++List.replicate (N'.length-N.length) none).length=N'.length
  rw[Qs,List.length_replicate]
  omega
end
abbrev Zg0(ifs:List Expr)(env:Env):Sem Bool :=
 forIn ifs true fun k r=>if r=true then do let ok ← isTrue k env (eval k env);pure (ForInStep.yield ok) else pure (ForInStep.yield r)
def PTs(X:Cx)(ifs:List Expr)(t:TT):Prop :=
 ∀ (pins:List (Addr×Obj)) (s:Shared) (σ:St) (H:Hp) (Q:Bool→Hp→Prop),Inv X pins σ H s→t σ H Q→wpAny (model X.prog X.w) X.A (Zg0 ifs X.env) (TP X pins σ Q) X.xe s
def Zix:TT:=fun _ H Q=>Q true H
theorem ZcH{X:Cx}:PTs X [] Zix:=fun _ _ _ H _ I h=>wpAny_tests_nil ⟨H,I,h⟩
theorem Zd8{X:Cx}{e:Expr}{t:TT}(h:PT X e t):PTs X [e] t:=fun pins s σ H Q I q=>wpAny_tests_one (h pins s σ H Q I q)
section
variable {prog:Program} {w:World} {A:Around} {R:Result→Shared→Prop} {s:Shared}
theorem ZgX{elt target iter:Expr}{ifs:List Expr}{scope:Scope}{pos:Pos}{it acc:Value}{env:Env}{E:Value→Shared→Prop}(I:Nat→Shared→Prop)
  (hE:∀e s',E e s'→False)
  (turn:∀n s,I n s→wpAny (model prog w) A (pyNext it) (fun r s₁=>match r with
   | none=>R (.ok .next) s₁
   | some v=>wpAny (model prog w) A (letOwnedTupleGo target it v) (fun _ s₀=>wpAny (model prog w) A (assign target env v) (fun _ s₂ =>
     wpAny (model prog w) A (Zg0 ifs env) (fun ok s₃ =>
      if ok=true then wpAny (model prog w) A (eval elt env) (fun x s₄ =>
       wpAny (model prog w) A (call (.builtin "list.append") [acc,x]) (fun _ s₅=>∃m,m<n∧I m s₅) E s₄) E s₃
      else ∃m,m<n∧I m s₃) E s₂) E s₀) E s₁) E s)
  (n:Nat) (h:I n s):codeAny (model prog w) A (.compLoop (.ListComp elt [⟨target,iter,ifs,0⟩] scope pos) 0 it acc env) R s:=by
 have go:∀ {α:Type} {t:Sem α} {Q:α→Shared→Prop} {s:Shared},wpAny (model prog w) A t Q E s→wpAny (model prog w) A t Q (notedBy (model prog w) A env fun e s'=>R (.error e) s') s :=
  fun {α t Q s} q=>wpAny_mono q (fun _ _ z=>z) fun e s' z=>(hE e s' z).elim
 refine codeAny_loop rfl I (fun n s hI=>?_) n h
 show wpAny _ A ((compTurn (.ListComp elt [⟨target,iter,ifs,0⟩] scope pos) 0 it acc env).onRaise (fun x=>do noteFrame x env;theTreesLotGoes x)) _ _ s
 refine wpAny_noted ?_
 rw[compTurn_list]
 refine wpAny_bind (wpAny_standAt (wpAny_bind (thn (go (turn n s hI)) fun r s₁ h₁=>?_)))
 cases r with
 | none=>exact wpAny_pure h₁
 | some v =>
  refine wpAny_bind (thn (go h₁) fun _ s₀ h₀=>wpAny_bind (thn (go h₀) fun _ s₂ h₂=>wpAny_bind (thn (go h₂) fun ok s₃ h₃=>?_)))
  cases ok with
  | false=>exact wpAny_pure ⟨rfl,h₃⟩
  | true =>
   exact wpAny_bind (wpAny_bind (thn (go h₃) fun x s₄ h₄=>wpAny_bind (thn (go h₄) fun _ s₅ h₅=>wpAny_pure (wpAny_pure ⟨rfl,h₅⟩))))
end
def Zet(J:It)(D:Addr)(k:Nat)(σ:St)(H1:Hp)(g:TG)(tc:TT)(te:TE)(Q:VK):Prop :=
 ∃W:Nat→Nat→List V→St→Hp→Prop,(∃m,W 0 m [] (σ++List.replicate k none) (upd H1 D (.lst []))) ∧
  ∀i m ys σ2 H2,W i m ys σ2 H2→(J.stop i H2∧Q (.ref D) H2) ∨
   (J.go i H2∧∃N:List V→St→Hp→Prop,(∀ys' σ' H',N ys' σ' H'→∃m',m'<m∧W (i+1) m' ys' σ' H')∧∀x H3,J.yld i H2 x H3→g x σ2 H3 fun σ4 H4=>tc σ4 H4 fun b H5 =>
    if b=true then te σ4 H5 fun y H6=>H6 D=some (.lst ys)∧ys.length<sizeLine∧N (ys++[y]) σ4 (upd H6 D (.lst (ys++[y]))) else N ys σ4 H5)
def ZkV(n:Nat)(wi:TI)(g:TG)(tc:TT)(te:TE):TE:=fun σ H Q=>wi σ H fun J H1=>∀D,H1 D=none→Zet J D n σ H1 g tc te Q
section
variable {X:Cx} {N N':List Str} {o c:Scope}
theorem Zhc{elt tg iter:Expr}{ifs:List Expr}{pos pos':Pos}{wi:TI}{g:TG}{tc:TT}{te:TE}{use:Option (Value→Sem Unit)}{QQ:Value→Shared→Prop}(S:ZY N N' o c)(hN:X.N=N)(ho:X.env.scope=o)(hc:X.calm=true)
  (hi:PI X tg iter wi) (hg:∀C s H fp,PG (ZR X c N' C s H fp) tg g) (ht:∀C s H fp,PTs (ZR X c N' C s H fp) ifs tc) (he:∀C s H fp,PE (ZR X c N' C s H fp) elt te)
  (hs:∀x,foldedSetIterable iter X.env x=pure x) {pins:List (Addr×Obj)} {s:Shared} {σ:St} {H:Hp} {Q:VK} (I:Inv X pins σ H s) (h:ZkV (N'.length-N.length) wi g tc te σ H Q)
  (post:∀ (D C:Addr) (s5:Shared) (H5:Hp) (m:Str→Option Value),Inv X pins σ H5 s5→H5 C=none→s5.heap.Ns C m→C≠X.env.locals→X.s₀.heap.objs.size≤C→(∀x a,X.env.cells.lookup x=some a→a≠C)→(∀p∈X.pn++pins,p.1≠C) →
   Q (.ref D) H5→compPost (model X.prog X.w) X.A X.xe use QQ (.ref D) C (.ok .next) s5) :
  wpAny (model X.prog X.w) X.A (comprehension (.ListComp elt [⟨tg,iter,ifs,0⟩] c pos) c X.env pos' (newList []) false (eval iter X.env) use) QQ X.xe s:=by
 have hclos:closureFor c X.env=pure (Zar X.env.cells c.names []):=ZdH fun y hy hf=>by
  refine I.ok.has y.1 ?_
  show X.env.scope.names.lookup y.1=_∨X.env.scope.names.lookup y.1=_
  rw[ho];exact(S.free y hy hf).2
 refine wpAny_comprehension_free (use:=use) rfl hs hclos S.kind S.loc (thn (hi pins s σ H _ I h) fun v s1 h1=>thn h1 fun itv s2 h2=>?_)
 obtain⟨it,fp,tn,J,H2,e,I2,T,st2,f2,hR⟩:=h2
 subst e
 have hD:H2 s2.heap.objs.size=none:=I2.fresh
 have I3:Inv X pins σ (upd H2 s2.heap.objs.size (.lst [])) { s2 with heap:=s2.heap.push { cls:=.type "list",data:=.seq ([]:List Value).toArray } } :=
  I2.lnew (ys:=[]) (its:=[]) (t':=s2.toks) .nil (Qn _)
 have fpl:∀b∈fp,b<s2.heap.objs.size:=fun b hb=>by
  obtain⟨ob,e,_⟩:=T.obj 0 _ st2 b hb
  exact Qj e
 refine wpAny_newObj_type (wpAny_newFunctionEnv S.nocell (by intro y hy;simp at hy) (fun h₁ hns₁ hsb₁=>?_) S.kind)
 have e3:∃s3:Shared,s3={ s2 with heap:=s2.heap.push { cls:=.type "list",data:=.seq ([]:List Value).toArray } }:=⟨_,rfl⟩
 obtain⟨s3,hs3⟩:=e3
 have e3:s3.heap=s2.heap.push { cls:=.type "list",data:=.seq ([]:List Value).toArray }:=by rw[hs3]
 have sz3:s3.heap.objs.size=s2.heap.objs.size+1:=by rw[e3,Heap.size_push]
 have fpl3:∀b∈fp,b<s3.heap.objs.size:=fun b hb=>QB (fpl b hb) (by rw[sz3];exact Q8 _)
 have f3:∀b∈fp,Zeq X pins (upd H2 s2.heap.objs.size (.lst [])) b:=fun b hb=>⟨by rw[Zc (Qz (fpl b hb))];exact(f2 b hb).1,(f2 b hb).2⟩
 have st3:tn 0 s3.heap:=T.keep 0 _ _ st2 fun b _ ob e=>by rw[e3];exact Qd _ e
 rw[← hs3]at I3
 show codeAny (model X.prog X.w) X.A (.compStart _ 0 (.ref it) (.ref s2.heap.objs.size) (compEnvC c (Zar X.env.cells c.names []) (s2.heap.push { cls:=.type "list",data:=.seq ([]:List Value).toArray }).objs.size X.env))
  (compPost (model X.prog X.w) X.A X.xe use QQ (.ref s2.heap.objs.size) (s2.heap.push { cls:=.type "list",data:=.seq ([]:List Value).toArray }).objs.size)
  { s2 with heap:=h₁,toks:=s2.toks+([]:List (Str×Value)).length }
 have hns:h₁.Ns s3.heap.objs.size (fun x=>([]:List (Str×Value)).reverse.lookup x):=by rw[e3];exact hns₁
 have hk1:∀b ob,s3.heap.get? b=some ob→h₁.get? b=some ob:=fun b ob e=>by
  rw[e3]at e
  exact hsb₁.extBut b ob (Qz (Qj e)) (Qd _ e)
 rw[← e3]
 have es4:({ s2 with heap:=h₁,toks:=s2.toks+([]:List (Str×Value)).length }:Shared)={ s3 with heap:=h₁,toks:=s2.toks }:=by rw[hs3];rfl
 rw[es4]
 obtain⟨W,⟨m0,w0⟩,turn⟩:=hR s2.heap.objs.size hD
 have I4:=Zh9 (tk:=s2.toks) S hN ho I3 f3 fpl3 hns hk1
 have st4:tn 0 h₁:=T.keep 0 _ _ st3 fun b _ ob e=>hk1 b ob e
 generalize hX:ZR X c N' s3.heap.objs.size s3 (upd H2 s2.heap.objs.size (.lst [])) fp=Y at I4
 have Yp:Y.prog=X.prog:=by rw[← hX];rfl
 have Yw:Y.w=X.w:=by rw[← hX];rfl
 have YK:Y.K=X.K:=by rw[← hX];rfl
 have Yc:Y.calm=true:=by rw[← hX];exact hc
 have YA:Y.A=X.A:=by rw[← hX];rfl
 have Yenv:Y.env=compEnvC c (Zar X.env.cells c.names []) s3.heap.objs.size X.env:=by rw[← hX];rfl
 have Yl:Y.env.locals=s3.heap.objs.size:=by rw[Yenv];rfl
 have Yxe:Y.xe=fun _ _=>False:=by rw[← hX];rfl
 have hg':=hg s3.heap.objs.size s3 (upd H2 s2.heap.objs.size (.lst [])) fp
 have ht':=ht s3.heap.objs.size s3 (upd H2 s2.heap.objs.size (.lst [])) fp
 have he':=he s3.heap.objs.size s3 (upd H2 s2.heap.objs.size (.lst [])) fp
 rw[hX]at hg' ht' he'
 have stat:∀ {H':Hp},(∀b∈fp,H' b=none)→∀b∈fp,Zeq Y [] H' b:=fun {H'} hn b hb=>by
  obtain⟨_,q1,q2,q3,q4,_⟩:=f3 b hb
  have z1:=I4.ok.exf b (by rw[← hX];exact hb)
  refine⟨hn b hb,z1.1,I4.ok.exfs b (by rw[← hX];exact hb),.inl (by rw[← hX];exact hb),z1.2,fun p hp=>?_⟩
  have hp':p∈([]:List (Addr×Obj)):=by
   have:Y.pn=[]:=by rw[← hX];rfl
   rw[this]at hp;exact hp
  cases hp'
 have fin:∀ (s5:Shared) (σ5:St) (H5:Hp),Inv Y [] σ5 H5 s5→Q (.ref s2.heap.objs.size) H5→compPost (model X.prog X.w) X.A X.xe use QQ (.ref s2.heap.objs.size) s3.heap.objs.size (.ok .next) s5:=fun s5 σ5 H5 I5 q=>by
  obtain⟨m,hn,_⟩:=id I5.loc
  rw[Yl]at hn
  have hCn:H5 s3.heap.objs.size=none:=by have:=I5.free;rw[Yl]at this;exact this
  have un:Un (frs X.stack) fp (upd H2 s2.heap.objs.size (.lst [])) H5 s3.heap s5.heap:=by
   have:=I5.base
   rw[← hX]at this
   exact this
  have os5:s5.os=s3.os:=by have:=I5.os;rw[← hX]at this;exact this
  have hok5:HOk X.prog X.w H5 s5.heap:=by
   have:=I5.hok
   rw[Yp,Yw]at this
   exact this
  refine post _ _ s5 H5 m (I3.call' (s':=s5) (ch:=fp) os5 un hok5 I5.bare fun b hb=>?_) hCn hn (Qaf I3.lt) I3.sz (fun x a e=>?_) (fun p hp=>?_) q
  ·obtain⟨_,q1,_,q3,q4,q5⟩:=f3 b hb
   exact⟨q3,q1,q4,q5⟩
  ·obtain⟨v,ob,e',_⟩:=I3.cell x a e
   exact Qz (Qj e')
  ·exact Qz (Qj (I3.pin p hp).1)
 have loop:codeAny (model X.prog X.w) X.A (.compLoop (.ListComp elt [⟨tg,iter,ifs,0⟩] c pos) 0 (.ref it) (.ref s2.heap.objs.size) (compEnvC c (Zar X.env.cells c.names []) s3.heap.objs.size X.env))
   (compPost (model X.prog X.w) X.A X.xe use QQ (.ref s2.heap.objs.size) s3.heap.objs.size) { s3 with heap:=h₁,toks:=s2.toks }:=by
  rw[← Yenv,← YA]
  refine ZgX (E:=fun _ _=>False) (fun n s'=>∃i ys σ' H',Inv Y [] σ' H' s'∧tn i s'.heap∧(∀b∈fp,H' b=none)∧W i n ys σ' H') (fun _ _ z=>z) ?_ m0
   ⟨0,[],_,_,I4,st4,fun b hb=>(f3 b hb).1,?_⟩
  ·rintro n s5 ⟨i,ys,σ5,H5,I5,st5,fr5,w5⟩
   rcases turn i n ys σ5 H5 w5 with⟨stop,qn⟩|⟨go,Nn,hNn,step⟩
   ·refine thn (T.done Y Yp Yw YK Yc i [] s5 σ5 H5 _ I5 (stat fr5) st5 stop) fun r s6 ⟨hr,I6⟩=>?_
    subst hr
    have fq:=fin s6 σ5 H5 I6 qn
    rw[← YA]at fq
    exact fq
   ·refine thn (T.item Y Yp Yw YK Yc i [] s5 σ5 H5 _ I5 (stat fr5) st5 go) fun r s6 ⟨u,hr,h6⟩=>?_
    subst hr
    refine thn h6 fun _ s7 ⟨x,H7,I7,r7,y7,st7,fr7⟩=>?_
    have I7':=I7.pinned (stat fr7) (T.obj _ _ st7)
    have back:∀ {σ9:St} {H9:Hp} {s9:Shared},Inv Y ([]++ZeI fp s7.heap) σ9 H9 s9→Inv Y [] σ9 H9 s9∧tn (i+1) s9.heap∧∀b∈fp,H9 b=none:=fun {σ9 H9 s9} I9=>by
     refine⟨I9.unpinned,T.keep _ _ _ st7 fun b hb ob e=>(I9.pin (b,ob) (Qr _ (Qr _ (Zbt hb e)))).1,fun b hb=>?_⟩
     obtain⟨ob,e,d⟩:=T.obj _ _ st7 b hb
     exact(I9.pin (b,ob) (Qr _ (Qr _ (Zbt hb e)))).2.1
    have P1:=hg' _ s7 σ5 H7 x u _ I7' r7 (step x H7 y7)
    rw[Yp,Yw,Yxe]at P1
    refine thn P1 fun _ s8 ⟨σ8,H8,I8,q8⟩=>?_
    have P2:=ht' _ s8 σ8 H8 _ I8 q8
    rw[Yp,Yw,Yxe]at P2
    refine thn P2 fun ok s9 ⟨H9,I9,q9⟩=>?_
    cases ok with
    | false =>
     rw[if_neg Qi]at q9
     rw[if_neg Qi]
     obtain⟨b1,b2,b3⟩:=back I9
     obtain⟨m',hm',w9⟩:=hNn _ _ _ q9
     exact⟨m',hm',i+1,ys,σ8,H9,b1,b2,b3,w9⟩
    | true =>
     rw[if_pos rfl]at q9
     rw[if_pos rfl]
     have P3:=he' _ s9 σ8 H9 _ I9 q9
     rw[Yp,Yw,Yxe]at P3
     refine thn P3 fun y s10 ⟨vy,H10,I10,r10,hDl,hsz,q10⟩=>?_
     have P4:=ZbP (X:=Y) _ s10 σ8 H10 (.ref s2.heap.objs.size) [vy] (.ref s2.heap.objs.size) [y] (fun _ H'=>Nn (ys++[vy]) σ8 H') I10 rfl (.cons r10 .nil) ⟨_,ys,vy,rfl,rfl,hDl,hsz,q10⟩
     rw[Yp,Yw,Yxe]at P4
     refine thn P4 fun _ s11 ⟨_,H11,I11,_,q11⟩=>?_
     obtain⟨b1,b2,b3⟩:=back I11
     obtain⟨m',hm',w11⟩:=hNn _ _ _ q11
     exact⟨m',hm',i+1,ys++[vy],σ8,H11,b1,b2,b3,w11⟩
  ·exact w0
 have lp:=T.self X.A 0 { s3 with heap:=h₁,toks:=s2.toks } (fun it' s'=>codeAny (model X.prog X.w) X.A (.compLoop (.ListComp elt [⟨tg,iter,ifs,0⟩] c pos) 0 it' (.ref s2.heap.objs.size) (compEnvC c (Zar X.env.cells c.names []) s3.heap.objs.size X.env))
   (compPost (model X.prog X.w) X.A X.xe use QQ (.ref s2.heap.objs.size) s3.heap.objs.size) s') (fun _ _=>False) st4 loop
 exact codeAny_compStart_list loop (wpAny_mono lp (fun _ _ z=>z) fun _ _ z=>z.elim)
theorem Inv.let{pins:List (Addr×Obj)}{σ:St}{H:Hp}{s:Shared}{C:Addr}{h':Heap}(I:Inv X pins σ H s)(hn:H C=none)(hL:C≠X.env.locals)(h1:X.s₀.heap.objs.size≤C)
  (h2:∀x a,X.env.cells.lookup x=some a→a≠C) (h3:∀p∈X.pn++pins,p.1≠C) (hs:Heap.SameBut C s.heap h'):Inv X pins σ H { s with heap:=h' } :=
 I.turned (t':=s.toks) (fun b ob hb e=>hs.extBut b ob hb e) hn hL (.inr h1) h2 h3
theorem ZbH{elt tg iter:Expr}{ifs:List Expr}{pos:Pos}{wi:TI}{g:TG}{tc:TT}{te:TE}(S:ZY N N' o c)(hN:X.N=N)(ho:X.env.scope=o)(hc:X.calm=true)
  (hi:PI X tg iter wi) (hg:∀C s H fp,PG (ZR X c N' C s H fp) tg g) (ht:∀C s H fp,PTs (ZR X c N' C s H fp) ifs tc) (he:∀C s H fp,PE (ZR X c N' C s H fp) elt te)
  (hs:∀x,foldedSetIterable iter X.env x=pure x:=by intro _;rfl) :
  PE X (.ListComp elt [⟨tg,iter,ifs,0⟩] c pos) (ZkV (N'.length-N.length) wi g tc te):=by
 intro pins s σ H Q I h
 rw[eval_ListComp]
 refine Zhc (use:=none) S hN ho hc hi hg ht he hs I h fun D C s5 H5 m I5 hCn hn n1 n2 n3 n4 q=>⟨m,hn,fun h' hsb=>?_⟩
 exact⟨.ref D,H5,I5.let hCn n1 n2 n3 n4 hsb,rfl,q⟩
theorem Zit{i:Nat}{x:Str}{elt tg iter:Expr}{ifs:List Expr}{pos pos' spos:Pos}{wi:TI}{g:TG}{tc:TT}{te:TE}(hnd:X.N.Nodup)(hx:X.N[i]? = some x)(hl:Loc X.env.scope x)(S:ZY N N' o c)(hN:X.N=N)(ho:X.env.scope=o)(hc:X.calm=true)
  (hi:PI X tg iter wi) (hg:∀C s H fp,PG (ZR X c N' C s H fp) tg g) (ht:∀C s H fp,PTs (ZR X c N' C s H fp) ifs tc) (he:∀C s H fp,PE (ZR X c N' C s H fp) elt te)
  (hsw:swapsWith (.ListComp elt [⟨tg,iter,ifs,0⟩] c pos) (some (.Name x pos')) spos.line X.env=pure true)
  (hs:∀x,foldedSetIterable iter X.env x=pure x:=by intro _;rfl) (hf:X.fn x=true∨X.env.scope.names.lookup x=some .local:=by first|exact .inl rfl|exact .inr rfl|assumption) :
  PS X (.Assign [.Name x pos'] (.ListComp elt [⟨tg,iter,ifs,0⟩] c pos) spos) (Zms (ZkV (N'.length-N.length) wi g tc te) (Zhv i)):=by
 intro pins s σ H D I h
 rw[exec_Assign_Name_used _ _ _ _ hsw]
 refine wpAny_bind (wpAny_standAt (wpAny_bind ?_))
 show wpAny _ X.A (do let _ ← comprehension (.ListComp elt [⟨tg,iter,ifs,0⟩] c pos) c X.env _ (newList []) false (eval iter X.env) (some (assign (.Name x pos') X.env))) _ _ s
 refine wpAny_bind (thn (Zhc (QQ:=fun _ s'=>SP X pins D .next s') (use:=some (assign (.Name x pos') X.env)) S hN ho hc hi hg ht he hs I h ?_) fun _ s' hq=>wpAny_pure (wpAny_pure hq))
 intro L C s5 H5 m I5 hCn hn n1 n2 n3 n4 q
 show wpAny _ X.A (assign (.Name x pos') X.env (.ref L)) _ _ _
 refine wpAny_assign_Name (ZeB (v:=.ref L) I5 hnd hx hl rfl (fun s6 I6 ⟨a,hsb,ha⟩=>?_) hf)
 have nCa:C≠a:=by
  rcases ha with z|z
  ·rw[z];exact n1
  ·exact(n3 x a z).symm
 exact⟨m,hn.sameBut hsb nCa,fun h' hsb'=>⟨_,H5,I6.let hCn n1 n2 n3 n4 hsb',q⟩⟩
end
theorem ZfK{ys:List Str}:∀ {us:List Value},ZB (ys.map V.str) us→StrsAre us ys:=by
 induction ys with
 | nil=>intro us r;rw[List.map_nil]at r;cases r;exact .nil
 | cons y ys ih =>
  intro us r
  rw[Qe]at r
  cases r with
  | cons r1 r2 =>
   obtain⟨t,e⟩:=r1
   subst e
   exact .cons _ _ (ih r2)
theorem Zgo:∀ {vs:List Value} {ys:List Str},StrsAre vs ys→ZB (ys.map V.str) vs
 | _,_,.nil=>.nil
 | _,_,.cons _ t h=>.cons ⟨t,rfl⟩ (Zgo h)
section
variable {X:Cx}
def Zpq(K:PySem.W.Frag):List V→Hp→VK→Prop:=fun xs H Q=>∃x c t b,xs=[x,.ty c]∧ZdX K H x t∧PySem.W.kitOne K t (.type c)=some b∧Q (.bl b) H
theorem Zlk:ZaM X (.builtin "isinstance") (Zpq X.K):=by
 intro pins s σ H xs us Q I r h
 obtain⟨x,c,t,b,rfl,ty,e,q⟩:=h
 obtain⟨u,w',rfl,rx,rc⟩:=ZlU r
 cases rc
 exact ZjT I rx ty e fun tk=>⟨.bl b,H,I.tok _,rfl,q⟩
def rIsiT(K:PySem.W.Frag):List V→Hp→VK→Prop:=fun xs H Q=>∃ (x:V) (tp:Addr) (cs:List String) (t:Value) (b:Bool),xs=[x,.ref tp]∧H tp=some (.tup (cs.map V.ty))∧ZdX K H x t∧PySem.W.kitAny K t (cs.map Value.type)=some b∧Q (.bl b) H
theorem ZgK:ZaM X (.builtin "sorted") (fun xs H Q=>∃ (p:Addr) (ss:List Str),xs=[.ref p]∧SqL X.K H p (ss.map V.str)∧ss.length<64 ∧
  ∀ (l:Addr) (ss':List Str),H l=none→ss'.Perm ss→sortedS ss'=true→Q (.ref l) (upd H l (.lst (ss'.map V.str)))):=by
 intro pins s σ H xs us Q I r h
 obtain⟨p,ss,rfl,hq,h64,q⟩:=h
 obtain⟨u,rfl,rx⟩:=Zce r
 cases rx
 obtain⟨its,rv,pl,hz⟩:=I.list hq
 have hlen:=rv.length
 rw[Qa]at hlen hz
 refine sorted_strs pl.isList (ZfK rv) (by omega) fun out ss' a1 a2 a3=>?_
 obtain⟨e,he⟩:=sortedAll_at s.heap its out
 have hp:=a2.length_eq
 refine⟨.ref (s.heap.objs.size+1),_,I.laid (t':=s.toks) (o:=.lst (ss'.map V.str)) (fun _ _=>sortedAll_old) (Q8 _) ⟨by rw[Qa];omega,out.toList,e,Zgo a1,by simpa using he⟩,rfl,q _ ss' (I.hok.fresh (Q8 _)) a2 a3⟩
theorem Znd:MtR X "str.join" (fun x vs H Q=>∃ (sep:Str) (p:Addr) (ys:List Str),x=.str sep∧vs=[.ref p]∧SqL X.K H p (ys.map V.str)∧(ys.map (·.length)).sum+ys.length*sep.length≤16777216∧Q (.str (Txt.join sep ys)) H):=by
 intro pins s σ H x vs v us Q I rx rv h
 obtain⟨sep,p,ys,rfl,rfl,hq,hz,q⟩:=h
 obtain⟨t,rfl⟩:=rx
 obtain⟨u,rfl,ru⟩:=rv.one
 cases ru
 obtain⟨its,r',pl,_⟩:=I.list hq
 exact join_list pl.isList (ZfK r') hz fun t' k=>⟨.str _,H,I.tok _,⟨_,rfl⟩,q⟩
theorem Zmq:OpR X (binaryOp .Mult) (fun x y H Q=>∃a n,x=.str a∧y=.int n∧0≤n∧n≤1000000∧(a.length:Int)*n≤1000000∧Q (.str (Txt.mul a n)) H):=by
 intro pins s σ H x y v u Q I rx ry h
 obtain⟨a,n,rfl,rfl,h0,h1,h2,q⟩:=h
 obtain⟨t,rfl⟩:=rx
 obtain⟨t',rfl⟩:=ry
 have h2':a.length*n.toNat≤1000000:=by
  have e:((a.length*n.toNat:Nat):Int)=(a.length:Int)*n:=by rw[Int.natCast_mul,Int.toNat_of_nonneg h0]
  omega
 refine PySem.P.mul_str ?_ (fun c1 c2=>?_) (fun c1 c2=>?_) ?_
 ·have e1:decide (n < -(2 ^ 63:Int))=false:=decide_eq_false (by omega)
  have e2:decide (n≥2 ^ 63)=false:=decide_eq_false (by omega)
  rw[e1,e2];rfl
 ·have hn:(1:Int)≤n:=by omega
  have q1:(a.length:Int)*1≤(a.length:Int)*n:=Int.mul_le_mul_of_nonneg_left hn (Int.natCast_nonneg _)
  have q2:(1000000:Int)≤(2 ^ 63-1) / n:=by
   rw[Int.le_ediv_iff_mul_le (by omega)]
   have:(1000000:Int)*n≤1000000*1000000:=Int.mul_le_mul_of_nonneg_left h1 (by decide)
   omega
  omega
 ·unfold Builtin.Str.tooLong
  have hl:sizeLine=16777216:=sizeLine_eq
  exact decide_eq_false (by omega)
 ·have e:Txt.mul a n=if n<1 then Str.empty else if (n == 1||a.length == 0)=true then a else ⟨(List.replicate n.toNat a.cps).foldl (·++·) #[]⟩:=rfl
  rw[e]at q
  by_cases c1:n<1
  ·rw[if_pos c1]at q ⊢
   exact⟨by decide,.str _,H,I.tok _,⟨_,rfl⟩,q⟩
  ·rw[if_neg c1]at q ⊢
   by_cases c2:(n == 1||a.length == 0)=true
   ·rw[if_pos c2]at q ⊢
    exact⟨.str _,H,I,⟨_,rfl⟩,q⟩
   ·rw[if_neg c2]at q ⊢
    refine⟨?_,.str _,H,I.tok _,⟨_,rfl⟩,q⟩
    have hfold:∀ (k:Nat) (acc:Array Nat),((List.replicate k a.cps).foldl (·++·) acc).size=acc.size+k*a.cps.size:=by
     intro k
     induction k with
     | zero=>intro acc;simp
     | succ k ih=>intro acc;rw[List.replicate_succ,List.foldl_cons,ih,Array.size_append,Nat.succ_mul];omega
    show ((List.replicate n.toNat a.cps).foldl (·++·) #[]).size≤sizeLine
    rw[hfold]
    have e2:a.cps.size=a.length:=rfl
    have:n.toNat*a.cps.size≤1000000:=by rw[e2,Nat.mul_comm];exact h2'
    have hl:sizeLine=16777216:=sizeLine_eq
    simp only[List.size_toArray,List.length_nil]
    omega
def rSlS:V→Option Int→Option Int→Hp→VK→Prop:=fun x lo hi H Q=>∃z,x=.str z∧z.length≤sizeLine∧Q (.str (Txt.slice z lo hi)) H
end
inductive Src where
 | l (a:Addr)|t (a:Addr)|s (z:Str)
def Src.val:Src→V
 | .l a=>.ref a
 | .t a=>.ref a
 | .s z=>.str z
def Zm5(c:Nat):V:=.str ⟨#[c]⟩
def Src.its(K:PySem.W.Frag)(H:Hp):Src→List V→Prop
 | .l a,xs=>SqL K H a xs
 | .t a,xs=>SqT K H a xs
 | .s z,xs=>xs=z.cps.toList.map Zm5
def Src.at(h:Heap)(i:Addr):Src→Nat→Prop
 | .l a,k=>h.IsListIter i a k
 | .t a,k=>h.IsTupleIter i a k
 | .s z,k=>∃tk,h.IsStrIter i (strIterType z) z tk k
def Src.raw(h:Heap):Src→List Value→Prop
 | .l a,us=>h.IsList a us.toArray
 | .t a,us=>h.IsTuple a us.toArray
 | .s _,_=>True
def Src.fit:Src→List Value→Nat→Value→Prop
 | .l _,us,k,u=>us[k]? = some u
 | .t _,us,k,u=>us[k]? = some u
 | .s z,_,k,u=>∃c tk,z.cps[k]? = some c∧u=.str ⟨#[c]⟩ tk
def Src.many:Src→List Value→Nat
 | .l _,us=>us.length
 | .t _,us=>us.length
 | .s z,_=>z.cps.size
def Src.off:Src→Addr→Prop
 | .l a,b=>a≠b
 | .t a,b=>a≠b
 | .s _,_=>True
section
variable {prog:Program} {w:World} {A:Around} {E:Value→Shared→Prop} {s:Shared}
structure ZipOff (z TI TO i1 i2:Addr) (S1 S2:Src):Prop where
 TIz:TI≠z
 TOz:TO≠z
 i1z:i1≠z
 i2z:i2≠z
 TITO:TI≠TO
 TIi1:TI≠i1
 TIi2:TI≠i2
 TOi1:TO≠i1
 TOi2:TO≠i2
 i12:i1≠i2
 s1z:S1.off z
 s1TO:S1.off TO
 s1i1:S1.off i1
 s1i2:S1.off i2
 s2z:S2.off z
 s2TO:S2.off TO
 s2i1:S2.off i1
 s2i2:S2.off i2
end
def Src.iter(tk:Tok):Src→Obj
 | .l a=>{ cls:=.type "list_iterator",data:=.fields #[.ref a,.int 0 0] }
 | .t a=>{ cls:=.type "tuple_iterator",data:=.fields #[.ref a,.int 0 0] }
 | .s z=>{ cls:=.type (strIterType z),data:=.fields #[.str z tk,.int 0 0] }
def Src.value(tk:Tok):Src→Value
 | .l a=>.ref a
 | .t a=>.ref a
 | .s z=>.str z tk
abbrev zH1(h:Heap)(S1:Src)(t1:Tok):Heap:=h.push (S1.iter t1)
abbrev zH2(h:Heap)(S1 S2:Src)(t1 t2:Tok):Heap:=(zH1 h S1 t1).push (S2.iter t2)
abbrev zH3(h:Heap)(S1 S2:Src)(t1 t2:Tok):Heap:=(zH2 h S1 S2 t1 t2).push { cls:=.type "tuple",data:=.seq #[.ref h.objs.size,.ref (zH1 h S1 t1).objs.size] }
abbrev zH4(h:Heap)(S1 S2:Src)(t1 t2:Tok):Heap:=(zH3 h S1 S2 t1 t2).push { cls:=.type "tuple",data:=.seq #[.none,.none] }
abbrev zH5(h:Heap)(S1 S2:Src)(t1 t2:Tok):Heap:=(zH4 h S1 S2 t1 t2).push { cls:=.type "zip",data:=.fields #[.none,.bool false,.bool false,.ref (zH2 h S1 S2 t1 t2).objs.size,.ref (zH3 h S1 S2 t1 t2).objs.size] }
section
variable {prog:Program} {w:World} {A:Around} {E:Value→Shared→Prop} {s:Shared}
end
def Itz(K:PySem.W.Frag)(S1 S2:Src):It :=
 ⟨fun i H=>∃xs ys,S1.its K H xs∧S2.its K H ys∧i<xs.length∧i<ys.length,
  fun i H v H'=>∃p,H p=none∧v=.ref p∧∀xs ys,S1.its K H xs→S2.its K H ys→∀x y,xs[i]? = some x→ys[i]? = some y→H'=upd H p (.tup [x,y]),
  fun i H=>∃xs ys,S1.its K H xs∧S2.its K H ys∧(xs.length≤i∨ys.length≤i)⟩
section
variable {X:Cx} {pins:List (Addr×Obj)} {σ:St} {H:Hp} {s:Shared}
theorem Inv.zipped{fp:List Addr}{h':Heap}{tk:Nat}{x y:V}{u v:Value}(I:Inv X pins σ H s)(hf:∀b∈fp,Zeq X pins H b)(rx:Zy x u)(ry:Zy y v)
  (hp:IsPair h' s.heap.objs.size u v) (hfh:∀b∈fp,∃o,h'.get? b=some o) (hk:∀c o,c ∉ fp→s.heap.get? c=some o→h'.get? c=some o) :
  Inv X pins σ (upd H s.heap.objs.size (.tup [x,y])) { s with heap:=h',toks:=tk }:=by
 have hn:H s.heap.objs.size=none:=I.fresh
 have ne:∀b ob,s.heap.get? b=some ob→b≠s.heap.objs.size:=fun b ob e=>Qz (Qj e)
 have nt:∀b u,H b=some u→b≠s.heap.objs.size:=fun b u e=>Zb e hn
 have nfp:∀b u,H b=some u→b ∉ fp:=fun b u e hb=>by rw[(hf b hb).1]at e;cases e
 refine I.step (g':=s.gens) (d':=s.drawn) (ch:=fp) (fun b hb=>⟨(hf b hb).2.2.2.1,(hf b hb).2.1,(hf b hb).2.2.2.2.1,(hf b hb).2.2.2.2.2⟩)
  (fun b ob _ _ hc e _=>hk b ob hc e) (fun b ob _ _ hc e _=>⟨ob.slots,hk b ob hc e⟩) (fun b ob _ e n=>by rw[Zc (ne b ob e)];exact n) (fun b ob hc e=>⟨ob,hk b ob hc e⟩)
  (fun b xs e=>by rw[Zc (nt b _ e)];exact e) (fun b ob u e=>by rw[Zc (nt b _ e)];exact e) (fun b ps e=>⟨#[],by rw[Zc (nt b _ e),e];simp⟩) (fun m hm=>?_) (fun b ub e=>?_) I.bare
 ·obtain⟨ob,es,ep,ho,r⟩:=hm
  exact⟨ob,es,ep,hk _ ob (fun z=>(hf _ z).2.1 rfl) ho,r⟩
 ·by_cases hb:b=s.heap.objs.size
  ·subst hb
   rw[Zf]at e;cases e
   exact⟨by show 2≤sizeLine;decide,[u,v],.cons rx (.cons ry .nil),⟨_,hp,rfl,_,rfl⟩⟩
  ·rw[Zc hb]at e
   refine(I.hok b ub e).stay (fun c w' hc q=>hk c w' ?_ q) (fun c q=>by rw[Zc (nt c _ q)];exact q) fun c xs q=>by rw[Zc (nt c _ q)];exact q
   rcases hc with z|z
   ·rw[z];exact nfp b ub e
   ·exact nfp c _ z
end
def iZip(K:PySem.W.Frag)(ta:TA):TI:=fun σ H R=>ta σ H fun vs H1=>∃S1 S2 xs ys,vs=[Src.val S1,Src.val S2]∧S1.its K H1 xs∧S2.its K H1 ys∧R (Itz K S1 S2) H1
section
variable {X:Cx} (K:PySem.W.Frag)
theorem ixL(h:X.K=K:=by rfl):IxR X (Zo1 K):=by subst h;exact ZmZ
theorem ixT(h:X.K=K:=by rfl):IxR X (Zn4 K):=by subst h;exact Zoy
theorem slL(h:X.K=K:=by rfl):SlR X (Zo5 K):=by subst h;exact Znc
def ZpE:List V→Hp→VK→Prop:=fun xs H Q=>∃p ys,xs=[.ref p]∧(SqL K H p ys∨SqT K H p ys)∧Q (.int ys.length) H
theorem ZdO(h:X.K=K:=by rfl):ZaM X (.builtin "len") (ZpE K):=by subst h;exact ZgL
theorem Zmn(h:X.K=K:=by rfl):ZaM X (.builtin "isinstance") (Zpq K):=by subst h;exact Zlk
def rAllQ:List V→Hp→VK→Prop:=fun xs H Q=>∃ (p:Addr) (bs:List Bool),xs=[.ref p]∧SqL K H p (bs.map V.bl)∧Q (.bl (bs.all id)) H
def rSrtI:List V→Hp→VK→Prop:=fun xs H Q=>∃ (p:Addr) (ns:List Int),xs=[.ref p]∧SqL K H p (ns.map V.int)∧ns.length<64 ∧
  ∀ (l:Addr) (ns':List Int),H l=none→ns'.Perm ns→ns'.Pairwise (·≤·)→Q (.ref l) (upd H l (.lst (ns'.map V.int)))
def Zpn:List V→Hp→VK→Prop:=fun xs H Q=>∃ (p:Addr) (ss:List Str),xs=[.ref p]∧SqL K H p (ss.map V.str)∧ss.length<64 ∧
  ∀ (l:Addr) (ss':List Str),H l=none→ss'.Perm ss→sortedS ss'=true→Q (.ref l) (upd H l (.lst (ss'.map V.str)))
theorem Zqx(h:X.K=K:=by rfl):ZaM X (.builtin "sorted") (Zpn K):=by subst h;exact ZgK
def Zpi:V→List V→Hp→VK→Prop:=fun x vs H Q=>∃ (sep:Str) (p:Addr) (ys:List Str),x=.str sep∧vs=[.ref p]∧SqL K H p (ys.map V.str)∧(ys.map (·.length)).sum+ys.length*sep.length≤16777216∧Q (.str (Txt.join sep ys)) H
theorem ZnG(h:X.K=K:=by rfl):MtR X "str.join" (Zpi K):=by subst h;exact Znd
theorem iL{tg l:Expr}{tl:TE}(hl:PE X l tl)(h:X.K=K:=by rfl):PI X tg l (ZnJ K tl):=by subst h;exact Zni hl
theorem gT{es:List Expr}{k:Nat}{t:TGs}{n:Nat}{pos:Pos}(h:PGs X es t)(hK:X.K=K:=by rfl)(hc:X.calm=true:=by rfl)
  (hn:(assignEach es X.env).length=n:=by rfl) (hst:(assignEach es X.env).findIdx? (·.1)=none:=by rfl):PG X (.Tuple es k pos) (ZpR K n t):=by subst hK;exact Zot hc h hn hst
end
structure Df (P:Program) (w:World) (K:PySem.W.Frag) (mg:Str→Option Value) (base:Heap) (k:Nat) (x:Str) (ps:List Str) (sp:Sp):Prop where
 ex:∃f fd,ZdB P w K mg base CX0 k f fd ps sp∧mg x=some (.ref f)∧PySem.W.keepIn K (.ref f)=true∧ZbW K fd ps []
section
variable {P:Program} {w:World} {K:PySem.W.Frag} {mg:Str→Option Value} {base:Heap}
structure Top (K:PySem.W.Frag) (mg:Str→Option Value) (x:Str) (st:Stmt) (ps:List Str):Prop where
 ex:∃f fd,Fun K x x st f fd∧mg x=some (.ref f)∧ZbW K fd ps []
theorem Top.df{x:Str}{st:Stmt}{N ps:List Str}{k:Nat}{sp:Sp}(T:Top K mg x st ps)(S:Zs N ps (Ze st))(len:∀vs H Q E,sp vs H Q E→vs.length=ps.length)
  (hbody:∀ (cdv:Value) (f:Addr) (A:Around) (outer:List Env) (s:Shared) (H:Hp) (vs:List V) (Q:VK) (E:XK),ZaF k (A.deeper (envOfC x (Ze st) s.heap.objs.size f cdv))→sp vs H Q E →
   ∃t,PSs (ZgV CX0 P w K mg base N x (Ze st) f cdv A outer s H E).nox (Zm st) t∧t { nx:=fun _ H'=>Q .non H',rt:=Q } (Zc6 N vs) H):Df P w K mg base (k+1) x ps sp:=by
 obtain⟨f,fd,F,m,b⟩:=T.ex
 exact⟨f,fd,F.ok S len (fun cdv A outer s H vs Q E hr h=>hbody cdv f A outer s H vs Q E hr h),m,F.kp,b⟩
end
section
variable {X:Cx} {k j:Nat} {x:Str} {ps:List Str} {sp:Sp} {e:Expr} {es:List Expr} {t:TA} {p pos:Pos}
theorem ZC(F:Df X.prog X.w X.K X.mg X.base k x ps sp)(hr:ZaF j X.A)(ha:PA X (e::es) t)(hjk:k≤j:=by decide)(hg:Gl X x:=by rfl)(hdb:(x == ("__debug__" : Str))=false:=by decide)
  (he:starEach (e::es) X.env=(false,eval e X.env)::starEach es X.env:=by rfl) (hpl:(backTo pos (starEach es X.env)).any (·.1)=false:=by rfl) :
  PE X (.Call (.Name x p) (e::es) [] pos) (ZnE sp [] E0 t):=by
 obtain⟨f,fd,F,m,kp,b⟩:=F.ex
 exact Znk F (hr.mono hjk) hg m kp b .nil Zjx ha hdb he hpl
theorem Zjp{T:String}(hm:X.mg x=none)(hv:bootBuiltins x=some (.type T))(hg:Gl X x:=by rfl)(hn:x ≠ "__name__":=by decide)(hd:(x == ("__debug__" : Str))=false:=by decide):PE X (.Name x pos) (tC (.ty T)) :=
 Zmw hg hm hv rfl hn hd
end
theorem ZdR{lo:Int}{n k:Nat}{D:Addr}{σ:St}{H1:Hp}{g:TG}{te:TE}{Q:VK}(Pv:Nat→List V→St→Hp→Prop)(h0:Pv 0 [] (σ++List.replicate k none) (upd H1 D (.lst [])))
  (hs:∀i ys σ H,i<n→Pv i ys σ H→g (.int (lo+i)) σ H fun σ4 H4=>te σ4 H4 fun y H6=>H6 D=some (.lst ys)∧ys.length<sizeLine∧Pv (i+1) (ys++[y]) σ4 (upd H6 D (.lst (ys++[y]))))
  (hd:∀ys σ H,Pv n ys σ H→Q (.ref D) H):Zet (Itr lo n) D k σ H1 g Zix te Q:=by
 refine⟨fun i m ys σ H=>m=n-i∧i≤n∧Pv i ys σ H,⟨n,by simp,Qn _,h0⟩,?_⟩
 rintro i m ys σ H ⟨rfl,hi,p⟩
 by_cases hlt:i<n
 ·refine .inr ⟨hlt,Pv (i+1),fun ys' σ' H' p'=>⟨n-(i+1),by omega,rfl,hlt,p'⟩,fun x H' y=>?_⟩
  obtain⟨e,y⟩:=y
  subst e y
  simp only[Zix,↓reduceIte]
  exact hs i ys σ _ hlt p
 ·have e:i=n:=by omega
  subst e
  exact .inl ⟨Qg _,hd ys σ H p⟩
section
variable {X:Cx} {N N':List Str} {o c:Scope} {x:Str} {pos:Pos} {C:Addr} {s:Shared} {H:Hp} {fp:List Addr}
theorem ZdM(S:ZY N N' o c)(ho:X.env.scope=o)(hl:c.names.lookup x=some .local):(ZR X c N' C s H fp).env.scope.names.lookup x=some .local:=by
 have e:=Zch (X:=X) S ho (Zar X.env.cells c.names []) C x
 rw[hl]at e
 exact e
theorem Zcj(S:ZY N N' o c)(ho:X.env.scope=o)(hl:c.names.lookup x=some .globalImplicit):Gl (ZR X c N' C s H fp) x:=by
 have e:=Zch (X:=X) S ho (Zar X.env.cells c.names []) C x
 rw[hl]at e
 exact e
theorem ZlQ(S:ZY N N' o c)(ho:X.env.scope=o)(hl:c.names.lookup x=some .free):Vis (ZR X c N' C s H fp).env.scope x:=by
 have e:=Zch (X:=X) S ho (Zar X.env.cells c.names []) C x
 rw[hl]at e
 have e':(ZR X c N' C s H fp).env.scope.names.lookup x=if X.env.kindOf x=some .cell then some NameKind.cell else some NameKind.free:=e
 by_cases z:X.env.kindOf x=some .cell
 ·rw[if_pos z]at e';exact .inr (.inl e')
 ·rw[if_neg z]at e';exact .inr (.inr e')
theorem cv(i:Nat)(S:ZY N N' o c)(ho:X.env.scope=o)(hl:c.names.lookup x=some .free)(hN:N'[i]? = some x:=by rfl)(hd:(x == ("__debug__" : Str))=false:=by decide)(hcd:(x == ("__classdict__" : Str))=false:=by decide) :
  PE (ZR X c N' C s H fp) (.Name x pos) (ZnB i):=Zib hN (ZlQ S ho hl) hd hcd
theorem cw(i:Nat)(S:ZY N N' o c)(ho:X.env.scope=o)(hl:c.names.lookup x=some .local)(hN:N'[i]? = some x:=by rfl)(hd:(x == ("__debug__" : Str))=false:=by decide)(hcd:(x == ("__classdict__" : Str))=false:=by decide) :
  PE (ZR X c N' C s H fp) (.Name x pos) (ZnB i):=Zib hN (.inl (ZdM S ho hl)) hd hcd
theorem cg(i:Nat)(S:ZY N N' o c)(ho:X.env.scope=o)(hl:c.names.lookup x=some .local)(hi:N'[i]? = some x:=by rfl):PG (ZR X c N' C s H fp) (.Name x pos) (Zhv i) :=
 ZJ S.nd hi (.inl (ZdM S ho hl)) (.inr (ZdM S ho hl))
end
mutual
inductive DV (K:PySem.W.Frag) (H:Hp):V→PyData→Prop where
 | non:DV K H .non .none
 | bl (b:Bool):DV K H (.bl b) (.bool b)
 | int (i:Int):DV K H (.int i) (.int i)
 | str (s:Str):DV K H (.str s) (.str s)
 | lst {a:Addr} {xs:List V} {ds:List PyData}:SqL K H a xs→DVs K H xs ds→DV K H (.ref a) (.list ds)
 | tup {a:Addr} {xs:List V} {ds:List PyData}:SqT K H a xs→DVs K H xs ds→DV K H (.ref a) (.tuple ds)
inductive DVs (K:PySem.W.Frag) (H:Hp):List V→List PyData→Prop where
 | nil:DVs K H [] []
 | cons {x:V} {d:PyData} {xs:List V} {ds:List PyData}:DV K H x d→DVs K H xs ds→DVs K H (x::xs) (d::ds)
end
section
variable {X:Cx} {pins:List (Addr×Obj)} {σ:St} {H:Hp} {s:Shared}
mutual
theorem Inv.reads(I:Inv X pins σ H s):∀ {x:V} {d:PyData} {u:Value},DV X.K H x d→Zy x u→∃as,Reads s.heap u d as
 | _,_,_,.non,r=>by cases r;exact⟨_,.none⟩
 | _,_,_,.bl b,r=>by cases r;exact⟨_,.bool b⟩
 | _,_,_,.int i,r=>by obtain⟨t,rfl⟩:=r;exact⟨_,.int i t⟩
 | _,_,_,.str z,r=>by obtain⟨t,rfl⟩:=r;exact⟨_,.str z t⟩
 | _,_,_,.lst h hs,r=>by
  cases r
  obtain⟨its,rv,⟨o,n,e,hc,_,hd⟩,_⟩:=I.list h
  obtain⟨as,q⟩:=Inv.readsAll I hs rv
  exact⟨_,reads_list_at e hc hd (by simpa using q)⟩
 | _,_,_,.tup h hs,r=>by
  cases r
  obtain⟨its,rv,⟨o,e,hc,n,hd⟩,_⟩:=I.tuple h
  obtain⟨as,q⟩:=Inv.readsAll I hs rv
  exact⟨_,reads_tuple_at e hc hd (by simpa using q)⟩
theorem Inv.readsAll(I:Inv X pins σ H s):∀ {xs:List V} {ds:List PyData} {us:List Value},DVs X.K H xs ds→ZB xs us→∃as,ReadsAll s.heap us ds as
 | _,_,_,.nil,r=>by cases r;exact⟨_,.nil⟩
 | _,_,_,.cons h hs,r=>by
  cases r with
  | cons r1 r2 =>
   obtain⟨as,q1⟩:=Inv.reads I h r1
   obtain⟨bs,q2⟩:=Inv.readsAll I hs r2
   exact⟨_,.cons q1 q2⟩
end
def ZmQ(K:PySem.W.Frag)(neg:Bool):R2:=fun x y H Q=>∃d e,DV K H x d∧DV K H y e∧SeqAt.shaped d=true∧SeqAt.shaped e=true∧Q (.bl (if neg then !PyData.eqv d e else PyData.eqv d e)) H
theorem ZoK(hu:X.A.units+64<cLine):OpR X (compareOp .Eq) (ZmQ X.K false):=by
 intro pins s σ H x y v u Q I rx ry h
 obtain⟨d,e,h1,h2,s1,s2,q⟩:=h
 obtain⟨as,r1⟩:=I.reads h1 rx
 obtain⟨bs,r2⟩:=I.reads h2 ry
 exact eq_dataH r1 r2 s1 s2 hu ⟨.bl _,H,I,rfl,q⟩
theorem Zn9(hu:X.A.units+64<cLine):OpR X (compareOp .NotEq) (ZmQ X.K true):=by
 intro pins s σ H x y v u Q I rx ry h
 obtain⟨d,e,h1,h2,s1,s2,q⟩:=h
 obtain⟨as,r1⟩:=I.reads h1 rx
 obtain⟨bs,r2⟩:=I.reads h2 ry
 exact ne_dataH r1 r2 s1 s2 hu ⟨.bl _,H,I,rfl,q⟩
end
theorem eqD{X:Cx}(K:PySem.W.Frag){k:Nat}(hr:ZaF k X.A)(h:X.K=K:=by rfl):OpR X (compareOp .Eq) (ZmQ K false):=by subst h;exact ZoK hr.units
theorem neD{X:Cx}(K:PySem.W.Frag){k:Nat}(hr:ZaF k X.A)(h:X.K=K:=by rfl):OpR X (compareOp .NotEq) (ZmQ K true):=by subst h;exact Zn9 hr.units
mutual
theorem DV.mono{K:PySem.W.Frag}{H H':Hp}(s:Zz H H'):∀ {x:V} {d:PyData},DV K H x d→DV K H' x d
 | _,_,.non=>.non
 | _,_,.bl b=>.bl b
 | _,_,.int i=>.int i
 | _,_,.str z=>.str z
 | _,_,.lst h hs=>.lst (s.seq h) (DVs.mono s hs)
 | _,_,.tup h hs=>.tup (by
   rcases h with(h|⟨ob,h⟩)|h
   ·exact .inl (.inl (s _ _ h))
   ·exact .inl (.inr ⟨ob,s _ _ h⟩)
   ·exact .inr h) (DVs.mono s hs)
theorem DVs.mono{K:PySem.W.Frag}{H H':Hp}(s:Zz H H'):∀ {xs:List V} {ds:List PyData},DVs K H xs ds→DVs K H' xs ds
 | _,_,.nil=>.nil
 | _,_,.cons h hs=>.cons (DV.mono s h) (DVs.mono s hs)
end
def Ite(K:PySem.W.Frag)(a:Addr):It :=
 ⟨fun i H=>∃xs,SqL K H a xs∧i<xs.length,
  fun i H v H'=>∃p,H p=none∧v=.ref p∧∀xs,SqL K H a xs→∀x,xs[i]? = some x→H'=upd H p (.tup [.int i,x]),
  fun i H=>∃xs,SqL K H a xs∧xs.length≤i⟩
theorem Zkn{P:Program}{w:World}{K:PySem.W.Frag}{elts:List Expr}{x1:Nat}{tpos:Pos}{a e it:Addr}(hne:e≠it) :
  Zkp P w K (.Tuple elts x1 tpos) (Ite K a) [e,it] e (fun i h=>(∃old,IsEnum h e it i old)∧h.IsListIter it a i) where
 mem:=by simp
 obj:=fun i h st b hb=>by
  obtain⟨⟨old,he⟩,o,hit,hc,hd⟩:=st
  simp only[List.mem_cons,List.not_mem_nil,or_false]at hb
  rcases hb with rfl|rfl
  ·exact⟨_,he,fun v z=>by cases z⟩
  ·exact⟨o,hit,fun v z=>by rw[hd]at z;cases z⟩
 keep:=fun i h h' st k=>by
  obtain⟨⟨old,he⟩,hit⟩:=st
  exact⟨⟨old,k e (by simp) _ he⟩,hit.at fun o q=>k it (by simp) o q⟩
 item:=by
  intro X hP hw hK hc i pins s σ H E I hf st hg
  subst hP hw hK
  obtain⟨⟨old,he⟩,hit⟩:=st
  obtain⟨xs,q1,l1⟩:=hg
  obtain⟨its,rv,pl,_⟩:=I.list q1
  obtain⟨u,hu,ru⟩:=rv.get (Qb l1)
  refine wpAny_pyNext_enum_item he hit pl.isList (x:=u) (by simpa using hu) hne fun h' a1 a2 a3 a4 a5=>?_
  have lt:∀ {b:Addr} {o:Obj},s.heap.get? b=some o→s.heap.objs.size≠b:=fun q=>Qaf (Qj q)
  have hes:s.heap.objs.size≠e:=lt he
  refine⟨_,rfl,wpAny_letOwnedTupleGo_enum a1 fun h'' he'' hs''=>?_⟩
  have hs':Heap.SameBut e h' h'':=hs''
  have hit'':h''.IsListIter it a (i+1):=a2.extBut hs'.extBut hne.symm
  have I2:Inv X pins σ (upd H s.heap.objs.size (.tup [.int i,xs[i]])) { s with heap:=h'',toks:=s.toks+1 }:=by
   refine I.zipped (fp:=[e,it]) (u:=.int i s.toks) (v:=u) hf ⟨_,rfl⟩ ru (hs'.extBut _ _ hes a3) (fun b hb=>?_) fun c o hc q=>?_
   ·simp only[List.mem_cons,List.not_mem_nil,or_false]at hb
    rcases hb with rfl|rfl
    ·exact⟨_,he''⟩
    ·obtain⟨o,q,_⟩:=hit'';exact⟨o,q⟩
   ·simp only[List.mem_cons,List.not_mem_nil,or_false,not_or]at hc
    exact hs'.extBut _ _ hc.1 (a5 c o hc.1 hc.2 q)
  refine⟨.ref s.heap.objs.size,_,I2,rfl,⟨s.heap.objs.size,I.fresh,rfl,fun xs' w1 x' e1=>?_⟩,⟨⟨_,he''⟩,hit''⟩,fun b hb=>?_⟩
  ·have e3:=I.list_inj w1 q1
   subst e3
   rw[Qb l1]at e1
   cases e1
   rfl
  ·rw[Zc (fun z=>by
    obtain⟨o,q⟩:∃o,s.heap.get? b=some o:=by
     simp only[List.mem_cons,List.not_mem_nil,or_false]at hb
     rcases hb with rfl|rfl
     ·exact⟨_,he⟩
     ·obtain⟨o,q,_⟩:=hit;exact⟨o,q⟩
    exact lt q z.symm)]
   exact(hf b hb).1
 done:=by
  intro X hP hw hK hc i pins s σ H E I hf st hg
  subst hP hw hK
  obtain⟨⟨old,he⟩,hit⟩:=st
  obtain⟨xs,q1,l1⟩:=hg
  obtain⟨its,rv,pl,_⟩:=I.list q1
  obtain⟨f0,f1,f2,f3,f4,f5⟩:=hf it (by simp)
  have hl:=rv.length
  exact wpAny_pyNext_enum_end (I.ok.hd hc) he hit pl.isList (by rw[List.getElem?_toArray];exact Qab (by omega)) fun h' eb=>⟨rfl,I.turned (t':=s.toks) (fun b o hb q=>eb b o hb q) f0 f1 f3 f4 f5⟩
 self:=fun _ _ _ _ _ st h=>by obtain⟨⟨old,he⟩,_⟩:=st;exact wpAny_pyIter_enum he h
def ZnL(K:PySem.W.Frag)(ta:TA):TI:=fun σ H R=>ta σ H fun vs H1=>∃a xs,vs=[V.ref a]∧SqL K H1 a xs∧R (Ite K a) H1
theorem Zmm{X:Cx}{l:Expr}{ta:TA}{p pos:Pos}{elts:List Expr}{x1:Nat}{tpos:Pos}(hg:Gl X "enumerate")(hm:X.mg "enumerate" = none)(ha:PA X [l] ta)
  (hs:starEach [l] X.env=[(false,eval l X.env)]:=by rfl):PI X (.Tuple elts x1 tpos) (.Call (.Name "enumerate" p) [l] [] pos) (ZnL X.K ta):=by
 intro pins s σ H R I h
 refine Call_ (ZdT I hg hm boot_enumerate (QZ (thn (ha pos pins s σ H _ I h) fun us s1 ⟨vs,H1,I1,r1,q1⟩=>?_) hs rfl))
 obtain⟨a,xs,e,y1,q⟩:=q1
 subst e
 obtain⟨u,rfl,ru⟩:=r1.one
 cases ru
 obtain⟨its,rv,pl,_⟩:=I1.list y1
 refine call_enumerate_list pl.isList fun h' he hit hsz hk=>wpAny_pyIter_enum he ?_
 have I2:Inv X pins σ H1 { s1 with heap:=h' }:=I1.kept (t':=s1.toks) hk
 refine⟨_,_,_,_,H1,rfl,I2,Zkn (a:=a) (e:=s1.heap.objs.size+1) (it:=s1.heap.objs.size) (Qaf (Nat.lt_succ_self _)),⟨⟨_,he⟩,hit⟩,fun b hb=>?_,q⟩
 have hb':s1.heap.objs.size≤b:=by
  simp only[List.mem_cons,List.not_mem_nil,or_false]at hb
  rcases hb with rfl|rfl
  ·exact Nat.le_add_right _ 1
  ·exact Qg _
 exact I1.fpOk hb' (I1.hok.fresh hb')
theorem iE{X:Cx}(K:PySem.W.Frag){l:Expr}{ta:TA}{p pos:Pos}{elts:List Expr}{x1:Nat}{tpos:Pos}(hm:X.mg "enumerate" = none)(ha:PA X [l] ta)(hg:Gl X "enumerate":=by rfl)(hK:X.K=K:=by rfl)
  (hs:starEach [l] X.env=[(false,eval l X.env)]:=by rfl):PI X (.Tuple elts x1 tpos) (.Call (.Name "enumerate" p) [l] [] pos) (ZnL K ta):=by subst hK;exact Zmm hg hm ha hs
theorem Zhg{K:PySem.W.Frag}{a:Addr}{xs:List V}{g:TG}{tb:TS}{D:ZeV}{σ:St}{H:Hp}(Pv:Nat→St→Hp→Prop)(h0:Pv 0 σ H)(hl:∀i σ H,Pv i σ H→SqL K H a xs)
  (hs:∀i x σ H p,xs[i]? = some x→Pv i σ H→H p=none→g (.ref p) σ (upd H p (.tup [.int i,x])) fun σ2 H2=>tb { D with nx:=Pv (i+1),ct:=Pv (i+1),bk:=D.nx } σ2 H2) (hd:∀σ H,Pv xs.length σ H→D.nx σ H) :
  ∃W:Nat→Nat→St→Hp→Prop,(∃m,W 0 m σ H)∧∀i m σ H,W i m σ H →
   ((Ite K a).stop i H∧D.nx σ H)∨((Ite K a).go i H∧∃N:St→Hp→Prop,(∀σ' H',N σ' H'→∃m',m'<m∧W (i+1) m' σ' H')∧∀x H',(Ite K a).yld i H x H'→g x σ H' fun σ2 H2=>tb { D with nx:=N,ct:=N,bk:=D.nx } σ2 H2):=by
 refine⟨fun i m σ H=>m=xs.length-i∧i≤xs.length∧Pv i σ H,⟨xs.length,by simp,Qn _,h0⟩,?_⟩
 rintro i m σ H ⟨rfl,hi,p⟩
 have q1:=hl i σ H p
 by_cases hlt:i<xs.length
 ·refine .inr ⟨⟨xs,q1,hlt⟩,Pv (i+1),fun σ' H' p'=>⟨xs.length-(i+1),by omega,rfl,hlt,p'⟩,fun x H' y=>?_⟩
  obtain⟨r,hr,rfl,e⟩:=y
  have e':=e xs q1 _ (Qb hlt)
  subst e'
  exact hs i _ σ H r (Qb hlt) p hr
 ·have e:i=xs.length:=by omega
  exact .inl ⟨⟨xs,q1,by omega⟩,hd σ H (e ▸ p)⟩
def rMinL(K:PySem.W.Frag):List V→Hp→VK→Prop:=fun vs H Q=>∃ (p:Addr) (ns:List Int),vs=[.ref p]∧SqL K H p (ns.map V.int)∧0<ns.length∧∀M,M∈ns→(∀a∈ns,M≤a)→Q (.int M) H
def ZoQ(K:PySem.W.Frag):List V→Hp→VK→Prop:=fun xs H Q=>∃p ys,xs=[.ref p]∧(SqL K H p ys∨SqT K H p ys)∧∀l,H l=none→Q (.ref l) (upd H l (.lst ys))
theorem ZpX{X:Cx}(K:PySem.W.Frag)(h:X.K=K:=by rfl):ZaM X (.type "list") (ZoQ K):=by subst h;exact ZgA
section
variable {prog:Program} {w:World} {A:Around} {E:Value→Shared→Prop} {s:Shared}
end
def gLst(K:PySem.W.Frag)(n:Nat)(t:TGs):TG:=fun v σ H Q=>∃a xs,v=.ref a∧SqL K H a xs∧xs.length=n∧t xs σ H Q
def ZpN(xs:List V)(lo hi:Option Int)(st:Int):List V :=
 (sliceRange (sliceBounds lo hi (some st) xs.length).1 (sliceBounds lo hi (some st) xs.length).2.1 (sliceBounds lo hi (some st) xs.length).2.2).filterMap fun i=>xs[i]?
def SlRS(X:Cx)(r:V→Option Int→Option Int→Int→Hp→VK→Prop):Prop :=
 ∀ (pins:List (Addr×Obj)) (s:Shared) (σ:St) (H:Hp) (x:V) (v vl vu vs:Value) (lo hi:Option Int) (st:Int) (sl:Addr) (Q:VK),Inv X pins σ H s→Zy x v→s.heap.IsSliceOf sl vl vu vs→IsPart vl lo→IsPart vu hi→IsPart vs (some st)→r x lo hi st H Q →
  ∃T id,typeLookup (.type T) "__getitem__" = pure (some (.builtin id))∧s.TypeIs v T∧wpAny (model X.prog X.w) X.A (getItem v (.ref sl)) (EP X pins σ Q) X.xe s
def tSlS(r:V→Option Int→Option Int→Int→Hp→VK→Prop)(te:TE)(tl th ts:TO):TE:=fun σ H Q=>te σ H fun x H1=>tl σ H1 fun l H2=>th σ H2 fun u H3=>ts σ H3 fun k H4=>∃i,k=some i∧r x l u i H4 Q
section
variable {X:Cx} {e st:Expr} {te:TE} {lo hi:Option Expr} {tl th ts:TO} {pos p2:Pos}
def rSlLS(K:PySem.W.Frag):V→Option Int→Option Int→Int→Hp→VK→Prop:=fun x lo hi st H Q=>∃a xs,x=.ref a∧SqL K H a xs∧st≠0∧∀p,H p=none→Q (.ref p) (upd H p (.lst (ZpN xs lo hi st)))
end
section
variable {X:Cx}
def rInsert:V→List V→Hp→VK→Prop:=fun x vs H Q=>∃l xs i y,x=.ref l∧vs=[.int i,y]∧H l=some (.lst xs)∧0≤i∧i≤xs.length∧xs.length<sizeLine∧Q .non (upd H l (.lst (xs.take i.toNat++y::xs.drop i.toNat)))
def rBits:V→List V→Hp→VK→Prop:=fun x vs H Q=>∃i,x=.int i∧vs=[]∧Q (.int (Builtin.Int.intBits i:Nat)) H
theorem inQ(K:PySem.W.Frag)(h:X.K=K:=by rfl):OpR X (compareOp .In) (rIn K false):=by subst h;exact Zke
def rTupQ(K:PySem.W.Frag):List V→Hp→VK→Prop:=fun xs H Q=>∃p ys,xs=[.ref p]∧((SqL K H p ys∧∀l,H l=none→Q (.ref l) (upd H l (.tup ys)))∨(SqT K H p ys∧Q (.ref p) H))
end
def Its(z:Str):It:=⟨fun i _=>i<z.cps.size,fun i H v H'=>H'=H∧∃c,z.cps[i]? = some c∧v=.str ⟨#[c]⟩,fun i _=>z.cps.size≤i⟩
section
variable {X:Cx} {tg:Expr}
def iStr(tl:TE):TI:=fun σ H R=>tl σ H fun x H1=>∃z,x=.str z∧R (Its z) H1
theorem ZoM:OpR X (compareOp .Is) (fun x y H Q=>∃a b,x=.bl a∧y=.bl b∧Q (.bl (decide (a=b))) H):=by
 intro pins s σ H x y v u Q I rx ry h
 obtain⟨a,b,rfl,rfl,q⟩:=h
 cases rx
 cases ry
 exact wpAny_is_plain rfl (ZM I q (by cases a<;>cases b<;>rfl))
theorem Znr:OpR X (compareOp .IsNot) (fun x y H Q=>∃a b,x=.bl a∧y=.bl b∧Q (.bl (!decide (a=b))) H):=by
 intro pins s σ H x y v u Q I rx ry h
 obtain⟨a,b,rfl,rfl,q⟩:=h
 cases rx
 cases ry
 exact wpAny_isNot_plain rfl (ZM I q (by cases a<;>cases b<;>rfl))
end
def Zqo:PyData→Str
 | .str z=>z
 | d=>d.shown
def rStrD(K:PySem.W.Frag):List V→Hp→VK→Prop:=fun xs H Q=>∃x d,xs=[x]∧DV K H x d∧PyData.layable0 d=true∧d.intsShort 13=true∧d.showable=true∧Q (.str (Zqo d)) H
def Zh6(kvs:List (List Key×V))(k:List Key):Option V:=(kvs.find? fun kv=>decide (kv.1=k)).map (·.2)
abbrev PairT(H:Hp):List (List Key×V)→List (List Key×Addr×Value)→Prop:=Paired fun (p:List Key×V) (q:List Key×Addr×Value)=>p.1=q.1∧H q.2.1=some (.tup (p.1.map kV))∧Zy p.2 q.2.2
section
variable {X:Cx} {pins:List (Addr×Obj)} {σ:St} {H:Hp} {s:Shared}
def Zps:TE:=fun _ H Q=>∀p,H p=none→Q (.ref p) (upd H p (.dT []))
theorem Zjj{pos:Pos}:PE X (.Dict [] [] pos) Zps:=by
 intro pins s σ H Q I h
 have hb:sysModules<s.heap.objs.size:=Qau (by decide) (show mainGlobals<s.heap.objs.size from(I.mod.glob.keeps I.bk).lt)
 refine wpAny_Dict_empty ⟨.ref s.heap.objs.size,upd H s.heap.objs.size (.dT []),?_,rfl,h _ (I.hok.fresh (Qg _))⟩
 refine I.laid (t':=s.toks) (fun _ _ q=>Qd _ q) (Qg _) ?_
 refine⟨Qn _,?_,[],.nil,_,#[],0,QA _ rfl,⟨rfl,rfl,rfl⟩,rfl,rfl,List.nodup_nil⟩
 exact beq_eq_false_iff_ne.mpr fun z=>Q1 _ (z ▸ hb)
end
def rSetDef:V→List V→Hp→VK→Prop:=fun x vs H Q=>∃d kvs b ks y,x=.ref d∧vs=[.ref b,y]∧H d=some (.dT kvs)∧H b=some (.tup (ks.map kV))∧kvs.length<sizeLine ∧
 (∀v,Zh6 kvs ks=some v→Q v H)∧(Zh6 kvs ks=none→Q y (upd H d (.dT (kvs++[(ks,y)]))))
def ZqM:List V→Hp→VK→Prop:=fun xs H Q=>∃j:Int,xs=[.int j]∧∀p,H p=none→Q (.ref p) (upd H p (.rng 0 j))
def ZqL:List V→Hp→VK→Prop:=fun xs H Q=>∃i j:Int,xs=[.int i,.int j]∧∀p,H p=none→Q (.ref p) (upd H p (.rng i j))
def Zek(lo:Int)(n:Nat):List Int:=(List.range n).map fun (k:Nat)=>lo+k
theorem Zeb(lo:Int)(n:Nat):(Zek lo n).length=n:=by simp[Zek]
def rListR:List V→Hp→VK→Prop:=fun xs H Q=>∃ (p:Addr) (lo hi:Int),xs=[.ref p]∧H p=some (.rng lo hi) ∧ -(2 ^ 62)≤lo∧lo<2 ^ 62 ∧ -(2 ^ 62)≤hi∧hi<2 ^ 62∧(hi-lo).toNat≤1000 ∧
 ∀l,H l=none→Q (.ref l) (upd H l (.lst ((Zek lo (hi-lo).toNat).map V.int)))
section
variable {prog:Program} {w:World} {A:Around} {E:Value→Shared→Prop} {s:Shared}
end
section
variable {X:Cx}
def rSlTS(K:PySem.W.Frag):V→Option Int→Option Int→Int→Hp→VK→Prop:=fun x lo hi st H Q=>∃a xs,x=.ref a∧SqT K H a xs∧lo=none∧hi=none∧st = -1∧∀p,H p=none→Q (.ref p) (upd H p (.tup xs.reverse))
def rExtendT(K:PySem.W.Frag):V→List V→Hp→VK→Prop:=fun x vs H Q=>∃l b xs zs,x=.ref l∧vs=[.ref b]∧H l=some (.lst xs)∧H b=some (.tup zs)∧xs.length+zs.length≤sizeLine∧Q .non (upd H l (.lst (xs++zs)))
def gSlice(to:TE)(tl th:TO):TG:=fun v σ H Q=>to σ H fun o H1=>tl σ H1 fun l H2=>th σ H2 fun u H3=>∃ (p b:Addr) (xs ys:List V) (a c:Int),o=.ref p∧v=.ref b∧l=some a∧u=some c∧H3 p=some (.lst xs)∧H3 b=some (.lst ys)∧p≠b∧0≤a∧a≤c∧c≤xs.length∧xs.length+ys.length≤sizeLine ∧
 Q σ (upd H3 p (.lst (xs.take a.toNat++ys++xs.drop c.toNat)))
def rSumB(K:PySem.W.Frag):List V→Hp→VK→Prop:=fun vs H Q=>∃ (p:Addr) (ns:List Int),vs=[.ref p]∧SqL K H p (ns.map V.int)∧ns.length≤1000∧(∀n∈ns,0≤n∧n≤10000000000)∧Q (.int ns.sum) H
theorem Zd0(ns:List Int):∀n,n≤ns.length→preSum (fun j=>ns.getD j 0) n=(ns.take n).sum
 | 0,_=>rfl
 | n+1,h=>by
  have ih:=Zd0 ns n (by omega)
  have e:ns.take (n+1)=ns.take n++[ns.getD n 0]:=by
   rw[QI,Qb (by omega),QC,Qb (by omega)]
   rfl
  rw[e,List.sum_append,← ih]
  simp[preSum]
end
section
variable {prog:Program} {w:World} {A:Around} {E:Value→Shared→Prop} {s:Shared} {κ:PyProof.Rows.KeyKind} {k0:SortKind} {a₀:Array Keyed} {st:SortSt}
def LtAt(prog:Program)(w:World)(A:Around)(s:Shared)(k0:SortKind)(κ:PyProof.Rows.KeyKind):Prop :=
 ∀ (E:Value→Shared→Prop) (x y:Value) (a b:κ.α) (Q:Bool→Shared→Prop),κ.keyOf x=some a→κ.keyOf y=some b→Q (κ.blt a b) s→wpAny (model prog w) A (keyLt' k0 x y) Q E s
structure SB (k0:SortKind) (a₀:Array Keyed) (st:SortSt):Prop where
 perm:(arrOf st).Perm a₀
 kind:kindOf st=k0
 failed:failedOf st=none
 pend:pendingOf st = #[]
theorem Zp4(st:SortSt)(xs:Array Keyed):arrOf (setArr st xs)=xs:=rfl
end
section
variable {prog:Program} {w:World} {A:Around} {E:Value→Shared→Prop} {s:Shared} {κ:PyProof.Rows.KeyKind}
end
def kLt:Key→Key→Bool
 | .inl i,.inl j=>decide (i<j)
 | .inr x,.inr y=>decide (x.cps.toList<y.cps.toList)
 | .inl _,.inr _=>true
 | .inr _,.inl _=>false
theorem ZiJ:∀a:Key,kLt a a=false
 | .inl i=>decide_eq_false (by omega)
 | .inr x=>decide_eq_false (List.lt_irrefl _)
theorem Zkf:∀a b c:Key,kLt a b=true→kLt b c=true→kLt a c=true
 | .inl i,.inl j,.inl k,h1,h2=>by have:=of_decide_eq_true h1;have:=of_decide_eq_true h2;exact decide_eq_true (by omega)
 | .inr x,.inr y,.inr z,h1,h2=>decide_eq_true (List.lt_trans (of_decide_eq_true h1) (of_decide_eq_true h2))
 | .inl _,.inl _,.inr _,_,_=>rfl
 | .inl _,.inr _,.inr _,_,_=>rfl
 | .inl _,.inr _,.inl _,_,h=>by cases h
 | .inr _,.inl _,_,h,_=>by cases h
 | .inr _,.inr _,.inl _,_,h=>by cases h
theorem Zj2:∀a b:Key,kLt a b=false→kLt b a=false→a=b
 | .inl i,.inl j,h1,h2=>by have:=of_decide_eq_false h1;have:=of_decide_eq_false h2;congr 1;omega
 | .inr x,.inr y,h1,h2=>by
  have a1:¬ x.cps.toList<y.cps.toList:=of_decide_eq_false h1
  have a2:¬ y.cps.toList<x.cps.toList:=of_decide_eq_false h2
  have e:x.cps.toList=y.cps.toList:=List.le_antisymm a2 a1
  obtain⟨xs⟩:=x
  obtain⟨ys⟩:=y
  congr 2
  exact Array.toList_inj.mp e
 | .inl _,.inr _,h,_=>by cases h
 | .inr _,.inl _,_,h=>by cases h
def ZaC:List Key→List Key→Bool
 | [],[]=>false
 | [],_::_=>true
 | _::_,[]=>false
 | x::xs,y::ys=>if x=y then ZaC xs ys else kLt x y
theorem Zdp(x y:Key)(xs ys:List Key):ZaC (x::xs) (y::ys)=if x=y then ZaC xs ys else kLt x y:=rfl
theorem ZbY:∀a:List Key,ZaC a a=false
 | []=>rfl
 | x::r=>by unfold ZaC;rw[if_pos rfl];exact ZbY r
theorem ZcR:∀a b c:List Key,ZaC a b=true→ZaC b c=true→ZaC a c=true
 | [],[],_,h,_=>by cases h
 | [],_::_,[],_,h=>by cases h
 | [],_::_,_::_,_,_=>rfl
 | _::_,[],_,h,_=>by cases h
 | _::_,_::_,[],_,h=>by cases h
 | x::r,y::s,z::t,h1,h2=>by
  have ih:=ZcR r s t
  unfold ZaC at h1 h2 ⊢
  by_cases e1:x=y
  ·rw[if_pos e1]at h1
   by_cases e2:y=z
   ·rw[if_pos e2]at h2
    rw[if_pos (e1.trans e2)]
    exact ih h1 h2
   ·rw[if_neg e2]at h2
    rw[if_neg (fun e=>e2 (e1.symm.trans e)),e1]
    exact h2
  ·rw[if_neg e1]at h1
   by_cases e2:y=z
   ·rw[if_neg (fun e=>e1 (e.trans e2.symm)),← e2]
    exact h1
   ·rw[if_neg e2]at h2
    have h3:=Zkf _ _ _ h1 h2
    rw[if_neg (fun e=>by rw[e,ZiJ]at h3;cases h3)]
    exact h3
theorem ZcN:∀a b:List Key,ZaC a b=false→ZaC b a=false→a=b
 | [],[],_,_=>rfl
 | [],_::_,h,_=>by cases h
 | _::_,[],_,h=>by cases h
 | x::r,y::s,h1,h2=>by
  unfold ZaC at h1 h2
  by_cases e:x=y
  ·rw[if_pos e]at h1
   rw[if_pos e.symm]at h2
   rw[e,ZcN r s h1 h2]
  ·rw[if_neg e]at h1
   rw[if_neg fun z=>e z.symm]at h2
   exact absurd (Zj2 _ _ h1 h2) e
theorem ZkB(a b c:List Key)(h:ZaC a c=true):ZaC a b=true∨ZaC b c=true:=by
 by_cases h1:ZaC a b=true
 ·exact .inl h1
 ·by_cases h2:ZaC b a=true
  ·exact .inr (ZcR _ _ _ h2 h)
  ·have e:=ZcN a b (by simpa using h1) (by simpa using h2)
   rw[← e];exact .inr h
def unV:V→Option Key
 | .int i=>some (.inl i)
 | .str x=>some (.inr x)
 | _=>none
def ZnN:List V→Option (List Key)
 | []=>some []
 | x::r=>(unV x).bind fun k=>(ZnN r).map (k::·)
def shape(ks:List Key):List Bool:=ks.map fun k=>k.isLeft
def Zpl(H:Hp)(sh:List Bool):Value→Option (List Key)
 | .ref a=>match H a with
  | some (.tup xs)=>(ZnN xs).bind fun ks=>if shape ks=sh then some ks else none
  | _=>none
 | _=>none
def tupKind(H:Hp)(sh:List Bool):PyProof.Rows.KeyKind:=⟨⟨List Key,ZaC,ZbY,ZcR,fun a b c h=>ZkB a b c h,ZcN⟩,Zpl H sh,[]⟩
section
variable {prog:Program} {w:World} {A:Around} {E:Value→Shared→Prop} {s:Shared}
end
section
variable {prog:Program} {w:World} {A:Around} {E:Value→Shared→Prop} {s:Shared}
end
abbrev Zcx:=List (Addr×List Key)
def ZdL(ts:Zcx):List V:=ts.map fun t=>V.ref t.1
def AtT(H:Hp)(ts:Zcx):Prop:=∀t∈ts,H t.1=some (.tup (t.2.map kV))
theorem Zgh:∀ {ts:Zcx} {us:List Value},ZB (ZdL ts) us→us=ts.map fun t=>Value.ref t.1
 | [],_,h=>by cases h;rfl
 | t::r,_,h=>by
  cases h with
  | cons a b=>rw[Zgh b];cases a;rfl
def rSrtT(K:PySem.W.Frag):List V→Hp→VK→Prop:=fun xs H Q=>∃ (p:Addr) (ts:Zcx) (sh:List Bool),xs=[.ref p]∧SqL K H p (ZdL ts)∧AtT H ts∧sh≠[]∧(∀t∈ts,shape t.2=sh)∧ts.length<64 ∧
 ∀ (l:Addr) (ts':Zcx),H l=none→ts'.Perm ts→ts'.Pairwise (fun a b=>ZaC b.2 a.2=false)→Q (.ref l) (upd H l (.lst (ZdL ts')))
theorem ZlD(A:Around)(s:Shared){k m:Key}{p q:Value}(hp:Zy (kV k) p)(hq:Zy (kV m) q)(hs:k.isLeft=m.isLeft):∃e,SeqAt.EqAt A s p q e∧(e=true↔k=m):=by
 cases k with
 | inl i =>
  cases m with
  | inl j =>
   obtain⟨t,rfl⟩:=hp
   obtain⟨u,rfl⟩:=hq
   exact⟨_,SeqAt.EqAt.int_int i t j u,by simp⟩
  | inr y=>cases hs
 | inr x =>
  cases m with
  | inl j=>cases hs
  | inr y =>
   obtain⟨t,rfl⟩:=hp
   obtain⟨u,rfl⟩:=hq
   exact⟨_,SeqAt.EqAt.str_str x t y u,by simp⟩
theorem ZlP(A:Around)(s:Shared){k m:Key}{p q:Value}(hp:Zy (kV k) p)(hq:Zy (kV m) q)(hs:k.isLeft=m.isLeft)(prog:Program)(w:World)(E:Value→Shared→Prop)(Q:Value→Shared→Prop)(h:Q (.bool (kLt k m)) s) :
  wpAny (model prog w) A (richCompare .Lt p q) Q E s:=by
 cases k with
 | inl i =>
  cases m with
  | inl j =>
   obtain⟨t,rfl⟩:=hp
   obtain⟨u,rfl⟩:=hq
   exact(PyProof.Rows.lt_int h:wpAny (model prog w) A (compareOp .Lt (.int i t) (.int j u)) Q E s)
  | inr y=>cases hs
 | inr x =>
  cases m with
  | inl j=>cases hs
  | inr y =>
   obtain⟨t,rfl⟩:=hp
   obtain⟨u,rfl⟩:=hq
   exact(PyProof.Rows.lt_str h:wpAny (model prog w) A (compareOp .Lt (.str x t) (.str y u)) Q E s)
section
open PySem.SeqAt
open PySem.AutoSeq1 (wpAny_loadPart')
open PySem.MeetsSeq PySem.MeetsSeq2 PySem.MeetsSeq3
theorem ZfV(l b:Addr)(items items2:Array Value)(n n2:Nat)(dd dd2:Option Addr)(sl sl2:Array (Option Value))(ks ms:List Key)(hi:ZB (ks.map kV) items.toList)(hj:ZB (ms.map kV) items2.toList)(hs:shape ks=shape ms) :
  Meets (Builtin.«tuple.__lt__» ⟨[.ref l,.ref b],[]⟩)
   (fun _ R s=>s.heap.get? l=some { cls:=.type "tuple",dict:=dd,data:=.seq items n,slots:=sl }∧s.heap.get? b=some { cls:=.type "tuple",dict:=dd2,data:=.seq items2 n2,slots:=sl2 } ∧
    R (.ok (.ret (.bool (ZaC ks ms)))) s) :=
 .of_wp fun prog w A R s h=>by
  obtain⟨hp,g,d,tk,os⟩:=s;obtain⟨hl,hb,h⟩:=h
  have f2:=AutoSeq1.sub_tuple_tuple
  have z1:items.size=ks.length:=by have:=hi.length;simpa using this.symm
  have z2:items2.size=ms.length:=by have:=hj.length;simpa using this.symm
  have z3:ks.length=ms.length:=by have:=congrArg List.length hs;simpa [shape] using this
  wp_walk using wpAny_loadPart' hl,wpAny_loadPart' hb,wpAny_forIn_list _ (fun rest b s'=>b.1=none∧s'=⟨hp,g,d,tk,os⟩∧∃ (vs ws:List Value) (ks' ms':List Key),rest=vs.zip ws ∧
   ZB (ks'.map kV) vs∧ZB (ms'.map kV) ws∧shape ks'=shape ms'∧R (.ok (.ret (.bool (ZaC ks' ms')))) ⟨hp,g,d,tk,os⟩) _
  case turn =>
   rintro⟨y,x⟩ rest b s' ⟨hb',rfl,vs,ws,ks',ms',hz,hvi,hwi,hsh,hR⟩
   cases ks' with
   | nil=>cases hvi;rw[List.zip_nil_left]at hz;cases hz
   | cons k1 kr =>
    cases ms' with
    | nil=>cases hsh
    | cons m1 mr =>
     cases hvi with
     | cons r1 rr =>
      cases hwi with
      | cons r1' rr' =>
       rw[List.zip_cons_cons]at hz
       injection hz with hyx hrest
       injection hyx with hy hx
       subst hy hx
       rw[Zdp]at hR
       unfold shape at hsh
       rw[Qe,Qe]at hsh
       injection hsh with s1 s2
       obtain⟨e,he,hiff⟩:=ZlD A.in1 ⟨hp,g,d,tk,os⟩ r1 r1' s1
       refine wpAny_bind (he prog w _ _ ?_)
       cases e with
       | true =>
        rw[if_pos (hiff.mp rfl)]at hR
        wp_walk
        exact⟨rfl,rfl,_,_,_,_,hrest,rr,rr',s2,hR⟩
       | false =>
        rw[if_neg (fun q=>absurd (hiff.mpr q) Qi)]at hR
        have hri:=ZlP A.in1 ⟨hp,g,d,tk,os⟩ r1 r1' s1 prog w
        wp_walk using hri
        exact⟨_,rfl,by simpa using hR⟩
  case fin =>
   rintro⟨b1,b2⟩ s' ⟨hb',rfl,vs,ws,ks',ms',hz,hvi,hwi,hsh,hR⟩
   simp only at hb'
   subst hb'
   have hv:ZaC ks' ms'=decide (items.size<items2.size):=by
    rw[decide_eq_false (by omega)]
    cases ks' with
    | nil =>
     cases ms' with
     | nil=>rfl
     | cons _ _=>cases hsh
    | cons k1 kr =>
     cases ms' with
     | nil=>cases hsh
     | cons m1 mr =>
      cases hvi with
      | cons r1 rr =>
       cases hwi with
       | cons r1' rr'=>rw[List.zip_cons_cons]at hz;cases hz
   rw[hv]at hR
   wp_walk
   exact⟨_,rfl,by simpa [Builtin.Tuple.tupleCompareSizes] using hR⟩
  case h =>
   exact⟨rfl,rfl,items.toList,items2.toList,ks,ms,rfl,hi,hj,hs,h⟩
end
section
variable {prog:Program} {w:World} {A:Around} {E:Value→Shared→Prop} {s:Shared}
theorem Zif{l b:Addr}{items items2:Array Value}{ks ms:List Key}{Q:Value→Shared→Prop}(hl:IsTup s.heap l items)(hb:IsTup s.heap b items2)(hi:ZB (ks.map kV) items.toList)(hj:ZB (ms.map kV) items2.toList)(hs:shape ks=shape ms)
  (hu:A.units<cLine) (h:Q (.bool (ZaC ks ms)) s):wpAny (model prog w) A (richCompare .Lt (.ref l) (.ref b)) Q E s:=by
 obtain⟨⟨cls,dd,data,sl⟩,ho,hc,n,hd⟩:=id hl
 obtain⟨⟨cls2,dd2,data2,sl2⟩,ho2,hc2,n2,hd2⟩:=id hb
 simp only at hc hd hc2 hd2
 subst hc hd hc2 hd2
 exact richCompare_meets_room (op:=.Lt) ⟨_,ho,rfl⟩ ⟨_,ho2,rfl⟩ PySem.F.slot_tuple_lt PySem.F.entry_tuple_lt (PySem.F.args_tuple_lt_2 _ _) (ZfV l b items items2 n n2 dd dd2 sl sl2 ks ms hi hj hs)
  ⟨ho,ho2,show Value.bool (ZaC ks ms)≠Value.notImplemented∧Q (.bool (ZaC ks ms)) s from⟨(fun x=>nomatch x),h⟩⟩ hu
end
section
variable {prog:Program} {w:World}
theorem ZjZ{A:Around}{a:Args}:(A.under (.builtin "min.loop" a)).units≤A.units+1:=by
 show A.units+(Code.builtin "min.loop" a).cUnits≤A.units+1
 first|exact Qg _|simp[Code.cUnits,Code.frames,Code.isFrame]
theorem ZfA{A:Around}{R:Result→Shared→Prop}{l I S:Addr}{ts:Zcx}{sh:List Bool}{h0:Heap}{kw:List (Str×Value)}(hh:A.handled=none)(hu:A.units+4<cLine)(hlist:h0.IsList l (ts.map fun t=>Value.ref t.1).toArray)
  (hI:h0.get? I=none) (hS:h0.get? S=none) (hSI:S≠I) (htup:∀t∈ts,∃its:List Value,ZB (t.2.map kV) its∧IsTup h0 t.1 its.toArray) (hsh:∀t∈ts,shape t.2=sh) (s0:Shared)
  (q:∀ (h':Heap) (t:Addr×List Key),(∀b o,h0.get? b=some o→h'.get? b=some o)→t∈ts→(∀u∈ts,ZaC u.2 t.2=false)→R (.ok (.ret (.ref t.1))) { s0 with heap:=h' }) :
  ∀ (k j:Nat) (h:Heap) (t:Addr×List Key) (c:Nat),ts.length-j=k→j≤ts.length→(∀b o,h0.get? b=some o→h.get? b=some o)→h.IsListIter I l j→h.get? S=some { cls:=.type "list",data:=.seq #[.ref t.1,.ref t.1] c }→t∈ts →
   (∀u∈ts.take j,ZaC u.2 t.2=false)→codeAny (model prog w) A (.builtin "min.loop" { pos:=[.ref I,.none,.ref S],kw:=kw }) R { s0 with heap:=h }
 | k,j,h,t,c,hk,hj,keep,hit,hst,htm,hbest=>by
  refine codeAny_builtin F.entry_min_loop ?_
  show wpAny _ _ (seqItems? (.ref S) >>= _) _ _ _
  refine wpAny_bind (wpAny_seqItems hst rfl ?_)
  have keepL:h.IsList l (ts.map fun t=>Value.ref t.1).toArray:=by
   obtain⟨o,ho,r⟩:=hlist
   exact⟨o,keep _ _ ho,r⟩
  by_cases hlt:j<ts.length
  ·have hx:((ts.map fun t=>Value.ref t.1).toArray)[j]? = some (Value.ref ts[j].1):=by simp[hlt]
   refine wpAny_bind (wpAny_tryCatch (wpAny_pyNext_list_item hit keepL hx fun h1 hit1 sb=>?_))
   have keep1:∀b o,h0.get? b=some o→h1.get? b=some o:=fun b o hb=>by
    have nb:b≠I:=fun e=>by rw[e,hI]at hb;cases hb
    rw[sb.2 b nb];exact keep b o hb
   have hst1:h1.get? S=some { cls:=.type "list",data:=.seq #[.ref t.1,.ref t.1] c }:=by rw[sb.2 S hSI];exact hst
   refine wpAny_bind (wpAny_pure ?_)
   have hjm:ts[j]∈ts:=QS hlt
   obtain⟨i1,v1,t1⟩:=htup _ hjm
   obtain⟨i2,v2,t2⟩:=htup _ htm
   have tup1:∀ {a:Addr} {its:List Value},IsTup h0 a its.toArray→IsTup h1 a its.toArray:=fun ⟨o,ho,hc⟩=>⟨o,keep1 _ _ ho,hc⟩
   have hsh1:shape ts[j].2=shape t.2:=(hsh _ hjm).trans (hsh _ htm).symm
   refine wpAny_bind (wpAny_tryCatch (wpAny_holding (wpAny_bind (Zif (tup1 t1) (tup1 t2) (by simpa using v1) (by simpa using v2) hsh1 (Nat.lt_of_le_of_lt ZjZ (by omega)) (wpAny_bind (wpAny_holding (wpAny_truthy_bool (wpAny_bind (wpAny_letGo (wpAny_pure ?_))))))))))
   cases hb:ZaC ts[j].2 t.2 with
   | true =>
    refine wpAny_bind (wpAny_updateSeq hst1 rfl ?_ (by show 2≤_;rw[sizeLine_eq];decide) (by show 2≤_;rw[sizeLine_eq];decide))
    refine wpAny_bind (wpAny_letGo (wpAny_pure ⟨rfl,?_⟩))
    refine ZfA hh hu hlist hI hS hSI htup hsh s0 q (k-1) (j+1) _ ts[j] c (by omega) (by omega) (fun b o hb'=>?_) ?_ ?_ hjm (fun u hu'=>?_)
    ·have nb:S≠b:=fun e=>by rw[← e,hS]at hb';cases hb'
     exact Q0 _ nb (keep1 b o hb')
    ·obtain⟨o,ho,r⟩:=hit1
     exact⟨o,Q0 _ hSI ho,r⟩
    ·have:=get?_update_seq (c := "list") hst1 (fun _=>#[.ref ts[j].1,.ref ts[j].1])
     simpa using this
    ·rw[QI,Qb hlt]at hu'
     rcases Qk.mp hu' with hu'|hu'
     ·have:=hbest u hu'
      cases hz:ZaC u.2 ts[j].2 with
      | false=>rfl
      | true=>rw[ZcR _ _ _ hz hb]at this;cases this
     ·have:u=ts[j]:=by simpa using hu'
      rw[this];exact ZbY _
   | false =>
    refine wpAny_bind (wpAny_letGo (wpAny_pure ⟨rfl,?_⟩))
    refine ZfA hh hu hlist hI hS hSI htup hsh s0 q (k-1) (j+1) h1 t c (by omega) (by omega) keep1 hit1 hst1 htm (fun u hu'=>?_)
    rw[QI,Qb hlt]at hu'
    rcases Qk.mp hu' with hu'|hu'
    ·exact hbest u hu'
    ·have:u=ts[j]:=by simpa using hu'
     rw[this];exact hb
  ·have hx:((ts.map fun t=>Value.ref t.1).toArray)[j]? = none:=by simp;omega
   refine wpAny_bind (wpAny_tryCatch (wpAny_pyNext_list_end hh hit keepL hx fun h1 eb=>?_))
   have hst1:h1.get? S=some { cls:=.type "list",data:=.seq #[.ref t.1,.ref t.1] c }:=eb S _ hSI hst
   refine wpAny_bind (wpAny_updateSeq hst1 rfl ?_ (by show 2≤_;rw[sizeLine_eq];decide) (by show 0≤_;omega))
   refine wpAny_bind (wpAny_letGo (wpAny_pure ?_))
   refine q _ t (fun b o hb=>?_) htm (fun u hu'=>hbest u (by rw[Qx (by omega)];exact hu'))
   have nb:S≠b:=fun e=>by rw[← e,hS]at hb;cases hb
   have nI:b≠I:=fun e=>by rw[e,hI]at hb;cases hb
   exact Q0 _ nb (eb b o nI (keep b o hb))
termination_by k=>k
theorem ZjU{A:Around}{R:Result→Shared→Prop}{l I S:Addr}{ts:Zcx}{sh:List Bool}{h0 h:Heap}{c:Nat}{kw:List (Str×Value)}(hh:A.handled=none)(hu:A.units+4<cLine)(hlist:h0.IsList l (ts.map fun t=>Value.ref t.1).toArray)
  (hI:h0.get? I=none) (hS:h0.get? S=none) (hSI:S≠I) (htup:∀t∈ts,∃its:List Value,ZB (t.2.map kV) its∧IsTup h0 t.1 its.toArray) (hsh:∀t∈ts,shape t.2=sh) (s0:Shared) (keep:∀b o,h0.get? b=some o→h.get? b=some o) (hit:h.IsListIter I l 0) (hst:h.get? S=some { cls:=.type "list",data:=.seq #[] c })
  (hne:ts≠[]∨∃n d kr,kw=(n,d)::kr∧∀h':Heap,(∀b o,h0.get? b=some o→h'.get? b=some o)→R (.ok (.ret d)) { s0 with heap:=h' })
  (q:∀ (h':Heap) (t:Addr×List Key),(∀b o,h0.get? b=some o→h'.get? b=some o)→t∈ts→(∀u∈ts,ZaC u.2 t.2=false)→R (.ok (.ret (.ref t.1))) { s0 with heap:=h' }) :
  codeAny (model prog w) A (.builtin "min.loop" { pos:=[.ref I,.none,.ref S],kw:=kw }) R { s0 with heap:=h }:=by
 refine codeAny_builtin F.entry_min_loop ?_
 show wpAny _ _ (seqItems? (.ref S) >>= _) _ _ _
 refine wpAny_bind (wpAny_seqItems hst rfl ?_)
 have keepL:h.IsList l (ts.map fun t=>Value.ref t.1).toArray:=by
  obtain⟨o,ho,r⟩:=hlist
  exact⟨o,keep _ _ ho,r⟩
 cases ts with
 | nil =>
  obtain⟨n,d,kr,rfl,q0⟩:=hne.resolve_left (by simp)
  refine wpAny_bind (wpAny_tryCatch (wpAny_pyNext_list_end hh hit keepL (by simp) fun h1 eb=>?_))
  show wpAny _ _ (rule _ >>= _) _ _ _
  refine wpAny_bind (wpAny_rule (wpAny_pure ?_))
  refine q0 _ fun b o hb=>?_
  have nI:b≠I:=fun e=>by rw[e,hI]at hb;cases hb
  exact eb b o nI (keep b o hb)
 | cons t r =>
  refine wpAny_bind (wpAny_tryCatch (wpAny_pyNext_list_item hit keepL (x:=.ref t.1) (by simp) fun h1 hit1 sb=>?_))
  have keep1:∀b o,h0.get? b=some o→h1.get? b=some o:=fun b o hb=>by
   have nb:b≠I:=fun e=>by rw[e,hI]at hb;cases hb
   rw[sb.2 b nb];exact keep b o hb
  have hst1:h1.get? S=some { cls:=.type "list",data:=.seq #[] c }:=by rw[sb.2 S hSI];exact hst
  refine wpAny_bind (wpAny_pure ?_)
  show wpAny _ _ (updateSeq S _ >>= _) _ _ _
  refine wpAny_bind (wpAny_updateSeq hst1 rfl ?_ (by show 0≤_;omega) (by show 2≤_;rw[sizeLine_eq];decide))
  refine wpAny_pure ⟨rfl,?_⟩
  refine ZfA hh hu hlist hI hS hSI htup hsh s0 q _ 1 _ t (c+1) rfl (by simp) (fun b o hb'=>?_) ?_ ?_ (by simp) (fun u hu'=>?_)
  ·have nb:S≠b:=fun e=>by rw[← e,hS]at hb';cases hb'
   exact Q0 _ nb (keep1 b o hb')
  ·obtain⟨o,ho,r⟩:=hit1
   exact⟨o,Q0 _ hSI ho,r⟩
  ·have:=get?_update_seq (c := "list") hst1 (fun _=>#[.ref t.1,.ref t.1])
   simpa using this
  ·have:u=t:=by simpa using hu'
   rw[this];exact ZbY _
end
section
variable {X:Cx}
def rMinT(K:PySem.W.Frag):List V→Hp→VK→Prop:=fun vs H Q=>∃ (p:Addr) (ts:Zcx) (sh:List Bool),vs=[.ref p]∧SqL K H p (ZdL ts)∧AtT H ts∧ts≠[]∧(∀t∈ts,shape t.2=sh) ∧
 ∀t:Addr×List Key,t∈ts→(∀u∈ts,ZaC u.2 t.2=false)→Q (.ref t.1) H
theorem Zkz{prog:Program}{w:World}{A:Around}{R:Result→Shared→Prop}{s:Shared}{l:Addr}{ts:Zcx}{sh:List Bool}{kw:List (Str×Value)}{kw2:List (Str×Value)}(hh:A.handled=none)(hu:A.units+4<cLine)(hlist:s.heap.IsList l (ts.map fun t=>Value.ref t.1).toArray)
  (hkw:(kw=[]∧kw2=[])∨∃d,kw=[(Str.ofString "default",d)]∧kw2=[(Str.ofString "default",d)])
  (htup:∀t∈ts,∃its:List Value,ZB (t.2.map kV) its∧IsTup s.heap t.1 its.toArray) (hsh:∀t∈ts,shape t.2=sh)
  (hne:ts≠[]∨∃n d kr,kw2=(n,d)::kr∧∀h':Heap,(∀b o,s.heap.get? b=some o→h'.get? b=some o)→R (.ok (.ret d)) { s with heap:=h' })
  (q:∀ (h':Heap) (t:Addr×List Key),(∀b o,s.heap.get? b=some o→h'.get? b=some o)→t∈ts→(∀u∈ts,ZaC u.2 t.2=false)→R (.ok (.ret (.ref t.1))) { s with heap:=h' }) :
  codeAny (model prog w) A (.call (.builtin "min") { pos:=[.ref l],kw:=kw }) R s:=by
 refine codeAny_call_builtin_at rfl F.entry_min ?_
 have hc:checkBuiltinCall "min" { pos:=[.ref l],kw:=kw }=pure ():=by
  rcases hkw with⟨rfl,_⟩|⟨d,rfl,_⟩<;>rfl
 rw[hc]
 refine wpAny_pure ?_
 have go:∀ {A':Around},A'.handled=none→wpAny (model prog w) A' (pyIter (.ref l) >>= fun it=>newList [] >>= fun b=>again (.builtin "min.loop" { pos:=[it,.none,b],kw:=kw2 })) (fun fin s'=>match fin with
   | Fin.done f=>R (Except.ok f) s'
   | Fin.again c'=>c'.quiet=true∧codeAny (model prog w) A c' R s') (fun e s'=>R (Except.error e) s') s:=fun {A'} hA'=>by
  refine wpAny_bind (wpAny_pyIter_list hlist ?_)
  refine wpAny_bind (wpAny_newList ?_ (by show 0≤_;omega))
  refine wpAny_pure ⟨rfl,?_⟩
  have none_at:∀b,s.heap.objs.size≤b→s.heap.get? b=none:=fun b hb=>by
   cases e:s.heap.get? b with
   | none=>rfl
   | some o=>exact absurd (Qj e) (Nat.not_lt.mpr hb)
  have hsz:(s.heap.push { cls:=Value.type "list_iterator",data:=Data.fields #[Value.ref l,Value.int 0 0] }).objs.size=s.heap.objs.size+1:=size_push' _ _
  refine ZjU (h0:=s.heap) (c:=0) hh hu hlist (none_at _ (Qg _)) (none_at _ (by rw[hsz];exact Q8 _)) (by rw[hsz];exact Nat.succ_ne_self _) htup hsh s (fun b o h=>Qd _ (Qd _ h)) ⟨_,Qd _ (QA _ rfl),rfl,rfl⟩ (QA _ rfl) hne q
 rcases hkw with⟨rfl,rfl⟩|⟨d,rfl,rfl⟩
 ·exact go hh
 ·exact go hh
def Zpe(K:PySem.W.Frag)(te:TA):TE:=fun σ H Q=>te σ H fun vs H1=>∃ (p:Addr) (ts:Zcx) (sh:List Bool),vs=[.ref p]∧SqL K H1 p (ZdL ts)∧AtT H1 ts∧(∀t∈ts,shape t.2=sh)∧(ts=[]→Q .non H1) ∧
 ∀t:Addr×List Key,t∈ts→(∀u∈ts,ZaC u.2 t.2=false)→Q (.ref t.1) H1
theorem Zmo{k:Nat}{e ve:Expr}{t:TA}{p pos kpos:Pos}(K:PySem.W.Frag)(hr:ZaF k X.A)(hg:Gl X "min")(hm:X.mg "min" = none)(ha:PA X [e] t)(hv:PE X ve (tC .non))(hK:X.K=K:=by rfl)(hc:X.calm=true:=by rfl)
  (hs:starEach [e] X.env=[(false,eval e X.env)]:=by rfl) (hkw:keywordEach [⟨some "default",ve,kpos⟩] X.env=[(some (Str.ofString "default"),eval ve X.env)]:=by rfl):PE X (.Call (.Name "min" p) [e] [⟨some "default",ve,kpos⟩] pos) (Zpe K t):=by
 subst hK
 intro pins s σ H Q I h
 refine wpAny_Call_Name_kw (ZdT I hg hm boot_min ?_)
 have ha':=ha pos pins s σ H _ I h
 rw[hs]at ha' ⊢
 rw[hkw]
 refine W.callWith_of (P:=fun _=>True) rfl (fun _ _=>⟨.machine,.inr (.inl rfl),fun A Q E s _ q=>wpAny_pure q⟩) ?_
 show wpAny _ _ (spliced (backTo pos [(false,eval e X.env)]) >>= _) _ _ _
 refine wpAny_bind (thn ha' fun us s1 ⟨vs,H1,I1,r1,q1⟩=>?_)
 refine wpAny_bind (wpAny_pure ?_)
 refine wpAny_holding ?_
 show wpAny _ _ (evalAll [do let v ← eval ve X.env;standAt pos;pure v] >>= _) _ _ _
 refine wpAny_bind ?_
 unfold evalAll
 refine wpAny_bind (wpAny_bind (thn (hv pins s1 σ H1 (fun v H2=>v=.non∧H2=H1) I1 ⟨rfl,rfl⟩) fun u s2 ⟨v,H2,I2,r2,ev,eH⟩=>wpAny_bind (wpAny_standAt (wpAny_pure ?_))))
 subst ev eH
 cases r2
 refine wpAny_bind (wpAny_holding (show wpAny _ _ (pure []) _ _ _ from wpAny_pure (wpAny_pure ?_)))
 show wpAny _ _ (pure us >>= _) _ _ _
 refine wpAny_bind (wpAny_pure (wpAny_pure ⟨trivial,?_⟩))
 obtain⟨p,ts,sh,rfl,hq,hat,hsh,q0,q⟩:=q1
 obtain⟨u,rfl,rx⟩:=Zce r1
 cases rx
 obtain⟨its,rv,pl,hz⟩:=I2.list hq
 have ei:=Zgh rv
 subst ei
 refine wpAny_call (Zkz (sh:=sh) (kw:=[(Str.ofString "default",.none)]) (I2.ok.hd hc) (by have:=hr.units;omega) pl.isList (.inr ⟨.none,rfl,rfl⟩) (fun t ht=>?_) hsh ?_ fun h' t kp ht hmin=>?_)
 ·obtain⟨i,v,q,_⟩:=I2.tuple (SqT.of (K:=X.K) (hat t ht))
  exact⟨i,v,q⟩
 ·by_cases hne:ts=[]
  ·exact .inr ⟨_,_,_,rfl,fun h' kp=>⟨.non,_,I2.kept (t':=s2.toks) kp,rfl,q0 hne⟩⟩
  ·exact .inl hne
 ·exact⟨.ref t.1,_,I2.kept (t':=s2.toks) kp,rfl,q t ht hmin⟩
end
def EqS(s:Shared)(items:List Value)(v:Value)(e:Nat→Bool):Prop:=∀ (prog:Program) (w:World) (A:Around) (E:Value→Shared→Prop) (Q:Bool→Shared→Prop) (m:Nat) (x:Value),A.units+2<cLine→items[m]? = some x→Q (e m) s→wpAny (model prog w) A (eqBool x v) Q E s
section
variable {X:Cx}
def rRemI:V→List V→Hp→VK→Prop:=fun x vs H Q=>∃ (l:Addr) (ns:List Int) (n:Int),x=.ref l∧vs=[.int n]∧H l=some (.lst (ns.map V.int))∧n∈ns∧ns.length≤1000∧Q .non (upd H l (.lst ((ns.erase n).map V.int)))
def rRemT:V→List V→Hp→VK→Prop:=fun x vs H Q=>∃ (l:Addr) (ts:Zcx) (t:Addr×List Key),x=.ref l∧vs=[.ref t.1]∧H l=some (.lst (ZdL ts))∧AtT H ts∧t∈ts∧ts.length≤1000∧∀ (i:Nat) (hi:i<ts.length),ts[i].2=t.2→Q .non (upd H l (.lst (ZdL (ts.eraseIdx i))))
end
section
open PySem.SeqAt
open PySem.AutoSeq1 (wpAny_loadPart')
open PySem.MeetsSeq PySem.MeetsSeq2 PySem.MeetsSeq3
end
section
variable {prog:Program} {w:World} {A:Around} {E:Value→Shared→Prop} {s:Shared}
end
section
variable {X:Cx}
def rGeK(K:PySem.W.Frag):R2:=fun x y H Q=>∃ (a b:Addr) (ks ms:List Key),x=.ref a∧y=.ref b∧SqT K H a (ks.map kV)∧SqT K H b (ms.map kV)∧shape ks=shape ms∧Q (.bl (!ZaC ks ms)) H
end
def rMaxL(K:PySem.W.Frag):List V→Hp→VK→Prop:=fun vs H Q=>∃ (p:Addr) (ns:List Int),vs=[.ref p]∧SqL K H p (ns.map V.int)∧0<ns.length∧∀M,M∈ns→(∀a∈ns,a≤M)→Q (.int M) H
def isNum(n:Int):Value→Bool
 | .int a _=>a == n
 | _=>false
section
variable {X:Cx}
def rCountI:V→List V→Hp→VK→Prop:=fun x vs H Q=>∃ (l:Addr) (ns:List Int) (n:Int),x=.ref l∧vs=[.int n]∧H l=some (.lst (ns.map V.int))∧Q (.int ((ns.count n:Nat):Int)) H
end
section
variable {X:Cx} {T name id:String} {r:V→List V→Hp→VK→Prop} {o e:Expr} {es:List Expr} {to:TE} {t:TA} {apos cpos:Pos}
end
def ZqN(s:Shared)(items:List Value)(v:Value)(e:Nat→Bool):Prop:=∀ (prog:Program) (w:World) (A:Around) (E:Value→Shared→Prop) (Q:Bool→Shared→Prop) (m:Nat) (x:Value),A.units+60<cLine→items[m]? = some x→Q (e m) s→wpAny (model prog w) A (eqBool x v) Q E s
section
variable {X:Cx}
def rRemD(K:PySem.W.Frag):V→List V→Hp→VK→Prop:=fun x vs H Q=>∃ (l:Addr) (xs:List V) (ds:List PyData) (y:V) (d:PyData) (i:Nat),x=.ref l∧vs=[y]∧H l=some (.lst xs)∧DVs K H xs ds∧DV K H y d∧(∀e∈ds,e.canLay0=true)∧d.canLay0=true∧d.depth≤56∧xs.length≤1000 ∧
 i<ds.length∧(∀e,ds[i]? = some e→PyData.eqv e d=true)∧(∀m e,m<i→ds[m]? = some e→PyData.eqv e d=false)∧Q .non (upd H l (.lst (xs.eraseIdx i)))
def rInD(K:PySem.W.Frag):R2:=fun x y H Q=>∃ (l:Addr) (xs:List V) (ds:List PyData) (d:PyData),y=.ref l∧SqL K H l xs∧DVs K H xs ds∧DV K H x d∧PyData.canLayAll0 ds=true∧SeqAt.shaped d=true∧d.depth≤60∧Q (.bl (ds.any fun e=>PyData.eqv e d)) H
def ZnO(K:PySem.W.Frag):List V→Hp→VK→Prop:=fun vs H Q=>∃ (p:Addr) (ns:List Int),vs=[.ref p]∧SqL K H p (ns.map V.int)∧ns.length≤1000∧(∀n∈ns,0≤n∧n≤10000000000000)∧Q (.int ns.sum) H
theorem Zkt(hc:X.calm=true):ZaM X (.builtin "sum") (ZnO X.K):=by
 intro pins s σ H vs us Q I r h
 obtain⟨p,ns,rfl,hq,hn,hb,q⟩:=h
 obtain⟨u,rfl,rx⟩:=Zce r
 cases rx
 obtain⟨its,rv,pl,_⟩:=I.list hq
 have hi:=ZiV rv
 obtain⟨xs,e⟩:=hi.allInts.items
 have hns:ns=xs.toList.map (·.1):=by rw[← hi.numsOf,← nums_intItems,← e]
 have hsz:xs.size=ns.length:=by rw[hns,Qa,Array.length_toList]
 have hnum:numAt xs=fun j=>ns.getD j 0:=by funext j;rw[numAt_eq,hns]
 have hl:=pl.isList
 rw[e]at hl
 have bound:∀n,n≤ns.length→0≤(ns.take n).sum∧(ns.take n).sum≤10000000000000*n:=by
  intro n
  induction n with
  | zero=>intro _;exact⟨by simp,by simp⟩
  | succ n ih =>
   intro h
   have ih:=ih (by omega)
   have hm:=hb ns[n] (QS (by omega))
   have e2:ns.take (n+1)=ns.take n++[ns[n]]:=by rw[QI,Qb (by omega)];rfl
   rw[e2,List.sum_append]
   have e3:([ns[n]]:List Int).sum=ns[n]:=by simp
   rw[e3]
   omega
 refine sum_intList (I.ok.hd hc) hl (fun j hj=>?_) fun h' tk t' hk=>⟨.int _,H,I.kept hk,⟨t',rfl⟩,?_⟩
 ·rw[hnum]
  have hm:=hb ns[j] (QS (by omega))
  have hg:ns.getD j 0=ns[j]:=by rw[QC,Qb (by omega)];rfl
  have hp:=bound (j+1) (by omega)
  refine⟨⟨?_,?_⟩,⟨?_,?_⟩⟩
  ·show -(2 ^ 63)≤ns.getD j 0
   rw[hg];omega
  ·show ns.getD j 0<2 ^ 63
   rw[hg];omega
  ·rw[Zd0 ns (j+1) (by omega)];omega
  ·rw[Zd0 ns (j+1) (by omega)];omega
 ·rw[hnum,hsz,Zd0 ns ns.length (Qg _),Qx (Qg _)]
  exact q
theorem ZpK(K:PySem.W.Frag)(hc:X.calm=true:=by rfl)(h:X.K=K:=by rfl):ZaM X (.builtin "sum") (ZnO K):=by subst h;exact Zkt hc
end
section
variable {X:Cx}
def rIxD:R2:=fun x y H Q=>∃d kvs b ks v,x=.ref d∧y=.ref b∧H d=some (.dT kvs)∧H b=some (.tup (ks.map kV))∧Zh6 kvs ks=some v∧Q v H
def rSetDT:ZjQ:=fun o i v H Q=>∃d kvs b ks,o=.ref d∧i=.ref b∧H d=some (.dT kvs)∧H b=some (.tup (ks.map kV))∧Zh6 kvs ks=none∧kvs.length<sizeLine∧Q (upd H d (.dT (kvs++[(ks,v)])))
end
abbrev IsZipG(h:Heap)(z TI TO:Addr)(f0:Value)(fl:Bool):Prop :=
 h.get? z=some { cls:=.type "zip",dict:=none,data:=.fields #[f0,.bool fl,.bool false,.ref TI,.ref TO],slots:=#[] }
section
variable {prog:Program} {w:World} {A:Around} {E:Value→Shared→Prop} {s:Shared}
end
section
variable {prog:Program} {w:World} {A:Around} {R:Result→Shared→Prop} {s:Shared}
end
def Zmr(J:It)(D:Addr)(ys:List V)(σ:St)(H:Hp)(g:TG)(te:TE)(N:List V→St→Hp→Prop):Prop :=
 ∃W:Nat→Nat→List V→St→Hp→Prop,(∃m,W 0 m ys σ H) ∧
  ∀i m ys σ2 H2,W i m ys σ2 H2→(J.stop i H2∧N ys σ2 H2) ∨
   (J.go i H2∧∃N2:List V→St→Hp→Prop,(∀ys' σ' H',N2 ys' σ' H'→∃m',m'<m∧W (i+1) m' ys' σ' H')∧∀x H3,J.yld i H2 x H3→g x σ2 H3 fun σ4 H4 =>
    te σ4 H4 fun y H6=>H6 D=some (.lst ys)∧ys.length<sizeLine∧N2 (ys++[y]) σ4 (upd H6 D (.lst (ys++[y]))))
def Znt(J:It)(D:Addr)(k:Nat)(σ:St)(H1:Hp)(g:TG)(wi2:TI)(g2:TG)(te:TE)(Q:VK):Prop :=
 ∃W:Nat→Nat→List V→St→Hp→Prop,(∃m,W 0 m [] (σ++List.replicate k none) (upd H1 D (.lst []))) ∧
  ∀i m ys σ2 H2,W i m ys σ2 H2→(J.stop i H2∧Q (.ref D) H2) ∨
   (J.go i H2∧∃N:List V→St→Hp→Prop,(∀ys' σ' H',N ys' σ' H'→∃m',m'<m∧W (i+1) m' ys' σ' H')∧∀x H3,J.yld i H2 x H3→g x σ2 H3 fun σ4 H4=>wi2 σ4 H4 fun J2 H5=>Zmr J2 D ys σ4 H5 g2 te N)
def Zqy(n:Nat)(wi:TI)(g:TG)(wi2:TI)(g2:TG)(te:TE):TE:=fun σ H Q=>wi σ H fun J H1=>∀D,H1 D=none→Znt J D n σ H1 g wi2 g2 te Q
section
variable {X:Cx} {N N':List Str} {o c:Scope}
end
end L2
namespace Hf
open L2
abbrev PW:=List (Int×Nat)
def val(P:PW):Int:=(P.map fun p=>p.1*(p.2:Int)).sum
def ws(P:PW):List Int:=P.map (·.1)
def ds(P:PW):List Nat:=P.map (·.2)
def zs(z:Nat):List Int:=List.replicate z 0
def kr(w E:Nat)(D:List Nat):Nat:=(D.map fun d=>w ^ (E-d)).sum
def Kr(w:Nat)(D:List Nat):Prop:=∃E,(∀d∈D,d≤E)∧kr w E D=w ^ E
inductive Hu (w:Nat):List Int→Nat→Int→Prop
 | stop {e:Int} {m:Nat}:Hu w [e] m 0
 | step {E L:List Int} {m:Nat} {C:Int}:1<L.length→E.Perm L→L.Pairwise (·≤·)→Hu w (L.drop m++[(L.take m).sum]) w C→Hu w E m (C+(L.take m).sum)
def Fit(w n m:Nat):Prop:=n=1∨∃t,n=m+t*(w-1)
structure Fits (w n m:Nat):Prop where
 w2:2≤w
 m2:2≤m
 mw:m≤w
 ok:Fit w n m
end Hf
namespace L2
open PySem PySem.Spec PyProof.Rows
section
variable {prog:Program} {w:World} {A:Around} {R:Result→Shared→Prop} {s:Shared}
theorem ZfO{kx vx target iter:Expr}{ifs:List Expr}{scope:Scope}{pos:Pos}{it:Value}{D:Addr}{env:Env}{E:Value→Shared→Prop}(I:Nat→Shared→Prop)
  (hE:∀e s',E e s'→False)
  (turn:∀n s,I n s→wpAny (model prog w) A (pyNext it) (fun r s₁=>match r with
   | none=>R (.ok .next) s₁
   | some v=>wpAny (model prog w) A (letOwnedTupleGo target it v) (fun _ s₀=>wpAny (model prog w) A (assign target env v) (fun _ s₂ =>
     wpAny (model prog w) A (Zg0 ifs env) (fun ok s₃ =>
      if ok=true then wpAny (model prog w) A (eval kx env) (fun kv s₄=>wpAny (model prog w) A (eval vx env) (fun vv s₅ =>
       wpAny (model prog w) A (dictSet D kv vv) (fun _ s₆=>∃m,m<n∧I m s₆) E s₅) E s₄) E s₃
      else ∃m,m<n∧I m s₃) E s₂) E s₀) E s₁) E s)
  (n:Nat) (h:I n s):codeAny (model prog w) A (.compLoop (.DictComp kx vx [⟨target,iter,ifs,0⟩] scope pos) 0 it (.ref D) env) R s:=by
 have go:∀ {α:Type} {t:Sem α} {Q:α→Shared→Prop} {s:Shared},wpAny (model prog w) A t Q E s→wpAny (model prog w) A t Q (notedBy (model prog w) A env fun e s'=>R (.error e) s') s :=
  fun {α t Q s} q=>wpAny_mono q (fun _ _ z=>z) fun e s' z=>(hE e s' z).elim
 refine codeAny_loop rfl I (fun n s hI=>?_) n h
 show wpAny _ A ((compTurn (.DictComp kx vx [⟨target,iter,ifs,0⟩] scope pos) 0 it (.ref D) env).onRaise (fun x=>do noteFrame x env;theTreesLotGoes x)) _ _ s
 refine wpAny_noted ?_
 rw[compTurn_dict]
 refine wpAny_bind (wpAny_standAt (wpAny_bind (thn (go (turn n s hI)) fun r s₁ h₁=>?_)))
 cases r with
 | none=>exact wpAny_pure h₁
 | some v =>
  refine wpAny_bind (thn (go h₁) fun _ s₀ h₀=>wpAny_bind (thn (go h₀) fun _ s₂ h₂=>wpAny_bind (thn (go h₂) fun ok s₃ h₃=>?_)))
  cases ok with
  | false=>exact wpAny_pure ⟨rfl,h₃⟩
  | true =>
   exact wpAny_bind (wpAny_bind (thn (go h₃) fun kv s₄ h₄=>wpAny_bind (wpAny_holding (thn (go h₄) fun vv s₅ h₅=>wpAny_bind (wpAny_standAt (wpAny_holding (thn (go h₅) fun _ s₆ h₆=>wpAny_pure ⟨rfl,h₆⟩)))))))
end
def ZoV(J:It)(D:Addr)(k:Nat)(σ:St)(H1:Hp)(g:TG)(tc:TT)(tk te:TE)(Q:VK):Prop :=
 ∃W:Nat→Nat→List (List Key×V)→St→Hp→Prop,(∃m,W 0 m [] (σ++List.replicate k none) (upd H1 D (.dT []))) ∧
  ∀i m ys σ2 H2,W i m ys σ2 H2→(J.stop i H2∧Q (.ref D) H2) ∨
   (J.go i H2∧∃N:List (List Key×V)→St→Hp→Prop,(∀ys' σ' H',N ys' σ' H'→∃m',m'<m∧W (i+1) m' ys' σ' H')∧∀x H3,J.yld i H2 x H3→g x σ2 H3 fun σ4 H4=>tc σ4 H4 fun b H5 =>
    if b=true then tk σ4 H5 fun kv H6=>te σ4 H6 fun y H7=>∃ (b:Addr) (ks:List Key),kv=.ref b∧H7 D=some (.dT ys)∧H7 b=some (.tup (ks.map kV))∧Zh6 ys ks=none∧ys.length<sizeLine∧N (ys++[(ks,y)]) σ4 (upd H7 D (.dT (ys++[(ks,y)]))) else N ys σ4 H5)
def tDComp(n:Nat)(wi:TI)(g:TG)(tc:TT)(tk te:TE):TE:=fun σ H Q=>wi σ H fun J H1=>∀D,H1 D=none→ZoV J D n σ H1 g tc tk te Q
section
variable {X:Cx} {N N':List Str} {o c:Scope}
end
section
variable {κ:Type} [DecidableEq κ]
def Z6(kvs:List (κ×V))(k:κ):Option V:=(kvs.find? fun kv=>decide (kv.1=k)).map (·.2)
def Za1(kvs:List (κ×V))(k:κ)(v:V):List (κ×V) :=
 if (kvs.any fun kv=>decide (kv.1=k))=true then kvs.map (fun kv=>if kv.1=k then (kv.1,v) else kv) else kvs++[(k,v)]
def ZdJ(kvs:List (κ×V))(k:κ):List (κ×V):=kvs.filter fun kv=>decide (kv.1≠k)
theorem Zpr{k:κ}:Z6 ([]:List (κ×V)) k=none:=rfl
theorem Zcn{p:κ×V}{r:List (κ×V)}{k:κ}(e:p.1=k):Z6 (p::r) k=some p.2:=by simp[Z6,List.find?_cons,e]
theorem Zcl{p:κ×V}{r:List (κ×V)}{k:κ}(e:¬ p.1=k):Z6 (p::r) k=Z6 r k:=by simp[Z6,List.find?_cons,e]
theorem Zc0(k:κ):∀kvs:List (κ×V),(kvs.any fun kv=>decide (kv.1=k))=(Z6 kvs k).isSome
 | []=>rfl
 | p::r=>by
  rw[Qak]
  by_cases e:p.1=k
  ·simp only[Zcn e,decide_eq_true e,Bool.true_or,Option.isSome_some]
  ·rw[Zcl e,decide_eq_false e,Bool.false_or];exact Zc0 k r
theorem Zb4(kvs:List (κ×V))(k:κ)(v:V):(Za1 kvs k v).length≤kvs.length+1:=by
 unfold Za1
 split
 ·rw[Qa];omega
 ·rw[Qs,Qu,List.length_nil];omega
theorem Zcr{kvs:List (κ×V)}{k:κ}(v:V)(h:Z6 kvs k=none):Za1 kvs k v=kvs++[(k,v)]:=by
 unfold Za1
 rw[Zc0,h]
 exact if_neg (by decide)
theorem ZcA.isSome_eq{o:Option V}{u:Option Value}(r:ZcA o u):o.isSome=u.isSome:=by
 cases o with
 | none=>cases u with
  | none=>rfl
  | some _=>exact(show False from r).elim
 | some _=>cases u with
  | none=>exact(show False from r).elim
  | some _=>rfl
theorem ZcA.getD{o:Option V}{u:Option Value}{d:V}{d':Value}(r:ZcA o u)(rd:Zy d d'):Zy (o.getD d) (u.getD d'):=by
 cases o with
 | none=>cases u with
  | none=>exact rd
  | some _=>exact(show False from r).elim
 | some _=>cases u with
  | none=>exact(show False from r).elim
  | some _=>exact r
theorem KV.val{kvs:List (κ×V)}{vs:List (κ×Value)}(r:KV kvs vs)(k:κ):ZcA (Z6 kvs k) (valueAt vs k):=by
 unfold KV at r
 induction r with
 | nil=>exact True.intro
 | @cons p q ps qs h t ih =>
  obtain⟨h1,h2⟩:=h
  by_cases e:p.1=k
  ·have e':q.1=k:=h1.symm.trans e
   have b:valueAt (q::qs) k=some q.2:=by simp[valueAt,List.find?_cons,e']
   rw[Zcn e,b];exact h2
  ·have e':¬ q.1=k:=fun z=>e (h1.trans z)
   have b:valueAt (q::qs) k=valueAt qs k:=by simp[valueAt,List.find?_cons,e']
   rw[Zcl e,b];exact ih
theorem KV.any{kvs:List (κ×V)}{vs:List (κ×Value)}(r:KV kvs vs)(k:κ):(kvs.any fun kv=>decide (kv.1=k))=vs.any fun kv=>decide (kv.1=k):=by
 unfold KV at r
 induction r with
 | nil=>rfl
 | cons h t ih=>rw[Qak,Qak,ih,h.1]
theorem KV.repl{kvs:List (κ×V)}{vs:List (κ×Value)}(r:KV kvs vs)(k:κ){y:V}{u:Value}(ry:Zy y u) :
  KV (kvs.map fun kv=>if kv.1=k then (kv.1,y) else kv) (vs.map fun kv=>if kv.1=k then (kv.1,u) else kv):=by
 unfold KV at r ⊢
 induction r with
 | nil=>exact .nil
 | @cons p q ps qs h t ih =>
  rw[Qe,Qe]
  refine .cons ?_ ih
  obtain⟨h1,h2⟩:=h
  by_cases e:p.1=k
  ·rw[if_pos e,if_pos (h1.symm.trans e)];exact⟨h1,ry⟩
  ·rw[if_neg e,if_neg (fun z=>e (h1.trans z))];exact⟨h1,h2⟩
theorem KV.put{kvs:List (κ×V)}{vs:List (κ×Value)}(r:KV kvs vs)(k:κ){y:V}{u:Value}(ry:Zy y u):KV (Za1 kvs k y) (stored vs k u):=by
 unfold Za1 stored
 rw[r.any k]
 by_cases e:(vs.any fun kv=>decide (kv.1=k))=true
 ·rw[if_pos e,if_pos e];exact r.repl k ry
 ·rw[if_neg e,if_neg e];exact Paired.snoc r ⟨rfl,ry⟩
theorem KV.drop{kvs:List (κ×V)}{vs:List (κ×Value)}(r:KV kvs vs)(k:κ):KV (ZdJ kvs k) (without vs k):=by
 unfold KV at r ⊢
 unfold ZdJ without
 induction r with
 | nil=>exact .nil
 | @cons p q ps qs h t ih =>
  obtain⟨h1,h2⟩:=h
  rw[QaA,QaA]
  by_cases e:p.1=k
  ·have a:¬ decide (p.1≠k)=true:=by simp[e]
   have b:¬ decide (q.1≠k)=true:=by simp[h1.symm.trans e]
   rw[if_neg a,if_neg b];exact ih
  ·have e':¬ q.1=k:=fun z=>e (h1.trans z)
   have a:decide (p.1≠k)=true:=by simp[e]
   have b:decide (q.1≠k)=true:=by simp[e']
   rw[if_pos a,if_pos b];exact .cons ⟨h1,h2⟩ ih
theorem KV.length{kvs:List (κ×V)}{vs:List (κ×Value)}(r:KV kvs vs):kvs.length=vs.length:=Paired.length r
theorem ZkH(kvs:List (κ×V))(k:κ):(ZdJ kvs k).length≤kvs.length:=Qac _ _
end
theorem Zdo{P:Program}{w:World}{k:Key}{u:Value}(r:Zy (kV k) u):(ZI P w).is k u=true:=by
 cases k with
 | inl i=>obtain⟨t,e⟩:=(show ∃t,u=Value.int i t from r);subst e;exact ZhS P w i t
 | inr x=>obtain⟨t,e⟩:=(show ∃t,u=Value.str x t from r);subst e;exact Zh2 P w x t
theorem Zf8{P:Program}{w:World}:∀ {ks:List Key} {us:List Value},ZB (ks.map kV) us→ItemsAre (ZI P w) ks us
 | [],_,r=>by rw[List.map_nil]at r;cases r;exact .nil
 | k::ks,_,r=>by
  rw[Qe]at r
  cases r with
  | cons h t=>exact .cons (Zdo h) (Zf8 t)
abbrev KT(H:Hp):List (List Key×V)→List (List Key×Addr×Value)→Prop:=Paired fun p q=>p.1=q.1∧H q.2.1=some (.tup (p.1.map kV))∧Zy p.2 q.2.2
theorem KT.val{H:Hp}{kvs:List (List Key×V)}{xs:List (List Key×Addr×Value)}(r:KT H kvs xs)(k:List Key):ZcA (Z6 kvs k) ((atKey xs k).map (·.2)):=by
 induction r with
 | nil=>exact True.intro
 | @cons p q ps qs h t ih =>
  obtain⟨h1,_,h2⟩:=h
  by_cases e:p.1=k
  ·have e':q.1=k:=h1.symm.trans e
   have b:atKey (q::qs) k=some q.2:=by simp[atKey,List.find?_cons,e']
   rw[Zcn e,b];exact h2
  ·have e':¬ q.1=k:=fun z=>e (h1.trans z)
   have b:atKey (q::qs) k=atKey qs k:=by simp[atKey,List.find?_cons,e']
   rw[Zcl e,b];exact ih
theorem KT.repl{H:Hp}{kvs:List (List Key×V)}{xs:List (List Key×Addr×Value)}(r:KT H kvs xs)(k:List Key){y:V}{u:Value}(ry:Zy y u) :
  KT H (kvs.map fun kv=>if kv.1=k then (kv.1,y) else kv) (xs.map (putAt k u)):=by
 induction r with
 | nil=>exact .nil
 | @cons p q ps qs h t ih =>
  rw[Qe,Qe]
  refine .cons ?_ ih
  obtain⟨h1,h2,h3⟩:=h
  unfold putAt
  by_cases e:p.1=k
  ·rw[if_pos e,if_pos (h1.symm.trans e)];exact⟨h1,h2,ry⟩
  ·rw[if_neg e,if_neg (fun z=>e (h1.trans z))];exact⟨h1,h2,h3⟩
theorem KT.put{H:Hp}{kvs:List (List Key×V)}{xs:List (List Key×Addr×Value)}(r:KT H kvs xs)(k:List Key){b:Addr}{y:V}{u:Value}(hb:H b=some (.tup (k.map kV)))(ry:Zy y u) :
  KT H (Za1 kvs k y) (storedH xs k b u):=by
 have e:(kvs.any fun kv=>decide (kv.1=k))=(atKey xs k).isSome:=by
  rw[Zc0,(r.val k).isSome_eq,Option.isSome_map]
 unfold Za1 storedH
 rw[e]
 by_cases q:(atKey xs k).isSome=true
 ·rw[if_pos q,if_pos q];exact r.repl k ry
 ·rw[if_neg q,if_neg q];exact Paired.snoc r ⟨rfl,hb,ry⟩
theorem KT.keeps{H H':Hp}{kvs:List (List Key×V)}{xs:List (List Key×Addr×Value)}(r:KT H kvs xs)(ht:∀b ys,H b=some (.tup ys)→H' b=some (.tup ys)):KT H' kvs xs :=
 Paired.mapP r fun _ _ z=>⟨z.1,ht _ _ z.2.1,z.2.2⟩
section
variable {P:Program} {w:World} {H:Hp} {h:Heap} {a:Addr}
theorem ZnM{u:HO}(ok:HOk P w H h)(e:Rd H a u):Zal P w H h a u:=e.ok ok
theorem ZeR{kvs:List (Key×V)}(ok:HOk P w H h)(e:Rd H a (.dK kvs)):kvs.length≤sizeLine∧(a == sysModules)=false∧∃vs,KV kvs vs∧h.DictOf (ZI P w) a vs :=
 show Zal P w H h a (.dK kvs) from ZnM ok e
theorem ZhY{kvs:List (Key×V)}(ok:HOk P w H h)(e:H a=some (.dK kvs)):kvs.length≤sizeLine∧(a == sysModules)=false∧∃vs,KV kvs vs∧h.DictOf (ZI P w) a vs:=ZeR ok (.inl e)
theorem Zev{ks:List Key}(ok:HOk P w H h)(e:H a=some (.tup (ks.map kV))):(tupleKind (ZI P w)).is h ks a:=by
 obtain⟨_,its,r,o,h1,h2,n,h3⟩:=(show Zal P w H h a (.tup (ks.map kV)) from ok a _ e)
 exact⟨o,its.toArray,n,h1,h2,h3,by simpa using Zf8 r⟩
theorem Ze9{kvs:List (List Key×V)}(ok:HOk P w H h)(e:Rd H a (.dT kvs)):kvs.length≤sizeLine∧(a == sysModules)=false ∧
  ∃xs,KT H kvs xs∧h.DictOfH (tupleKind (ZI P w)) a xs:=by
 obtain⟨z,y,xs,r,o,es,ep,h1,h2,h3,h4,h5⟩:=(show Zal P w H h a (.dT kvs) from ZnM ok e)
 refine⟨z,y,xs,r,o,es,ep,h1,h2,h3,h4,fun x hx=>?_,h5⟩
 have all:∀ {l:List (List Key×V)} {m:List (List Key×Addr×Value)},KT H l m→∀x∈m,(tupleKind (ZI P w)).is h x.1 x.2.1:=by
  intro l m q
  induction q with
  | nil=>intro x hx;exact nomatch hx
  | @cons p q ps qs hq t ih =>
   intro x hx
   rcases QG.mp hx with e|hx
   ·subst e
    exact Zev ok (by rw[← hq.1];exact hq.2.1)
   ·exact ih x hx
 exact all r x hx
theorem ZpD{kvs:List (List Key×V)}(ok:HOk P w H h)(e:H a=some (.dT kvs)):kvs.length≤sizeLine∧(a == sysModules)=false ∧
  ∃xs,KT H kvs xs∧h.DictOfH (tupleKind (ZI P w)) a xs:=Ze9 ok (.inl e)
end
def Za7(H:Hp)(a:Addr)(y:V)(r:Option V):Prop :=
 (∃kvs k,Rd H a (.dK kvs)∧y=kV k∧r=Z6 kvs k)∨∃kvs k b,Rd H a (.dT kvs)∧y=.ref b∧H b=some (.tup (k.map kV))∧r=Z6 kvs k
def ZdW(H:Hp)(a:Addr)(y v:V)(H':Hp):Prop :=
 (∃kvs k,H a=some (.dK kvs)∧y=kV k∧kvs.length<sizeLine∧H'=upd H a (.dK (Za1 kvs k v))) ∨
 ∃kvs k b,H a=some (.dT kvs)∧y=.ref b∧H b=some (.tup (k.map kV))∧kvs.length<sizeLine∧H'=upd H a (.dT (Za1 kvs k v))
theorem Za7.k{H:Hp}{a:Addr}{kvs:List (Key×V)}{k:Key}(e:H a=some (.dK kvs)):Za7 H a (kV k) (Z6 kvs k):=.inl ⟨kvs,k,.inl e,rfl,rfl⟩
theorem Za7.t{H:Hp}{a b:Addr}{kvs:List (List Key×V)}{k:List Key}(e:H a=some (.dT kvs))(eb:H b=some (.tup (k.map kV))):Za7 H a (.ref b) (Z6 kvs k):=.inr ⟨kvs,k,b,.inl e,rfl,eb,rfl⟩
theorem ZdW.k{H:Hp}{a:Addr}{kvs:List (Key×V)}{k:Key}{v:V}(e:H a=some (.dK kvs))(hl:kvs.length<sizeLine):ZdW H a (kV k) v (upd H a (.dK (Za1 kvs k v))):=.inl ⟨kvs,k,e,rfl,hl,rfl⟩
theorem ZdW.t{H:Hp}{a b:Addr}{kvs:List (List Key×V)}{k:List Key}{v:V}(e:H a=some (.dT kvs))(eb:H b=some (.tup (k.map kV)))(hl:kvs.length<sizeLine) :
  ZdW H a (.ref b) v (upd H a (.dT (Za1 kvs k v))):=.inr ⟨kvs,k,b,e,rfl,eb,hl,rfl⟩
section
variable {X:Cx} {pins:List (Addr×Obj)} {σ:St} {H:Hp} {s:Shared} {a:Addr} {y v:V} {u r:Value} {o:Option V} {A:Around} {E:Value→Shared→Prop}
theorem Inv.big(I:Inv X pins σ H s):sysModules<s.heap.objs.size:=by
 have h:mainGlobals<s.heap.objs.size:=(I.mod.glob.keeps I.bk).lt
 exact Qau (by decide) h
theorem ZjM{Q:Value→Shared→Prop}(hu:A.units+1<cLine)(I:Inv X pins σ H s)(g:Za7 H a y (some v))(ry:Zy y u)(h:∀w' s',Inv X pins σ H s'→Zy v w'→Q w' s') :
  wpAny (model X.prog X.w) A (getItem (.ref a) u) Q E s:=by
 rcases g with⟨kvs,k,e,ey,l⟩|⟨kvs,k,b,e,ey,eb,l⟩
 ·subst ey
  obtain⟨z,hd,vs,rel,dd⟩:=ZeR I.hok e
  obtain⟨w',hw,rw'⟩:=ZcA.some_of (v:=v) (o:=valueAt vs k) (by rw[l];exact rel.val k)
  exact wpAny_getItem_of (Zdo ry) dd.mapOf hw (h w' _ (I.tok _) rw')
 ·subst ey
  cases (show u=Value.ref b from ry)
  obtain⟨z,hd,xs,rel,dd⟩:=Ze9 I.hok e
  obtain⟨w',hw,rw'⟩:=ZcA.some_of (v:=v) (o:=(atKey xs k).map (·.2)) (by rw[l];exact rel.val k)
  obtain⟨p,hp,hp2⟩:=Qav.mp hw
  refine wpAny_getItem_heap (tupleKind_room_in1 hu) (Zev I.hok eb) dd hp ?_
  rw[hp2]
  exact h w' _ (I.tok _) rw'
theorem Zqk{Q:Value→Shared→Prop}(hu:A.units+1<cLine)(I:Inv X pins σ H s)(g:Za7 H a y o)(ry:Zy y u)(h:∀s',Inv X pins σ H s'→Q (.bool o.isSome) s') :
  wpAny (model X.prog X.w) A (compareOp .In u (.ref a)) Q E s:=by
 rcases g with⟨kvs,k,e,ey,l⟩|⟨kvs,k,b,e,ey,eb,l⟩
 ·subst ey
  obtain⟨z,hd,vs,rel,dd⟩:=ZeR I.hok e
  refine wpAny_in_of (Zdo ry) hd dd.mapOf ?_
  rw[← (rel.val k).isSome_eq,← l]
  exact h _ (I.tok _)
 ·subst ey
  cases (show u=Value.ref b from ry)
  obtain⟨z,hd,xs,rel,dd⟩:=Ze9 I.hok e
  refine wpAny_in_heap (tupleKind_room_in1 hu) (Zev I.hok eb) hd dd ?_
  have q:=(rel.val k).isSome_eq
  rw[Option.isSome_map]at q
  rw[← q,← l]
  exact h _ (I.tok _)
theorem ZmK{Q:Value→Shared→Prop}(hu:A.units+1<cLine)(I:Inv X pins σ H s)(g:Za7 H a y o)(ry:Zy y u)(h:∀s',Inv X pins σ H s'→Q (.bool (!o.isSome)) s') :
  wpAny (model X.prog X.w) A (compareOp .NotIn u (.ref a)) Q E s:=by
 rcases g with⟨kvs,k,e,ey,l⟩|⟨kvs,k,b,e,ey,eb,l⟩
 ·subst ey
  obtain⟨z,hd,vs,rel,dd⟩:=ZeR I.hok e
  refine wpAny_notIn_of (Zdo ry) hd dd.mapOf ?_
  rw[← (rel.val k).isSome_eq,← l]
  exact h _ (I.tok _)
 ·subst ey
  cases (show u=Value.ref b from ry)
  obtain⟨z,hd,xs,rel,dd⟩:=Ze9 I.hok e
  refine wpAny_notIn_heap (tupleKind_room_in1 hu) (Zev I.hok eb) hd dd ?_
  have q:=(rel.val k).isSome_eq
  rw[Option.isSome_map]at q
  rw[← q,← l]
  exact h _ (I.tok _)
theorem Zel{h':Heap}{t':Nat}{ob:HO}(I:Inv X pins σ H s)(mu:Mut (H a))(hs:Heap.SameBut a s.heap h')(he:∃q,h'.get? a=some q)(new:Zal X.prog X.w (upd H a ob) h' a ob) :
  Inv X pins σ (upd H a ob) { s with heap:=h',toks:=t' } :=
 I.write (x:=a) (e:=a) mu (.inl rfl) (fun b q hb z=>(hs.2 b hb).trans z) he new
theorem Zfc{P:Program}{w:World}{H':Hp}{h':Heap}{kvs:List (Key×V)}{vs:List (Key×Value)}(z:kvs.length≤sizeLine)(hd:(a == sysModules)=false)(rel:KV kvs vs)(dd:h'.DictOf (ZI P w) a vs) :
  Zal P w H' h' a (.dK kvs):=⟨z,hd,vs,rel,dd⟩
theorem Zki{H':Hp}{Q:Unit→Shared→Prop}(hu:A.units+1<cLine)(I:Inv X pins σ H s)(g:ZdW H a y v H')(ry:Zy y u)(rv:Zy v r)(h:∀s',Inv X pins σ H' s'→Q () s') :
  wpAny (model X.prog X.w) A (setItem (.ref a) u r) Q E s:=by
 rcases g with⟨kvs,k,e,ey,l,eH⟩|⟨kvs,k,b,e,ey,eb,l,eH⟩
 ·subst ey eH
  obtain⟨z,hd,vs,rel,dd⟩:=ZhY I.hok e
  have hz:vs.length≤sizeLine:=by rw[← rel.length];exact z
  have hl:(Za1 kvs k v).length≤sizeLine:=by have:=Zb4 kvs k v;omega
  refine wpAny_setItem_pairs (hsz:=hz) (Zdo ry) dd fun h' dd' hs=>h _ ?_
  have he:∃q,h'.get? a=some q:=let ⟨q,_,_,hq,_⟩:=dd';⟨q,hq⟩
  exact Zel I (by rw[e];exact True.intro) hs he (Zfc hl hd (rel.put k rv) dd')
 ·subst ey eH
  cases (show u=Value.ref b from ry)
  obtain⟨z,hd,xs,rel,dd⟩:=ZpD I.hok e
  have hz:xs.length≤sizeLine:=by rw[← Paired.length rel];exact z
  have hl:(Za1 kvs k v).length≤sizeLine:=by have:=Zb4 kvs k v;omega
  refine wpAny_setItem_heap (hsz:=hz) (tupleKind_room_in1 hu) (Zev I.hok eb) dd fun h' dd' hs=>h _ ?_
  obtain⟨q,es,ep,hq,h2,h3,h4,_,h5⟩:=dd'
  refine Zel I (by rw[e];exact True.intro) hs ⟨q,hq⟩ ⟨hl,hd,_,(rel.put k eb rv).keeps fun c ys ec=>?_,q,es,ep,hq,h2,h3,h4,h5⟩
  rw[Zc (ZlG ec e (fun z=>nomatch z))]
  exact ec
end
section
variable {X:Cx} {pins:List (Addr×Obj)} {σ:St} {H:Hp} {s:Shared} {a:Addr} {kvs:List (Key×V)} {k:Key} {u:Value} {A:Around} {E:Value→Shared→Prop}
theorem Zpf{v:V}{more:List Value}{Q:Value→Shared→Prop}(I:Inv X pins σ H s)(e:H a=some (.dK kvs))(ry:Zy (kV k) u)(l:Z6 kvs k=some v)(hm:more=[]∨∃x,more=[x])
  (h:∀w' s',Inv X pins σ (upd H a (.dK (ZdJ kvs k))) s'→Zy v w'→Q w' s'):wpAny (model X.prog X.w) A (call (.builtin "dict.pop") (.ref a::u::more)) Q E s:=by
 obtain⟨z,hd,vs,rel,dd⟩:=ZhY I.hok e
 obtain⟨w',hw,rw'⟩:=ZcA.some_of (v:=v) (o:=valueAt vs k) (by rw[← l];exact rel.val k)
 have hp:(keyPart u).isSome=true:=by
  cases k with
  | inl i=>obtain⟨t,q⟩:=(show ∃t,u=Value.int i t from ry);subst q;rfl
  | inr x=>obtain⟨t,q⟩:=(show ∃t,u=Value.str x t from ry);subst q;rfl
 have ha:argsOk "dict.pop" ⟨.ref a::u::more,[]⟩:=by
  rcases hm with q|⟨x,q⟩
  ·subst q;exact PySem.F.args_dict_pop_2 _ _
  ·subst q;exact PySem.F.args_dict_pop_3 _ _ _
 refine call_meetsIn PySem.F.slot_dict_pop dd.typeIs PySem.F.entry_dict_pop ha (meets_dict_pop_there (ZI X.prog X.w) a (Zdo ry) more hm hp)
  ⟨vs,w',dd,by rw[← rel.length];exact z,hw,fun h' dd' hs=>h w' _ ?_ rw'⟩
 have he:∃q,h'.get? a=some q:=let ⟨q,_,_,hq,_⟩:=dd';⟨q,hq⟩
 exact Zel I (by rw[e];exact True.intro) hs he (Zfc (QH (ZkH kvs k) z) hd (rel.drop k) dd')
theorem Zo8{Q:Value→Shared→Prop}(I:Inv X pins σ H s)(e:Rd H a (.dK kvs))(h:∀t s',Inv X pins σ H s'→Q (.int kvs.length t) s'):wpAny (model X.prog X.w) A (call (.builtin "len") [.ref a]) Q E s:=by
 obtain⟨z,hd,vs,rel,dd⟩:=ZeR I.hok e
 refine call_len_dict hd dd (by rw[← rel.length];rw[sizeLine_eq]at z;omega) ?_
 rw[← rel.length]
 exact h _ _ (I.tok _)
end
def NoSl(i:Expr):Prop:=∀ov iv,subscripted i false ov iv=operate [ov,iv] (getItem ov iv)
theorem Zhx{X:Cx}{pins:List (Addr×Obj)}{σ:St}{H:Hp}{s:Shared}{a:Addr}{y:V}{o:Option V}(I:Inv X pins σ H s)(g:Za7 H a y o):s.TypeIs (.ref a) "dict":=by
 rcases g with⟨kvs,k,e,_,_⟩|⟨kvs,k,b,e,_,_,_⟩
 ·obtain⟨_,_,vs,_,dd⟩:=ZeR I.hok e
  exact dd.typeIs
 ·obtain⟨_,_,xs,_,dd⟩:=Ze9 I.hok e
  exact dd.typeIs
def tDGet(td ty:TE):TE:=fun σ H Q=>td σ H fun x H1=>ty σ H1 fun y H2=>∃a v,x=.ref a∧Za7 H2 a y (some v)∧Q v H2
def tDIn(ty td:TE):TE:=fun σ H Q=>ty σ H fun y H1=>td σ H1 fun x H2=>∃a o,x=.ref a∧Za7 H2 a y o∧Q (.bl o.isSome) H2
def tDNotIn(ty td:TE):TE:=fun σ H Q=>ty σ H fun y H1=>td σ H1 fun x H2=>∃a o,x=.ref a∧Za7 H2 a y o∧Q (.bl (!o.isSome)) H2
def sDPut(td ty tv:TE):TS:=fun D σ H=>tv σ H fun v H1=>td σ H1 fun x H2=>ty σ H2 fun y H3=>∃a H4,x=.ref a∧ZdW H3 a y v H4∧D.nx σ H4
def sDAug(td ty tv:TE)(rd:V→V→Hp→VK→Prop):TS:=fun D σ H=>td σ H fun x H1=>ty σ H1 fun y H2=>∃a v,x=.ref a∧Za7 H2 a y (some v) ∧
 tv σ H2 fun y2 H3=>rd v y2 H3 fun z H4=>∃H5,ZdW H4 a y z H5∧D.nx σ H5
def sDDel(td ty:TE):TS:=fun D σ H=>td σ H fun x H1=>ty σ H1 fun y H2=>∃a kvs k,x=.ref a∧H2 a=some (.dK kvs)∧y=kV k∧(Z6 kvs k).isSome=true∧D.nx σ (upd H2 a (.dK (ZdJ kvs k)))
section
variable {X:Cx} {o i e value:Expr} {pos pos' tpos:Pos} {td ty tv:TE}
end
theorem Ze6{P:Program}{w:World}{H:Hp}(h:Heap)(hb:sysModules<h.objs.size):Zal P w H (h.push { cls:=.type "dict",data:=.dict #[] }) h.objs.size (.dK []) :=
 ⟨Qn _,beq_eq_false_iff_ne.mpr (Ne.symm (Qz hb)),[],.nil,Heap.DictOf.new h⟩
def ZoN:TE:=fun _ H Q=>∀p,H p=none→Q (.ref p) (upd H p (.dK []))
def tDNewT:TE:=fun _ H Q=>∀p,H p=none→Q (.ref p) (upd H p (.dT []))
section
variable {X:Cx} {pos:Pos}
theorem ZlM:PE X (.Dict [] [] pos) ZoN:=fun pins s σ H Q I h =>
 wpAny_Dict_empty ⟨.ref s.heap.objs.size,_,I.laid (a:=s.heap.objs.size) (o:=.dK []) (t':=s.toks) (fun _ _ q=>Qd _ q) (Qg _) (Ze6 s.heap I.big),rfl,h _ (I.hok.fresh (Qg _))⟩
end
def Zin:List (TE×TE)→St→Hp→(List (V×V)→Hp→Prop)→Prop
 | [],_,H,Q=>Q [] H
 | (tk,tv)::r,σ,H,Q=>tk σ H fun x H1=>tv σ H1 fun y H2=>Zin r σ H2 fun ps H3=>Q ((x,y)::ps) H3
abbrev VV:List (V×V)→List (Value×Value)→Prop:=Paired fun p q=>Zy p.1 q.1∧Zy p.2 q.2
def PPs(X:Cx)(pos:Pos)(keys:List (Option Expr))(values:List Expr)(trs:List (TE×TE)):Prop :=
 ∀ (pins:List (Addr×Obj)) (s:Shared) (σ:St) (H:Hp) (Q:List (V×V)→Hp→Prop),Inv X pins σ H s→Zin trs σ H Q →
  wpAny (model X.prog X.w) X.A (evalPairs (pairTrees keys values X.env pos)) (fun vs s'=>∃ps H',Inv X pins σ H' s'∧VV ps vs∧Q ps H') X.xe s
theorem Zmu{X:Cx}{pos:Pos}:PPs X pos [] [] []:=fun pins s σ H Q I h=>pairTrees_nil_walk ⟨[],H,I,.nil,h⟩
theorem ZlT{X:Cx}{pos:Pos}{k v:Expr}{ks:List (Option Expr)}{vs:List Expr}{tk tv:TE}{trs:List (TE×TE)}(hk:PE X k tk)(hv:PE X v tv)(hr:PPs X pos ks vs trs) :
  PPs X pos (some k::ks) (v::vs) ((tk,tv)::trs):=fun pins s σ H Q I h =>
 pairTrees_cons_walk (thn (hk pins s σ H _ I h) fun u s1 ⟨x,H1,I1,rx,q1⟩=>thn (hv pins s1 σ H1 _ I1 q1) fun w2 s2 ⟨y,H2,I2,ry,q2⟩=>
  thn (hr pins s2 σ H2 _ I2 q2) fun ws s3 ⟨ps,H3,I3,rel,q3⟩=>⟨(x,y)::ps,H3,I3,.cons ⟨rx,ry⟩ rel,q3⟩)
def ZaU(kvs more:List (Key×V)):List (Key×V):=more.foldl (fun acc kv=>Za1 acc kv.1 kv.2) kvs
theorem KV.merge:∀ {more:List (Key×V)} {rs:List (Key×Value)} {kvs:List (Key×V)} {vs:List (Key×Value)},KV more rs→KV kvs vs→KV (ZaU kvs more) (merged vs rs):=by
 intro more rs kvs vs r
 unfold KV at r
 induction r generalizing kvs vs with
 | nil=>intro q;exact q
 | @cons p q ps qs h t ih =>
  intro r0
  have e:KV (Za1 kvs p.1 p.2) (stored vs q.1 q.2):=by
   have:=r0.put p.1 h.2
   rw[← h.1];exact this
  exact ih e
theorem Zb5:∀ (more kvs:List (Key×V)),(ZaU kvs more).length≤kvs.length+more.length
 | [],kvs=>by show kvs.length≤kvs.length+0;omega
 | p::r,kvs=>by
  have h1:=Zb5 r (Za1 kvs p.1 p.2)
  have h2:=Zb4 kvs p.1 p.2
  show (ZaU (Za1 kvs p.1 p.2) r).length≤_
  rw[Qu];omega
theorem Zfk{P:Program}{w:World}:∀ {kvs:List (Key×V)} {ws:List (Value×Value)},VV (kvs.map fun kv=>(kV kv.1,kv.2)) ws→∃rs,Carries (ZI P w) ws rs∧KV kvs rs
 | [],_,r=>by rw[List.map_nil]at r;cases r;exact⟨[],True.intro,.nil⟩
 | p::kvs,_,r=>by
  rw[Qe]at r
  cases r with
  | @cons a b as bs h t =>
   obtain⟨rs,c,q⟩:=Zfk (P:=P) (w:=w) t
   obtain⟨b1,b2⟩:=b
   exact⟨(p.1,b2)::rs,⟨Zdo h.1,rfl,c⟩,.cons ⟨rfl,h.2⟩ q⟩
def ZnR(trs:List (TE×TE)):TE:=fun σ H Q=>∀p,H p=none→Zin trs σ (upd H p (.dK [])) fun ps H2=>H2 p=some (.dK [])∧∃kvs:List (Key×V),ps=kvs.map (fun kv=>(kV kv.1,kv.2))∧kvs.length≤15∧Q (.ref p) (upd H2 p (.dK (ZaU [] kvs)))
theorem Zmx{X:Cx}{pos:Pos}{keys:List (Option Expr)}{values:List Expr}{trs:List (TE×TE)}(h:PPs X pos keys values trs)(hall:keys.all (·.isSome)=true)(hl:keys.length=values.length)(h0:keys≠[])
  (h15:keys.length≤15):PE X (.Dict keys values pos) (ZnR trs):=by
 intro pins s σ H Q I q
 have hn:=I.hok.fresh (Qg s.heap.objs.size)
 have I1:=I.laid (a:=s.heap.objs.size) (o:=.dK []) (h':=s.heap.push { cls:=.type "dict",data:=.dict #[] }) (t':=s.toks) (fun _ _ q=>Qd _ q) (Qg _) (Ze6 s.heap I.big)
 refine wpAny_Dict_walk (knd:=ZI X.prog X.w) hall hl h0 h15 (thn (h pins _ σ _ _ I1 (q _ hn)) fun ws s2 ⟨ps,H2,I2,rel,e,kvs,ep,lk,q2⟩=>?_)
 subst ep
 obtain⟨rs,c,rk⟩:=Zfk (P:=X.prog) (w:=X.w) rel
 obtain⟨z,hd,vs0,r0,dd⟩:=ZhY I2.hok e
 cases r0
 refine⟨rs,c,dd,fun h' dd' hs=>⟨.ref s.heap.objs.size,_,?_,rfl,q2⟩⟩
 have hz:(ZaU [] kvs).length≤sizeLine:=by
  have h1:=Zb5 kvs []
  rw[List.length_nil]at h1
  rw[sizeLine_eq];omega
 have he:∃q,h'.get? s.heap.objs.size=some q:=let ⟨q,_,_,hq,_⟩:=dd';⟨q,hq⟩
 exact Zel I2 (by rw[e];exact True.intro) hs he (Zfc hz hd (rk.merge .nil) dd')
structure M1 (X:Cx) (o:Expr) (m:Str) (apos:Pos) (e:Expr) (cpos:Pos):Prop where
 base:attributeBase o m X.env (eval o X.env)=eval o X.env
 few:((backTo cpos (starEach [e] X.env)).all (fun x=>!x.1)&&(backToKw cpos (keywordEach [] X.env)).all (fun x=>x.1.isSome)
  && decide (([e]:List Expr).length+([]:List Keyword).length+(if ([]:List Keyword).isEmpty then 0 else 1)<30))=true
 line:(apos.endLine == cpos.line)=true
 trees:backTo cpos (starEach [e] X.env)=[(false,eval e X.env)]
structure M2 (X:Cx) (o:Expr) (m:Str) (apos:Pos) (e f:Expr) (cpos:Pos):Prop where
 base:attributeBase o m X.env (eval o X.env)=eval o X.env
 few:((backTo cpos (starEach [e,f] X.env)).all (fun x=>!x.1)&&(backToKw cpos (keywordEach [] X.env)).all (fun x=>x.1.isSome)
  && decide (([e,f]:List Expr).length+([]:List Keyword).length+(if ([]:List Keyword).isEmpty then 0 else 1)<30))=true
 line:(apos.endLine == cpos.line)=true
 trees:backTo cpos (starEach [e,f] X.env)=[(false,eval e X.env),(false,eval f X.env)]
def IsD(H:Hp)(a:Addr):Prop:=(∃kvs,Rd H a (.dK kvs))∨∃kvs,Rd H a (.dT kvs)
theorem Zoc{X:Cx}{pins:List (Addr×Obj)}{σ:St}{H:Hp}{s:Shared}{a:Addr}(I:Inv X pins σ H s)(d:IsD H a) :
  s.TypeIs (.ref a) "dict"∧(∀b,Value.ref a=.ref b→∃ob,s.heap.get? b=some ob∧ob.dict=none)∧(a == sysModules)=false:=by
 rcases d with⟨kvs,e⟩|⟨kvs,e⟩
 ·obtain⟨_,hd,vs,_,dd⟩:=ZeR I.hok e
  refine⟨dd.typeIs,fun b q=>?_,hd⟩
  cases q
  obtain⟨ob,_,_,h1,h2,_⟩:=dd
  exact⟨ob,h1,h2.2.1⟩
 ·obtain⟨_,hd,xs,_,dd⟩:=Ze9 I.hok e
  refine⟨dd.typeIs,fun b q=>?_,hd⟩
  cases q
  obtain⟨ob,_,_,h1,h2,_⟩:=dd
  exact⟨ob,h1,h2.2.1⟩
section
variable {X:Cx} {pins:List (Addr×Obj)} {σ:St} {H:Hp} {s:Shared} {a:Addr} {y d:V} {u r:Value} {o:Option V} {A:Around} {E:Value→Shared→Prop}
theorem Zoh{Q:Value→Shared→Prop}(hu:A.units+1<cLine)(I:Inv X pins σ H s)(g:Za7 H a y o)(ry:Zy y u)(h:∀w' s',Inv X pins σ H s'→Zy (o.getD .non) w'→Q w' s') :
  wpAny (model X.prog X.w) A (call (.builtin "dict.get") [.ref a,u]) Q E s:=by
 rcases g with⟨kvs,k,e,ey,l⟩|⟨kvs,k,b,e,ey,eb,l⟩
 ·subst ey
  obtain⟨z,hd,vs,rel,dd⟩:=ZeR I.hok e
  refine call_meetsIn PySem.F.slot_dict_get dd.typeIs PySem.F.entry_dict_get (PySem.F.args_dict_get_2 _ _) (meets_dict_get (ZI X.prog X.w) a (Zdo ry) hd) ⟨_,dd.mapOf,h _ _ (I.tok _) ?_⟩
  rw[l]
  exact(rel.val k).getD rfl
 ·subst ey
  cases (show u=Value.ref b from ry)
  obtain⟨z,hd,xs,rel,dd⟩:=Ze9 I.hok e
  refine call_meetsIn PySem.F.slot_dict_get dd.typeIs PySem.F.entry_dict_get (PySem.F.args_dict_get_2 _ _) (meetsH_dict_get (tupleKind (ZI X.prog X.w)) a b hd) ⟨tupleKind_room_in1 hu,k,xs,Zev I.hok eb,dd,h _ _ (I.tok _) ?_⟩
  rw[l]
  exact(rel.val k).getD rfl
end
def Zlx(td ty:TE):TE:=fun σ H Q=>td σ H fun x H1=>∃a,x=.ref a∧IsD H1 a∧ty σ H1 fun y H2=>∃o,Za7 H2 a y o∧Q (o.getD .non) H2
def ZqJ(td ty tx:TE):TE:=fun σ H Q=>td σ H fun x H1=>∃a,x=.ref a∧IsD H1 a∧ty σ H1 fun y H2=>tx σ H2 fun z H3=>∃o,Za7 H3 a y o∧Q (o.getD z) H3
def ZqE(td ty:TE):TE:=fun σ H Q=>td σ H fun x H1=>∃a,x=.ref a∧IsD H1 a∧ty σ H1 fun y H2=>∃kvs k v,H2 a=some (.dK kvs)∧y=kV k∧Z6 kvs k=some v∧Q v (upd H2 a (.dK (ZdJ kvs k)))
def Zqb(td ty tx:TE):TE:=fun σ H Q=>td σ H fun x H1=>∃a,x=.ref a∧IsD H1 a∧ty σ H1 fun y H2=>tx σ H2 fun z H3=>∃kvs k,H3 a=some (.dK kvs)∧y=kV k ∧
 (∀v,Z6 kvs k=some v→Q v (upd H3 a (.dK (ZdJ kvs k))))∧(Z6 kvs k=none→Q z H3)
section
variable {X:Cx} {o e f:Expr} {apos cpos:Pos} {td ty tx:TE}
theorem ZlO(hu:X.A.units+1<cLine)(ho:PE X o td)(he:PE X e ty)(m:M1 X o "get" apos e cpos):PE X (.Call (.Attribute o "get" apos) [e] [] cpos) (Zlx td ty):=by
 intro pins s σ H Q I h
 refine wpAny_Call_method m.base m.few m.line Q7 PySem.F.slot_dict_get PySem.F.type_dict_get (thn (ho pins s σ H _ I h) fun u s1 ⟨x,H1,I1,rx,a,ex,d,q1⟩=>?_)
 subst ex
 obtain rfl:u=Value.ref a:=rx
 obtain⟨t1,t2,_⟩:=Zoc I1 d
 refine⟨t1,t2,?_⟩
 rw[m.trees]
 refine Calls.callWith_builtin rfl (Calls.evalArgs_plain (Calls.spliced_cons (thn (he pins s1 σ H1 _ I1 q1) fun iv s2 ⟨y,H2,I2,ry,ov,g,q2⟩=>Calls.spliced_nil ?_)))
 exact Zoh hu I2 g ry fun w' s3 I3 rw'=>⟨_,H2,I3,rw',q2⟩
end
section
variable {X:Cx} {pins:List (Addr×Obj)} {σ:St} {H:Hp} {s:Shared} {a:Addr} {kvs:List (Key×V)} {A:Around} {E:Value→Shared→Prop}
end
section
variable {X:Cx} {pins:List (Addr×Obj)} {σ:St} {H:Hp} {s:Shared} {a:Addr} {y:V} {u:Value} {A:Around} {E:Value→Shared→Prop}
end
section
variable {X:Cx}
theorem Zkc:ZaM X (.builtin "len") (fun xs H Q=>∃a kvs,xs=[V.ref a]∧H a=some (.dK kvs)∧Q (.int kvs.length) H):=by
 intro pins s σ H xs us Q I r h
 obtain⟨a,kvs,rfl,ha,q⟩:=h
 obtain⟨u,rfl,ru⟩:=Zce r
 cases ru
 exact Zo8 I (.inl ha) fun t s' I'=>⟨.int kvs.length,H,I',⟨t,rfl⟩,q⟩
end
section
variable {κ:Type} [DecidableEq κ]
theorem ZhW{kvs:List (κ×V)}{k:κ}(h:Z6 kvs k=none):¬ k∈kvs.map (·.1):=by
 intro m
 obtain⟨p,hp,e⟩:=Qp.mp m
 have q:(kvs.any fun kv=>decide (kv.1=k))=true:=QaB.mpr ⟨p,hp,decide_eq_true e⟩
 rw[Zc0,h]at q
 exact absurd q (by simp)
theorem Zjs{kvs:List (κ×V)}{k:κ}{v:V}(h:Z6 kvs k=some v):k∈kvs.map (·.1):=by
 have q:(kvs.any fun kv=>decide (kv.1=k))=true:=by
  rw[Zc0,h]
  all_goals rfl
 obtain⟨p,hp,e⟩:=List.any_eq_true.mp q
 exact List.mem_map.mpr ⟨p,hp,of_decide_eq_true e⟩
end
structure Mf (P:Program) (w:World) (K:PySem.W.Frag) (mg:Str→Option Value) (base:Heap) (k:Nat) (C:Addr) (m:Str) (ps:List Str) (sp:Sp):Prop where
 ex:∃f fd,ZdB P w K mg base CX0 k f fd ps sp∧ZlE K C m f∧ZbW K fd ps []
structure Cf (P:Program) (w:World) (K:PySem.W.Frag) (mg:Str→Option Value) (base:Heap) (k:Nat) (C:Addr) (x:Str) (ps:List Str) (sp:Sp):Prop where
 ex:∃f fd,ZdB P w K mg base CX0 k f fd ps sp∧Mk K C f∧ZbW K fd ps []∧mg x=some (.ref C)
structure Zdg (K:PySem.W.Frag) (C:Addr) (m qual:Str) (st:Stmt) (ps:List Str):Prop where
 ex:∃f fd,Fun K m qual st f fd∧ZlE K C m f∧ZbW K fd ps []
structure ZmX (K:PySem.W.Frag) (mg:Str→Option Value) (C:Addr) (x qual:Str) (st:Stmt) (ps:List Str):Prop where
 ex:∃f fd,Fun K "__init__" qual st f fd∧Mk K C f∧ZbW K fd ps []∧mg x=some (.ref C)
section
variable {P:Program} {w:World} {K:PySem.W.Frag} {mg:Str→Option Value} {base:Heap}
theorem Zdg.mf{C:Addr}{m qual:Str}{st:Stmt}{N ps:List Str}{k:Nat}{sp:Sp}(T:Zdg K C m qual st ps)(S:Zs N ps (Ze st))(len:∀vs H Q E,sp vs H Q E→vs.length=ps.length)
  (hbody:∀ (cdv:Value) (f:Addr) (A:Around) (outer:List Env) (s:Shared) (H:Hp) (vs:List V) (Q:VK) (E:XK),ZaF k (A.deeper (envOfC qual (Ze st) s.heap.objs.size f cdv))→sp vs H Q E →
   ∃t,PSs (ZgV CX0 P w K mg base N qual (Ze st) f cdv A outer s H E).nox (Zm st) t∧t { nx:=fun _ H'=>Q .non H',rt:=Q } (Zc6 N vs) H):Mf P w K mg base (k+1) C m ps sp:=by
 obtain⟨f,fd,F,m,b⟩:=T.ex
 exact⟨f,fd,F.ok S len (fun cdv A outer s H vs Q E hr h=>hbody cdv f A outer s H vs Q E hr h),m,b⟩
theorem ZmX.cf{C:Addr}{x qual:Str}{st:Stmt}{N ps:List Str}{k:Nat}{sp:Sp}(T:ZmX K mg C x qual st ps)(S:Zs N ps (Ze st))(len:∀vs H Q E,sp vs H Q E→vs.length=ps.length)
  (hbody:∀ (cdv:Value) (f:Addr) (A:Around) (outer:List Env) (s:Shared) (H:Hp) (vs:List V) (Q:VK) (E:XK),ZaF k (A.deeper (envOfC qual (Ze st) s.heap.objs.size f cdv))→sp vs H Q E →
   ∃t,PSs (ZgV CX0 P w K mg base N qual (Ze st) f cdv A outer s H E).nox (Zm st) t∧t { nx:=fun _ H'=>Q .non H',rt:=Q } (Zc6 N vs) H):Cf P w K mg base (k+1) C x ps sp:=by
 obtain⟨f,fd,F,m,b,g⟩:=T.ex
 exact⟨f,fd,F.ok S len (fun cdv A outer s H vs Q E hr h=>hbody cdv f A outer s H vs Q E hr h),m,b,g⟩
end
section
variable {X:Cx} {k j:Nat} {C:Addr} {m x:Str} {ps:List Str} {sp:Sp} {o e:Expr} {es:List Expr} {ta:TE} {t:TA} {p apos pos:Pos} {pl:Sem Bool}
theorem ZdG(F:Mf X.prog X.w X.K X.mg X.base k C m ps sp)(c:Cls X.K C)(hr:ZaF j X.A)(he:PE X o ta)(ha:PA X (e::es) t)(hjk:k≤j:=by decide)
  (hst:starEach (e::es) X.env=(false,eval e X.env)::starEach es X.env:=by rfl) (hpl:(backTo pos (starEach es X.env)).any (·.1)=false:=by rfl)
  (ht:eval (.Call (.Attribute o m apos) (e::es) [] pos) X.env=(do
   let ov ← eval o X.env
   standAt apos.atName
   let (f,first) ← holding [ov] (getMethod ov m pl)
   callWith pos f first (backTo pos (starEach (e::es) X.env)) (backToKw pos (keywordEach [] X.env))):=by rfl) :
  PE X (.Call (.Attribute o m apos) (e::es) [] pos) (Zi5 C m sp [] E0 ta t):=by
 obtain⟨f,fd,F,g,b⟩:=F.ex
 exact Zm3 he c g F (hr.mono hjk) b .nil Zjx ha hst hpl ht
theorem ZaA(F:Mf X.prog X.w X.K X.mg X.base k C m ps sp)(c:Cls X.K C)(hr:ZaF j X.A)(he:PE X o ta)(hjk:k≤j:=by decide)
  (ht:eval (.Call (.Attribute o m apos) [] [] pos) X.env=(do
   let ov ← eval o X.env
   standAt apos.atName
   let (f,first) ← holding [ov] (getMethod ov m pl)
   callWith pos f first (backTo pos (starEach [] X.env)) (backToKw pos (keywordEach [] X.env))):=by rfl) :
  PE X (.Call (.Attribute o m apos) [] [] pos) (Zi5 C m sp [] E0 ta ZnV):=by
 obtain⟨f,fd,F,g,b⟩:=F.ex
 exact ZlW he c g F (hr.mono hjk) b .nil Zjx ht
theorem Zl7(F:Cf X.prog X.w X.K X.mg X.base k C x ps sp)(hr:ZaF j X.A)(ha:PA X (e::es) t)(hjk:k+1≤j:=by decide)(hg:Gl X x:=by rfl)(hdb:(x == ("__debug__" : Str))=false:=by decide)
  (he:starEach (e::es) X.env=(false,eval e X.env)::starEach es X.env:=by rfl) (hpl:(backTo pos (starEach es X.env)).any (·.1)=false:=by rfl) :
  PE X (.Call (.Name x p) (e::es) [] pos) (ZnH C sp [] E0 t):=by
 obtain⟨f,fd,F,g,b,gm⟩:=F.ex
 exact Zmk g F (hr.mono hjk) hg gm b .nil Zjx ha hdb he hpl
end
section
variable {X:Cx} {pins:List (Addr×Obj)} {σ:St} {H:Hp} {s:Shared} {d:Addr} {o:Obj} {u:HO}
theorem Inv.freeze(I:Inv X pins σ H s)(e:H d=some u)(mu:Mut (some u))(ho:s.heap.get? d=some o):Inv X pins σ (upd H d (.frz o u)) s:=by
 have h:=I.write (x:=d) (e:=d) (o:=.frz o u) (t':=s.toks) (h':=s.heap) (by rw[e];exact mu) (.inl rfl) (fun b v _ q=>q) ⟨o,ho⟩ ?_
 ·exact h
 ·refine⟨ho,(I.hok d u e).stay (fun b v _ q=>q) (fun b q=>?_) (fun b xs q=>?_)⟩
  ·rw[Zc (fun z=>by rw[z,e]at q;cases q;exact mu)];exact q
  ·rw[Zc (fun z=>by rw[z,e]at q;cases q;exact mu)];exact q
theorem Inv.nofrz(I:Inv X pins σ H s)(e:H d=some u)(mu:Mut (some u)):∀o' u',X.H₀ d≠some (.frz o' u'):=fun o' u' z=>by
 have:=I.base.frzs d o' u' z
 rw[e]at this
 cases this
 exact mu
theorem Inv.thaw(I:Inv X pins σ H s)(e:H d=some (.frz o u))(mu:Mut (some u))(n:∀o' u',X.H₀ d≠some (.frz o' u')):Inv X pins σ (upd H d u) s:=by
 have hne:∀b,H b=none→b≠d:=fun b z=>Zb (H:=H) e z |>.symm
 refine⟨I.ok,I.os,I.bare,⟨I.base.keep,I.base.slot,fun b v a1 a2 a3=>?_,I.base.there,fun b xs q=>?_,fun b o' u' q=>?_,fun b ps q=>?_⟩,I.loc,I.cell,?_,fun x c q=>?_,fun p hp=>?_,?_,I.len⟩
 ·have:=I.base.free b v a1 a2 a3
  rw[Zc (hne b this)];exact this
 ·have:=I.base.tups b xs q
  rw[Zc (fun z=>by rw[z,e]at this;cases this)];exact this
 ·have:=I.base.frzs b o' u' q
  rw[Zc (fun z=>by rw[z]at q;exact n o' u' q)];exact this
 ·obtain⟨more,this⟩:=I.base.tbls b ps q
  refine⟨more,?_⟩
  rw[Zc (fun z=>by rw[z,e]at this;cases this)];exact this
 ·rw[Zc (hne _ I.free)];exact I.free
 ·rw[Zc (hne _ (I.freeC x c q))];exact I.freeC x c q
 ·obtain⟨a1,a2,a3⟩:=I.pin p hp
  exact⟨a1,by rw[Zc (hne _ a2)];exact a2,a3⟩
 ·intro b v q
  have own:∀c a,H c=some (.own a)→(upd H d u) c=some (.own a):=fun c a q=>by rw[Zc (fun z=>by rw[z,e]at q;cases q)];exact q
  have tup:∀c xs,H c=some (.tup xs)→(upd H d u) c=some (.tup xs):=fun c xs q=>by rw[Zc (fun z=>by rw[z,e]at q;cases q)];exact q
  by_cases hb:b=d
  ·subst hb
   rw[Zf]at q
   cases q
   obtain⟨_,h2⟩:=(show Zal X.prog X.w H s.heap b (.frz o u) from I.hok b _ e)
   exact h2.stay (fun c v _ q=>q) (fun c q=>own c b q) tup
  ·rw[Zc hb]at q
   exact(I.hok b v q).stay (fun c v _ q=>q) (fun c q=>own c b q) tup
end
def Zpp(t:TE):TE:=fun σ H Q=>∃d u,H d=some u∧Mut (some u)∧t σ H fun v H'=>∃o,H' d=some (.frz o u)∧Q v (upd H' d u)
theorem Zi2{X:Cx}{e:Expr}{t:TE}(h:PE X e t):PE X e (Zpp t):=by
 intro pins s σ H Q I q
 obtain⟨d,u,e1,mu,q⟩:=q
 have n:=I.nofrz e1 mu
 refine thn (h pins s σ H _ I q) fun v s1 ⟨x,H1,I1,r1,o,e2,q1⟩=>?_
 exact⟨x,_,I1.thaw e2 mu n,r1,q1⟩
theorem Zjt{P:Program}{w:World}{k:Key}{v:Value}(h:(ZI P w).is k v=true):Zy (kV k) v:=by
 rw[ZiS]at h
 rcases Zai h with⟨i,t,rfl,rfl⟩|⟨x,t,rfl,rfl⟩
 ·exact⟨t,rfl⟩
 ·exact⟨t,rfl⟩
def Zlh:List V→Hp→VK→Prop:=fun xs H Q=>∃d kvs,xs=[.ref d]∧H d=some (.dK kvs)∧∀l,H l=none→Q (.ref l) (upd H l (.lst (kvs.map fun kv=>kV kv.1)))
theorem Zj8{P:Program}{w:World}:∀ (kvs:List (Key×V)) (vs:List (Key×Value)) (us:List Value),KV kvs vs→us.length=vs.length→(∀ (j:Nat) (v:Value),us[j]? = some v→∃k x,vs[j]? = some (k,x)∧(ZI P w).is k v=true)→ZB (kvs.map fun kv=>kV kv.1) us:=by
 intro kvs vs us r
 unfold KV at r
 induction r generalizing us with
 | nil =>
  intro hl _
  cases us with
  | nil=>exact .nil
  | cons a b=>simp at hl
 | @cons p q ps qs h t ih =>
  intro hl hp
  cases us with
  | nil=>simp at hl
  | cons a b =>
   obtain⟨k,x,e,hk⟩:=hp 0 a rfl
   have e':q=(k,x):=by simpa using e
   rw[Qe]
   refine .cons ?_ (ih b (by simpa using hl) fun j v hv=>?_)
   ·rw[h.1,e'];exact Zjt hk
   ·simpa using hp (j+1) v (by simpa using hv)
theorem Zik{X:Cx}(hc:X.calm=true):ZaM X (.type "list") Zlh:=by
 intro pins s σ H xs us Q I r h
 obtain⟨d,kvs,rfl,hd,q⟩:=h
 obtain⟨u,rfl,ru⟩:=Zce r
 cases ru
 obtain⟨z,lo,vs,rel,dd⟩:=(show Zal X.prog X.w H s.heap d (.dK kvs) from I.hok d _ hd)
 obtain⟨ep,da⟩:=dd.dictAt
 have hl:kvs.length=vs.length:=rel.length
 refine PySem.W.kdl_call (PySem.W.kdl_dict lo) (I.ok.hd hc) da (by omega) fun h' tk acc c hk hD hacc=>?_
 have hv:ZB (kvs.map fun kv=>kV kv.1) acc.toList:=Zj8 (P:=X.prog) (w:=X.w) kvs vs acc.toList rel (by rw[Array.length_toList];exact hacc.1) fun j v e=>hacc.2 j v (by rw[← Array.getElem?_toList];exact e)
 refine⟨.ref s.heap.objs.size,_,I.laid (a:=s.heap.objs.size) (o:=.lst (kvs.map fun kv=>kV kv.1)) (t':=tk) hk (Qg _) ?_,rfl,q _ (I.hok.fresh (Qg _))⟩
 exact⟨by rw[Qa];exact z,acc.toList,c,hv,by simpa using hD⟩
theorem Inv.dictF{X:Cx}{pins:List (Addr×Obj)}{σ:St}{H:Hp}{s:Shared}{d:Addr}{o:Obj}{kvs:List (Key×V)}{es:Array DictEntry}{ep:Nat}(I:Inv X pins σ H s)(e:H d=some (.frz o (.dK kvs)))(hd:o.data=.dict es ep) :
  ∃vs,KV kvs vs∧s.heap.DictAt (ZI X.prog X.w) d vs ep:=by
 obtain⟨ho,_,_,vs,rel,o',es',ep',h1,h2,h3,h4⟩:=(show Zal X.prog X.w H s.heap d (.frz o (.dK kvs)) from I.hok d _ e)
 rw[ho]at h1
 cases h1
 rw[hd]at h3
 cases h3
 exact⟨vs,rel,o,es,ho,h2,hd,h4⟩
theorem Zlz{kvs:List (Key×V)}{vs:List (Key×Value)}(r:KV kvs vs):∀ (i:Nat) (k:Key) (x:V),kvs[i]? = some (k,x)→∃u,vs[i]? = some (k,u)∧Zy x u:=by
 unfold KV at r
 induction r with
 | nil=>intro i k x h;simp at h
 | @cons p q ps qs h t ih =>
  intro i k x hx
  cases i with
  | zero =>
   have e:p=(k,x):=by simpa using hx
   refine⟨q.2,?_,?_⟩
   ·have:q=(k,q.2):=by rw[show k=q.1 by rw[← h.1,e]]
    simpa using this
   ·have:=h.2;rw[e]at this;exact this
  | succ i=>simpa using ih i k x (by simpa using hx)
def Itv(d:Addr)(o:Obj)(kvs:List (Key×V)):It :=
 ⟨fun i H=>H d=some (.frz o (.dK kvs))∧i<kvs.length,fun i H v H'=>H'=H∧∃k,kvs[i]? = some (k,v),fun i H=>H d=some (.frz o (.dK kvs))∧kvs.length≤i⟩
def Itk(d:Addr)(o:Obj)(kvs:List (Key×V)):It :=
 ⟨fun i H=>H d=some (.frz o (.dK kvs))∧i<kvs.length,fun i H v H'=>H'=H∧∃k x,kvs[i]? = some (k,x)∧v=kV k,fun i H=>H d=some (.frz o (.dK kvs))∧kvs.length≤i⟩
theorem Zks{P:Program}{w:World}{K:PySem.W.Frag}{tg:Expr}{d it:Addr}{o:Obj}{kvs:List (Key×V)}{es:Array DictEntry}{ep:Nat}(hd:o.data=.dict es ep):Zkp P w K tg (Itv d o kvs) [it] it (fun i h=>h.IsValIter it d i kvs.length ep) where
 mem:=by simp
 obj:=fun i h st b hb=>by
  have e:b=it:=by simpa using hb
  subst e
  obtain⟨o,e,c,d⟩:=st
  exact⟨o,e,fun v z=>by rw[d]at z;cases z⟩
 keep:=fun i h h' st k=>by
  obtain⟨o,e,r⟩:=st
  exact⟨o,k it (by simp) o e,r⟩
 item:=by
  intro X hP hw hK hc i pins s σ H E I hf st hg
  subst hP hw hK
  obtain⟨f0,f1,f2,f3,f4,f5⟩:=hf it (by simp)
  obtain⟨hfz,hi⟩:=hg
  obtain⟨vs,rel,da⟩:=I.dictF hfz hd
  have hl:kvs.length=vs.length:=rel.length
  obtain⟨u,hu,ru⟩:=Zlz rel i kvs[i].1 kvs[i].2 (Qb hi)
  refine wpAny_pyNext_values_item (by rw[← hl];exact st) da hu fun h' st' sb=>?_
  rw[← hl]at st'
  have I1:Inv X pins σ H { s with heap:=h' }:=I.turned (t':=s.toks) (fun b o hb e=>(sb.2 b hb).trans e) f0 f1 f3 f4 f5
  obtain⟨o1,e1,c1,d1⟩:=id st'
  exact⟨_,rfl,Zl9 (s:={ s with heap:=h' }) e1 c1 d1 (by decide) ⟨kvs[i].2,H,I1,ru,⟨rfl,kvs[i].1,Qb hi⟩,st',fun b hb=>(hf b hb).1⟩⟩
 done:=by
  intro X hP hw hK hc i pins s σ H E I hf st hg
  subst hP hw hK
  obtain⟨f0,f1,f2,f3,f4,f5⟩:=hf it (by simp)
  obtain⟨hfz,hi⟩:=hg
  obtain⟨vs,rel,da⟩:=I.dictF hfz hd
  have hl:kvs.length=vs.length:=rel.length
  exact wpAny_pyNext_values_end (I.ok.hd hc) (by rw[← hl];exact st) da (Qab (by omega)) fun h' eb=>⟨rfl,I.turned (t':=s.toks) (fun b o hb e=>eb b o hb e) f0 f1 f3 f4 f5⟩
 self:=fun _ _ _ _ _ st h=>wpAny_pyIter_valiter st h
def iKeys(tl:TE):TI:=fun σ H R=>tl σ H fun x H1=>∃d kvs,x=.ref d∧H1 d=some (.dK kvs)∧∀o,R (Itk d o kvs) (upd H1 d (.frz o (.dK kvs)))
def rSortedD:List V→Hp→VK→Prop:=fun xs H Q=>∃d kvs ns,xs=[.ref d]∧H d=some (.dK kvs)∧kvs.map (·.1)=ns.map Sum.inl∧ns.length<64 ∧
 ∀ (l:Addr) (ns':List Int),H l=none→ns'.Perm ns→ns'.Pairwise (·≤·)→Q (.ref l) (upd H l (.lst (ns'.map V.int)))
def rSumL(K:PySem.W.Frag):List V→Hp→VK→Prop:=fun vs H Q=>∃ (p:Addr) (ns:List Int),vs=[.ref p]∧SqL K H p (ns.map V.int)∧ns.length≤1000∧(∀n∈ns,0≤n∧n≤1000000)∧Q (.int ns.sum) H
def Zo9(tl:TE):TI:=fun σ H R=>tl σ H fun x H1=>∃d kvs,x=.ref d∧H1 d=some (.dK kvs)∧∀o,R (Itv d o kvs) (upd H1 d (.frz o (.dK kvs)))
theorem ZmU{X:Cx}{tg o:Expr}{to:TE}{apos cpos:Pos}(ho:PE X o to)(hbase:attributeBase o "values" X.env (eval o X.env)=eval o X.env:=by rfl)(hline:(apos.endLine == cpos.line)=true:=by rfl) :
  PI X tg (.Call (.Attribute o "values" apos) [] [] cpos) (Zo9 to):=by
 intro pins s σ H R I h
 refine wpAny_Call_method0_late hbase hline (thn (ho pins s σ H _ I h) fun v s1 ⟨x,H1,I1,r1,q1⟩=>?_)
 obtain⟨d,kvs,e,hd,q⟩:=q1
 subst e
 cases r1
 obtain⟨z,lo,vs,rel,ob,es,ep,h1,h2,h3,h4⟩:=(show Zal X.prog X.w H1 s1.heap d (.dK kvs) from I1.hok d _ hd)
 have hlen:kvs.length=vs.length:=rel.length
 have I2:=I1.freeze hd True.intro h1
 have dd:s1.heap.DictOf (ZI X.prog X.w) d vs:=⟨ob,es,ep,h1,h2,h3,h4⟩
 refine⟨"dict", "dict.values",Q7,PySem.F.slot_dict_values,PySem.F.type_dict_values,dd.typeIs,fun a e=>?_,?_⟩
 ·cases e;exact⟨ob,h1,h2.2.1⟩
 refine Calls.callWith_builtin rfl (PySem.evalArgs_none ?_)
 refine call_meetsIn PySem.F.slot_dict_values dd.typeIs PySem.F.entry_dict_values (PySem.F.args_dict_values_1 _) (meets_dict_values (ZI X.prog X.w) d lo) ⟨⟨vs,dd⟩,?_⟩
 have hv:(s1.heap.push { cls:=.type "dict_values",data:=.fields #[.ref d] }).IsValuesView s1.heap.objs.size d:=⟨_,QA _ rfl,rfl,rfl⟩
 have da:(s1.heap.push { cls:=.type "dict_values",data:=.fields #[.ref d] }).DictAt (ZI X.prog X.w) d vs ep:=⟨ob,es,Qd _ h1,h2,h3,h4⟩
 refine wpAny_pyIter_values (s:={ s1 with heap:=s1.heap.push { cls:=.type "dict_values",data:=.fields #[.ref d] } }) hv da ?_
 rw[← hlen]
 have I3:Inv X pins σ (upd H1 d (.frz ob (.dK kvs))) { s1 with heap:=s1.heap.push { cls:=.type "dict_values",data:=.fields #[.ref d] } }:=I2.kept (t':=s1.toks) fun b o e=>Qd _ e
 refine⟨_,[_],_,Itv d ob kvs,upd H1 d (.frz ob (.dK kvs)),rfl,I3.kept (t':=s1.toks) fun b o e=>Qd _ e,Zks h3,⟨_,QA _ rfl,rfl,rfl⟩,fun b hb=>?_,q ob⟩
 have e:=Ql.mp hb
 rw[e]
 exact I3.fpOk (Qg _) (I3.hok.fresh (Qg _))
def Iti(d:Addr)(o:Obj)(kvs:List (Key×V)):It :=
 ⟨fun i H=>H d=some (.frz o (.dK kvs))∧i<kvs.length,
  fun i H v H'=>∃p k x,H p=none∧v=.ref p∧kvs[i]? = some (k,x)∧H'=upd H p (.tup [kV k,x]),
  fun i H=>H d=some (.frz o (.dK kvs))∧kvs.length≤i⟩
theorem Ziw{P:Program}{w:World}{K:PySem.W.Frag}{elts:List Expr}{x1:Nat}{tpos:Pos}{d it:Addr}{o:Obj}{kvs:List (Key×V)}{es:Array DictEntry}{ep:Nat}(hd:o.data=.dict es ep) :
  Zkp P w K (.Tuple elts x1 tpos) (Iti d o kvs) [it] it (fun i h=>∃ok ov,IsItemIter h it d i kvs.length ep ok ov) where
 mem:=by simp
 obj:=fun i h st b hb=>by
  have e:b=it:=by simpa using hb
  subst e
  obtain⟨ok,ov,he⟩:=st
  exact⟨_,he,fun v z=>by cases z⟩
 keep:=fun i h h' st k=>by
  obtain⟨ok,ov,he⟩:=st
  exact⟨ok,ov,k it (by simp) _ he⟩
 item:=by
  intro X hP hw hK hc i pins s σ H E I hf st hg
  subst hP hw hK
  obtain⟨ok,ov,he⟩:=st
  obtain⟨hfz,hi⟩:=hg
  obtain⟨vs,rel,da⟩:=I.dictF hfz hd
  have hl:kvs.length=vs.length:=rel.length
  obtain⟨u,hu,ru⟩:=Zlz rel i kvs[i].1 kvs[i].2 (Qb hi)
  refine wpAny_pyNext_items_item (by rw[← hl];exact he) da hu fun key h' hkey a1 a2 a3 a4=>?_
  rw[← hl]at a1
  have lt:∀ {b:Addr} {o:Obj},s.heap.get? b=some o→s.heap.objs.size≠b:=fun q=>Qaf (Qj q)
  have hes:s.heap.objs.size≠it:=lt he
  refine⟨_,rfl,wpAny_letOwnedTupleGo_items a1 fun h'' he'' hs''=>?_⟩
  have hs':Heap.SameBut it h' h'':=hs''
  have I2:Inv X pins σ (upd H s.heap.objs.size (.tup [kV kvs[i].1,kvs[i].2])) { s with heap:=h'',toks:=s.toks }:=by
   refine I.zipped (fp:=[it]) (u:=key) (v:=u) hf (Zjt hkey) ru (hs'.extBut _ _ hes a2) (fun b hb=>?_) fun c o hc q=>?_
   ·have e:=Ql.mp hb
    subst e
    exact⟨_,he''⟩
   ·have hc':c≠it:=fun z=>hc (by rw[z];simp)
    exact hs'.extBut _ _ hc' (a4 c o hc' q)
  refine⟨.ref s.heap.objs.size,_,I2,rfl,⟨s.heap.objs.size,kvs[i].1,kvs[i].2,I.fresh,rfl,Qb hi,rfl⟩,⟨_,_,he''⟩,fun b hb=>?_⟩
  have e:=Ql.mp hb
  subst e
  rw[Zc hes.symm]
  exact(hf _ hb).1
 done:=by
  intro X hP hw hK hc i pins s σ H E I hf st hg
  subst hP hw hK
  obtain⟨ok,ov,he⟩:=st
  obtain⟨f0,f1,f2,f3,f4,f5⟩:=hf it (by simp)
  obtain⟨hfz,hi⟩:=hg
  obtain⟨vs,rel,da⟩:=I.dictF hfz hd
  have hl:kvs.length=vs.length:=rel.length
  exact wpAny_pyNext_items_end (I.ok.hd hc) (by rw[← hl];exact he) da (Qab (by omega)) fun h' eb=>⟨rfl,I.turned (t':=s.toks) (fun b o hb e=>eb b o hb e) f0 f1 f3 f4 f5⟩
 self:=fun _ _ _ _ _ st h=>by obtain⟨ok,ov,he⟩:=st;exact PySem.W.kcp_self he h
def ZoS(tl:TE):TI:=fun σ H R=>tl σ H fun x H1=>∃d kvs,x=.ref d∧H1 d=some (.dK kvs)∧∀o,R (Iti d o kvs) (upd H1 d (.frz o (.dK kvs)))
theorem ZlV{X:Cx}{elts:List Expr}{x1:Nat}{tpos:Pos}{o:Expr}{to:TE}{apos cpos:Pos}(ho:PE X o to)(hbase:attributeBase o "items" X.env (eval o X.env)=eval o X.env:=by rfl)(hline:(apos.endLine == cpos.line)=true:=by rfl) :
  PI X (.Tuple elts x1 tpos) (.Call (.Attribute o "items" apos) [] [] cpos) (ZoS to):=by
 intro pins s σ H R I h
 refine wpAny_Call_method0_late hbase hline (thn (ho pins s σ H _ I h) fun v s1 ⟨x,H1,I1,r1,q1⟩=>?_)
 obtain⟨d,kvs,e,hd,q⟩:=q1
 subst e
 cases r1
 obtain⟨z,lo,vs,rel,ob,es,ep,h1,h2,h3,h4⟩:=(show Zal X.prog X.w H1 s1.heap d (.dK kvs) from I1.hok d _ hd)
 have hlen:kvs.length=vs.length:=rel.length
 have I2:=I1.freeze hd True.intro h1
 have dd:s1.heap.DictOf (ZI X.prog X.w) d vs:=⟨ob,es,ep,h1,h2,h3,h4⟩
 refine⟨"dict", "dict.items",Q7,PySem.F.slot_dict_items,PySem.F.type_dict_items,dd.typeIs,fun a e=>?_,?_⟩
 ·cases e;exact⟨ob,h1,h2.2.1⟩
 refine Calls.callWith_builtin rfl (PySem.evalArgs_none ?_)
 refine call_meetsIn PySem.F.slot_dict_items dd.typeIs PySem.F.entry_dict_items (PySem.F.args_dict_items_1 _) (meets_dict_items (ZI X.prog X.w) d lo) ⟨⟨vs,dd⟩,?_⟩
 have hv:(s1.heap.push { cls:=.type "dict_items",data:=.fields #[.ref d] }).IsItemsView s1.heap.objs.size d:=⟨_,QA _ rfl,rfl,rfl⟩
 have da:(s1.heap.push { cls:=.type "dict_items",data:=.fields #[.ref d] }).DictAt (ZI X.prog X.w) d vs ep:=⟨ob,es,Qd _ h1,h2,h3,h4⟩
 refine wpAny_pyIter_items (s:={ s1 with heap:=s1.heap.push { cls:=.type "dict_items",data:=.fields #[.ref d] } }) hv da ?_
 rw[← hlen]
 have I3:Inv X pins σ (upd H1 d (.frz ob (.dK kvs))) { s1 with heap:=s1.heap.push { cls:=.type "dict_items",data:=.fields #[.ref d] } }:=I2.kept (t':=s1.toks) fun b o e=>Qd _ e
 refine⟨_,[_],_,Iti d ob kvs,upd H1 d (.frz ob (.dK kvs)),rfl,I3.kept (t':=s1.toks) fun b o e=>Qd _ e,Ziw h3,⟨_,_,QA _ rfl⟩,fun b hb=>?_,q ob⟩
 have e:=Ql.mp hb
 rw[e]
 exact I3.fpOk (Qg _) (I3.hok.fresh (Qg _))
theorem Zmv{X:Cx}{pins:List (Addr×Obj)}{s:Shared}{σ:St}{H:Hp}{d:Addr}{kvs:List (Key×V)}{k:Key}{v:V}{ky u:Value}{Q:Hp→Prop}(I:Inv X pins σ H s)(hH:H d=some (.dK kvs))(hz:kvs.length<sizeLine)(rk:Zy (kV k) ky)(rv:Zy v u)
  (q:Q (upd H d (.dK (Za1 kvs k v)))):wpAny (model X.prog X.w) X.A (dictSet d ky u) (fun _ s'=>∃H',Inv X pins σ H' s'∧Q H') X.xe s:=by
 obtain⟨_,hd,vs,rel,dd⟩:=ZhY I.hok hH
 refine wpAny_dictSet_pairs (knd:=ZI X.prog X.w) (k:=k) (Zdo rk) dd (fun h' dd' hs=>?_) (by rw[← rel.length];omega)
 refine⟨_,?_,q⟩
 obtain⟨o,ho,_⟩:=Heap.dictOf_iff.mp dd'
 exact Zel I (by rw[hH];exact True.intro) hs ⟨o,ho⟩ (Zfc (QH (Zb4 kvs k v) (by omega)) hd (rel.put k rv) dd')
def Zgz(J:It)(D:Addr)(k:Nat)(σ:St)(H1:Hp)(g:TG)(tc:TT)(tk te:TE)(Q:VK):Prop :=
 ∃W:Nat→Nat→List (Key×V)→St→Hp→Prop,(∃m,W 0 m [] (σ++List.replicate k none) (upd H1 D (.dK []))) ∧
  ∀i m ys σ2 H2,W i m ys σ2 H2→(J.stop i H2∧Q (.ref D) H2) ∨
   (J.go i H2∧∃N:List (Key×V)→St→Hp→Prop,(∀ys' σ' H',N ys' σ' H'→∃m',m'<m∧W (i+1) m' ys' σ' H')∧∀x H3,J.yld i H2 x H3→g x σ2 H3 fun σ4 H4=>tc σ4 H4 fun b H5 =>
    if b=true then tk σ4 H5 fun kv H6=>te σ4 H6 fun y H7=>∃k:Key,kv=kV k∧H7 D=some (.dK ys)∧ys.length<sizeLine∧N (Za1 ys k y) σ4 (upd H7 D (.dK (Za1 ys k y))) else N ys σ4 H5)
def ZiQ(n:Nat)(wi:TI)(g:TG)(tc:TT)(tk te:TE):TE:=fun σ H Q=>wi σ H fun J H1=>∀D,H1 D=none→Zgz J D n σ H1 g tc tk te Q
section
variable {X:Cx} {N N':List Str} {o c:Scope}
theorem Zgr{kx vx tg iter:Expr}{ifs:List Expr}{pos pos':Pos}{wi:TI}{g:TG}{tc:TT}{tk te:TE}{use:Option (Value→Sem Unit)}{QQ:Value→Shared→Prop}(S:ZY N N' o c)(hN:X.N=N)(ho:X.env.scope=o)(hc:X.calm=true)
  (hi:PI X tg iter wi) (hg:∀C s H fp,PG (ZR X c N' C s H fp) tg g) (ht:∀C s H fp,PTs (ZR X c N' C s H fp) ifs tc) (hk:∀C s H fp,PE (ZR X c N' C s H fp) kx tk) (he:∀C s H fp,PE (ZR X c N' C s H fp) vx te)
  (hs:∀x,foldedSetIterable iter X.env x=pure x) {pins:List (Addr×Obj)} {s:Shared} {σ:St} {H:Hp} {Q:VK} (I:Inv X pins σ H s) (h:ZiQ (N'.length-N.length) wi g tc tk te σ H Q)
  (post:∀ (D C:Addr) (s5:Shared) (H5:Hp) (m:Str→Option Value),Inv X pins σ H5 s5→H5 C=none→s5.heap.Ns C m→C≠X.env.locals→X.s₀.heap.objs.size≤C→(∀x a,X.env.cells.lookup x=some a→a≠C)→(∀p∈X.pn++pins,p.1≠C) →
   Q (.ref D) H5→compPost (model X.prog X.w) X.A X.xe use QQ (.ref D) C (.ok .next) s5) :
  wpAny (model X.prog X.w) X.A (comprehension (.DictComp kx vx [⟨tg,iter,ifs,0⟩] c pos) c X.env pos' newDict false (eval iter X.env) use) QQ X.xe s:=by
 have hclos:closureFor c X.env=pure (Zar X.env.cells c.names []):=ZdH fun y hy hf=>by
  refine I.ok.has y.1 ?_
  show X.env.scope.names.lookup y.1=_∨X.env.scope.names.lookup y.1=_
  rw[ho];exact(S.free y hy hf).2
 refine wpAny_comprehension_free (use:=use) rfl hs hclos S.kind S.loc (thn (hi pins s σ H _ I h) fun v s1 h1=>thn h1 fun itv s2 h2=>?_)
 obtain⟨it,fp,tn,J,H2,e,I2,T,st2,f2,hR⟩:=h2
 subst e
 have hD:H2 s2.heap.objs.size=none:=I2.fresh
 have I3:Inv X pins σ (upd H2 s2.heap.objs.size (.dK [])) { s2 with heap:=s2.heap.push { cls:=.type "dict",data:=.dict #[] } } :=
  I2.laid (t':=s2.toks) (fun _ _ q=>Qd _ q) (Qg _) (Ze6 _ (Qau (by decide) (show mainGlobals<s2.heap.objs.size from(I2.mod.glob.keeps I2.bk).lt)))
 have fpl:∀b∈fp,b<s2.heap.objs.size:=fun b hb=>by
  obtain⟨ob,e,_⟩:=T.obj 0 _ st2 b hb
  exact Qj e
 refine wpAny_newObj_type (wpAny_newFunctionEnv S.nocell (by intro y hy;simp at hy) (fun h₁ hns₁ hsb₁=>?_) S.kind)
 have e3:∃s3:Shared,s3={ s2 with heap:=s2.heap.push { cls:=.type "dict",data:=.dict #[] } }:=⟨_,rfl⟩
 obtain⟨s3,hs3⟩:=e3
 have e3:s3.heap=s2.heap.push { cls:=.type "dict",data:=.dict #[] }:=by rw[hs3]
 have sz3:s3.heap.objs.size=s2.heap.objs.size+1:=by rw[e3,Heap.size_push]
 have fpl3:∀b∈fp,b<s3.heap.objs.size:=fun b hb=>QB (fpl b hb) (by rw[sz3];exact Q8 _)
 have f3:∀b∈fp,Zeq X pins (upd H2 s2.heap.objs.size (.dK [])) b:=fun b hb=>⟨by rw[Zc (Qz (fpl b hb))];exact(f2 b hb).1,(f2 b hb).2⟩
 have st3:tn 0 s3.heap:=T.keep 0 _ _ st2 fun b _ ob e=>by rw[e3];exact Qd _ e
 rw[← hs3]at I3
 show codeAny (model X.prog X.w) X.A (.compStart _ 0 (.ref it) (.ref s2.heap.objs.size) (compEnvC c (Zar X.env.cells c.names []) (s2.heap.push { cls:=.type "dict",data:=.dict #[] }).objs.size X.env))
  (compPost (model X.prog X.w) X.A X.xe use QQ (.ref s2.heap.objs.size) (s2.heap.push { cls:=.type "dict",data:=.dict #[] }).objs.size)
  { s2 with heap:=h₁,toks:=s2.toks+([]:List (Str×Value)).length }
 have hns:h₁.Ns s3.heap.objs.size (fun x=>([]:List (Str×Value)).reverse.lookup x):=by rw[e3];exact hns₁
 have hk1:∀b ob,s3.heap.get? b=some ob→h₁.get? b=some ob:=fun b ob e=>by
  rw[e3]at e
  exact hsb₁.extBut b ob (Qz (Qj e)) (Qd _ e)
 rw[← e3]
 have es4:({ s2 with heap:=h₁,toks:=s2.toks+([]:List (Str×Value)).length }:Shared)={ s3 with heap:=h₁,toks:=s2.toks }:=by rw[hs3];rfl
 rw[es4]
 obtain⟨W,⟨m0,w0⟩,turn⟩:=hR s2.heap.objs.size hD
 have I4:=Zh9 (tk:=s2.toks) S hN ho I3 f3 fpl3 hns hk1
 have st4:tn 0 h₁:=T.keep 0 _ _ st3 fun b _ ob e=>hk1 b ob e
 generalize hX:ZR X c N' s3.heap.objs.size s3 (upd H2 s2.heap.objs.size (.dK [])) fp=Y at I4
 have Yp:Y.prog=X.prog:=by rw[← hX];rfl
 have Yw:Y.w=X.w:=by rw[← hX];rfl
 have YK:Y.K=X.K:=by rw[← hX];rfl
 have Yc:Y.calm=true:=by rw[← hX];exact hc
 have YA:Y.A=X.A:=by rw[← hX];rfl
 have Yenv:Y.env=compEnvC c (Zar X.env.cells c.names []) s3.heap.objs.size X.env:=by rw[← hX];rfl
 have Yl:Y.env.locals=s3.heap.objs.size:=by rw[Yenv];rfl
 have Yxe:Y.xe=fun _ _=>False:=by rw[← hX];rfl
 have hg':=hg s3.heap.objs.size s3 (upd H2 s2.heap.objs.size (.dK [])) fp
 have ht':=ht s3.heap.objs.size s3 (upd H2 s2.heap.objs.size (.dK [])) fp
 have hk':=hk s3.heap.objs.size s3 (upd H2 s2.heap.objs.size (.dK [])) fp
 have he':=he s3.heap.objs.size s3 (upd H2 s2.heap.objs.size (.dK [])) fp
 rw[hX]at hg' ht' hk' he'
 have stat:∀ {H':Hp},(∀b∈fp,H' b=none)→∀b∈fp,Zeq Y [] H' b:=fun {H'} hn b hb=>by
  obtain⟨_,q1,q2,q3,q4,_⟩:=f3 b hb
  have z1:=I4.ok.exf b (by rw[← hX];exact hb)
  refine⟨hn b hb,z1.1,I4.ok.exfs b (by rw[← hX];exact hb),.inl (by rw[← hX];exact hb),z1.2,fun p hp=>?_⟩
  have hp':p∈([]:List (Addr×Obj)):=by
   have:Y.pn=[]:=by rw[← hX];rfl
   rw[this]at hp;exact hp
  cases hp'
 have fin:∀ (s5:Shared) (σ5:St) (H5:Hp),Inv Y [] σ5 H5 s5→Q (.ref s2.heap.objs.size) H5→compPost (model X.prog X.w) X.A X.xe use QQ (.ref s2.heap.objs.size) s3.heap.objs.size (.ok .next) s5:=fun s5 σ5 H5 I5 q=>by
  obtain⟨m,hn,_⟩:=id I5.loc
  rw[Yl]at hn
  have hCn:H5 s3.heap.objs.size=none:=by have:=I5.free;rw[Yl]at this;exact this
  have un:Un (frs X.stack) fp (upd H2 s2.heap.objs.size (.dK [])) H5 s3.heap s5.heap:=by
   have:=I5.base
   rw[← hX]at this
   exact this
  have os5:s5.os=s3.os:=by have:=I5.os;rw[← hX]at this;exact this
  have hok5:HOk X.prog X.w H5 s5.heap:=by
   have:=I5.hok
   rw[Yp,Yw]at this
   exact this
  refine post _ _ s5 H5 m (I3.call' (s':=s5) (ch:=fp) os5 un hok5 I5.bare fun b hb=>?_) hCn hn (Qaf I3.lt) I3.sz (fun x a e=>?_) (fun p hp=>?_) q
  ·obtain⟨_,q1,_,q3,q4,q5⟩:=f3 b hb
   exact⟨q3,q1,q4,q5⟩
  ·obtain⟨v,ob,e',_⟩:=I3.cell x a e
   exact Qz (Qj e')
  ·exact Qz (Qj (I3.pin p hp).1)
 have loop:codeAny (model X.prog X.w) X.A (.compLoop (.DictComp kx vx [⟨tg,iter,ifs,0⟩] c pos) 0 (.ref it) (.ref s2.heap.objs.size) (compEnvC c (Zar X.env.cells c.names []) s3.heap.objs.size X.env))
   (compPost (model X.prog X.w) X.A X.xe use QQ (.ref s2.heap.objs.size) s3.heap.objs.size) { s3 with heap:=h₁,toks:=s2.toks }:=by
  rw[← Yenv,← YA]
  refine ZfO (E:=fun _ _=>False) (fun n s'=>∃i ys σ' H',Inv Y [] σ' H' s'∧tn i s'.heap∧(∀b∈fp,H' b=none)∧W i n ys σ' H') (fun _ _ z=>z) ?_ m0
   ⟨0,[],_,_,I4,st4,fun b hb=>(f3 b hb).1,?_⟩
  ·rintro n s5 ⟨i,ys,σ5,H5,I5,st5,fr5,w5⟩
   rcases turn i n ys σ5 H5 w5 with⟨stop,qn⟩|⟨go,Nn,hNn,step⟩
   ·refine thn (T.done Y Yp Yw YK Yc i [] s5 σ5 H5 _ I5 (stat fr5) st5 stop) fun r s6 ⟨hr,I6⟩=>?_
    subst hr
    have fq:=fin s6 σ5 H5 I6 qn
    rw[← YA]at fq
    exact fq
   ·refine thn (T.item Y Yp Yw YK Yc i [] s5 σ5 H5 _ I5 (stat fr5) st5 go) fun r s6 ⟨u,hr,h6⟩=>?_
    subst hr
    refine thn h6 fun _ s7 ⟨x,H7,I7,r7,y7,st7,fr7⟩=>?_
    have I7':=I7.pinned (stat fr7) (T.obj _ _ st7)
    have back:∀ {σ9:St} {H9:Hp} {s9:Shared},Inv Y ([]++ZeI fp s7.heap) σ9 H9 s9→Inv Y [] σ9 H9 s9∧tn (i+1) s9.heap∧∀b∈fp,H9 b=none:=fun {σ9 H9 s9} I9=>by
     refine⟨I9.unpinned,T.keep _ _ _ st7 fun b hb ob e=>(I9.pin (b,ob) (Qr _ (Qr _ (Zbt hb e)))).1,fun b hb=>?_⟩
     obtain⟨ob,e,d⟩:=T.obj _ _ st7 b hb
     exact(I9.pin (b,ob) (Qr _ (Qr _ (Zbt hb e)))).2.1
    have P1:=hg' _ s7 σ5 H7 x u _ I7' r7 (step x H7 y7)
    rw[Yp,Yw,Yxe]at P1
    refine thn P1 fun _ s8 ⟨σ8,H8,I8,q8⟩=>?_
    have P2:=ht' _ s8 σ8 H8 _ I8 q8
    rw[Yp,Yw,Yxe]at P2
    refine thn P2 fun ok s9 ⟨H9,I9,q9⟩=>?_
    cases ok with
    | false =>
     rw[if_neg Qi]at q9
     rw[if_neg Qi]
     obtain⟨b1,b2,b3⟩:=back I9
     obtain⟨m',hm',w9⟩:=hNn _ _ _ q9
     exact⟨m',hm',i+1,ys,σ8,H9,b1,b2,b3,w9⟩
    | true =>
     rw[if_pos rfl]at q9
     rw[if_pos rfl]
     have P3:=hk' _ s9 σ8 H9 _ I9 q9
     rw[Yp,Yw,Yxe]at P3
     refine thn P3 fun kv s10 ⟨vk,H10,I10,r10,q10⟩=>?_
     have P4:=he' _ s10 σ8 H10 _ I10 q10
     rw[Yp,Yw,Yxe]at P4
     refine thn P4 fun y s11 ⟨vy,H11,I11,r11,kk,eb,hDl,hsz,q11⟩=>?_
     subst eb
     have P5:=Zmv (X:=Y) I11 hDl hsz r10 r11 q11
     rw[Yp,Yw,Yxe]at P5
     refine thn P5 fun _ s12 ⟨H12,I12,q12⟩=>?_
     obtain⟨b1,b2,b3⟩:=back I12
     obtain⟨m',hm',w12⟩:=hNn _ _ _ q12
     exact⟨m',hm',i+1,Za1 ys kk vy,σ8,H12,b1,b2,b3,w12⟩
  ·exact w0
 have lp:=T.self X.A 0 { s3 with heap:=h₁,toks:=s2.toks } (fun it' s'=>codeAny (model X.prog X.w) X.A (.compLoop (.DictComp kx vx [⟨tg,iter,ifs,0⟩] c pos) 0 it' (.ref s2.heap.objs.size) (compEnvC c (Zar X.env.cells c.names []) s3.heap.objs.size X.env))
   (compPost (model X.prog X.w) X.A X.xe use QQ (.ref s2.heap.objs.size) s3.heap.objs.size) s') (fun _ _=>False) st4 loop
 exact codeAny_compStart_dict loop (wpAny_mono lp (fun _ _ z=>z) fun _ _ z=>z.elim)
theorem ZlN{kx vx tg iter:Expr}{ifs:List Expr}{pos:Pos}{wi:TI}{g:TG}{tc:TT}{tk te:TE}(S:ZY N N' o c)(hN:X.N=N)(ho:X.env.scope=o)(hc:X.calm=true)
  (hi:PI X tg iter wi) (hg:∀C s H fp,PG (ZR X c N' C s H fp) tg g) (ht:∀C s H fp,PTs (ZR X c N' C s H fp) ifs tc) (hk:∀C s H fp,PE (ZR X c N' C s H fp) kx tk) (he:∀C s H fp,PE (ZR X c N' C s H fp) vx te)
  (hs:∀x,foldedSetIterable iter X.env x=pure x:=by intro _;rfl) :
  PE X (.DictComp kx vx [⟨tg,iter,ifs,0⟩] c pos) (ZiQ (N'.length-N.length) wi g tc tk te):=by
 intro pins s σ H Q I h
 show wpAny _ _ (comprehension (.DictComp kx vx [⟨tg,iter,ifs,0⟩] c pos) c X.env _ newDict false (eval iter X.env)) _ _ _
 refine Zgr (use:=none) S hN ho hc hi hg ht hk he hs I h fun D C s5 H5 m I5 hCn hn n1 n2 n3 n4 q=>⟨m,hn,fun h' hsb=>?_⟩
 exact⟨.ref D,H5,I5.let hCn n1 n2 n3 n4 hsb,rfl,q⟩
theorem Zhz{i:Nat}{x:Str}{kx vx tg iter:Expr}{ifs:List Expr}{pos pos' spos:Pos}{wi:TI}{g:TG}{tc:TT}{tk te:TE}(hnd:X.N.Nodup)(hx:X.N[i]? = some x)(hl:Loc X.env.scope x)(S:ZY N N' o c)(hN:X.N=N)(ho:X.env.scope=o)(hc:X.calm=true)
  (hi:PI X tg iter wi) (hg:∀C s H fp,PG (ZR X c N' C s H fp) tg g) (ht:∀C s H fp,PTs (ZR X c N' C s H fp) ifs tc) (hk:∀C s H fp,PE (ZR X c N' C s H fp) kx tk) (he:∀C s H fp,PE (ZR X c N' C s H fp) vx te)
  (hsw:swapsWith (.DictComp kx vx [⟨tg,iter,ifs,0⟩] c pos) (some (.Name x pos')) spos.line X.env=pure true)
  (hs:∀x,foldedSetIterable iter X.env x=pure x:=by intro _;rfl) (hf:X.fn x=true∨X.env.scope.names.lookup x=some .local:=by first|exact .inl rfl|exact .inr rfl|assumption) :
  PS X (.Assign [.Name x pos'] (.DictComp kx vx [⟨tg,iter,ifs,0⟩] c pos) spos) (Zms (ZiQ (N'.length-N.length) wi g tc tk te) (Zhv i)):=by
 intro pins s σ H D I h
 rw[exec_Assign_Name_used _ _ _ _ hsw]
 refine wpAny_bind (wpAny_standAt (wpAny_bind ?_))
 show wpAny _ X.A (do let _ ← comprehension (.DictComp kx vx [⟨tg,iter,ifs,0⟩] c pos) c X.env _ newDict false (eval iter X.env) (some (assign (.Name x pos') X.env))) _ _ s
 refine wpAny_bind (thn (Zgr (QQ:=fun _ s'=>SP X pins D .next s') (use:=some (assign (.Name x pos') X.env)) S hN ho hc hi hg ht hk he hs I h ?_) fun _ s' hq=>wpAny_pure (wpAny_pure hq))
 intro L C s5 H5 m I5 hCn hn n1 n2 n3 n4 q
 show wpAny _ X.A (assign (.Name x pos') X.env (.ref L)) _ _ _
 refine wpAny_assign_Name (ZeB (v:=.ref L) I5 hnd hx hl rfl (fun s6 I6 ⟨a,hsb,ha⟩=>?_) hf)
 have nCa:C≠a:=by
  rcases ha with z|z
  ·rw[z];exact n1
  ·exact(n3 x a z).symm
 exact⟨m,hn.sameBut hsb nCa,fun h' hsb'=>⟨_,H5,I6.let hCn n1 n2 n3 n4 hsb',q⟩⟩
end
section
variable {X:Cx}
def Zph:R2:=fun x y H Q=>∃d kvs k v,x=.ref d∧y=kV k∧H d=some (.dK kvs)∧Z6 kvs k=some v∧Q v H
theorem ZpW:IxR X Zph:=by
 intro value slice pins s σ H x y v u Q I rx ry h hs
 obtain⟨d,kvs,k,z,rfl,rfl,hH,hk,q⟩:=h
 cases rx
 obtain⟨_,hd,vs,rel,dd⟩:=ZhY I.hok hH
 obtain⟨w',hw,rw'⟩:=ZcA.some_of (v:=z) (o:=valueAt vs k) (by rw[← hk];exact rel.val k)
 exact subscriptTail_builtinR (x:=w') dd.typeIs PySem.F.slot_dict_getitem.lookup (wpAny_getItem_of (Zdo ry) dd.mapOf hw ⟨rfl,z,H,I.tok _,rw',q⟩) hs
theorem ixK{k:Nat}(hr:ZaF k X.A):IxR X Zph:=ZpW
end
theorem ZeA:typeLookup (.type "list") "keys" = pure none:=by rw[typeLookup_type,builtinLookup_eq_fast];kernel_rfl
theorem getAttr?_keys_list{prog:Program}{w:World}{A:Around}{E:Value→Shared→Prop}{s:Shared}{a:Addr}{o:Obj}{xs:Array Value}{k:Nat}{Q:Option Value→Shared→Prop}
  (hx:s.heap.get? a=some o) (hc:o.cls=.type "list") (hdat:o.data=.seq xs k) (hd:o.dict=none) (hA:A.handled=none)
  (h:∀h' tk e,Heap.NewExcOf s.heap h' e "AttributeError"→Q none { s with heap:=h',toks:=tk }) :
  wpAny (model prog w) A (getAttr? (.ref a) "keys") Q E s:=by
 obtain⟨c,dct,dat,sl⟩:=o
 simp only at hc hdat hd
 subst hc hdat hd
 obtain⟨hp,g,d,tk,os⟩:=s
 have hT:∀tk',(⟨hp,g,d,tk',os⟩:Shared).TypeIs (.ref a) "list":=fun _=>⟨_,hx,rfl⟩
 have f1:=sub_AttributeError
 have f3:=F.slot_list_getattribute.lookup
 have f4:=F.slot_list_getattribute.bind (.ref a)
 have f5:=am_list_getattr_none
 unfold getAttr? getAttrBy? getAttrBy
 repeat (any_goals (first|assumption|exact hT _|((with_reducible show wpAny _ _ (call (Value.builtin "list.__getattribute__") _ _) _ _ _);refine call_meets F.slot_list_getattribute (hT _) am_entry_list_getattribute (F.args_list_getattribute_2 _ _) (meets_getattribute_miss_list a xs k sl "keys" _ ZeA (by decide) (by size_fits)) ⟨hx,hA,fun h' tk' e hx'=>?_⟩)|wp_step))
 obtain⟨t',u',he⟩:=hx'.there
 show wpAny _ _ (getattributeRaised _ _ _ _ _ _ _) _ _ _
 unfold getattributeRaised
 repeat (any_goals (first|assumption|wp_step))
 exact h _ _ _ hx'.of
theorem Zbd:entryFor table "dict.update.loop" = some Builtin.«dict.update.loop»:=entryFor_of_tree (by kernel_rfl)
theorem Zah:plainId "dict.update.loop" = true:=by ac_rfl
section
variable {prog:Program} {w:World} {A:Around} {R:Result→Shared→Prop} {I:Addr} {fp wr:List Addr} {G:Array GenState→Array GenState→Prop} {n:Nat} {P:Nat→Value→Prop} {St:Nat→Shared→Prop} {K:Type} [DecidableEq K] {knd:KeyKind prog w K}
theorem ZiB(more:List (K×Value)):∀kvs:List (K×Value),(merged kvs more).length≤kvs.length+more.length:=by
 induction more with
 | nil=>intro kvs;exact Qg _
 | cons x r ih =>
  intro kvs
  have h:=ih (stored kvs x.1 x.2)
  have h2:(stored kvs x.1 x.2).length≤kvs.length+1:=by
   unfold stored
   split
   ·rw[Qa];omega
   ·rw[Qs];exact Qg _
  show (merged (stored kvs x.1 x.2) r).length≤_
  rw[Qu]
  omega
theorem Zb7(W:WalksS prog w A.in1 I fp wr G n P St)(D:Addr)(hDf:D ∉ fp)(ks:List (K×Value))(hn:ks.length=n)(As:Nat→Addr)(hAs:∀j,j<n→As j≠D∧As j ∉ wr)
  (hval:∀i v,P i v→v=.ref (As i)) (hsz:n≤sizeLine) :
  ∀ (k i:Nat) (z:Int) (s:Shared),n-i=k→i≤n→St i s→s.heap.DictOf knd D (merged [] (ks.take i)) →
   (∀j (hj:j<n),∃ky,IsTup s.heap (As j) #[ky,(ks[j]'(hn ▸ hj)).2]∧knd.is (ks[j]'(hn ▸ hj)).1 ky=true) →
   (∀s',Moved (D::wr) G s s'→s'.heap.DictOf knd D (merged [] ks)→R (.ok (.ret .none)) s') →
   codeAny (model prog w) A (.builtin "dict.update.loop" ⟨[.ref D,.ref I,rawInt z,.none],[]⟩) R s:=by
 have hDw:D ∉ wr:=fun h=>hDf (W.sub _ h)
 have hsub:∀b∈wr,b∈D::wr:=fun b hb=>Qm _ hb
 intro k
 induction k with
 | zero =>
  intro i z s hk hi hst hS hT hR
  have hin:i=n:=by omega
  subst hin
  refine codeAny_builtin Zbd ?_
  rw[Around.under_plainId Zah _]
  show wpAny _ A.in1 (pyNext (.ref I) >>= _) _ _ s
  refine wpAny_bind (W.done s _ _ hst fun s' hm=>?_)
  show wpAny _ A.in1 (Builtin.Dict.addKeywords D [] >>= fun _=>ret Value.none) _ _ s'
  refine wpAny_bind (wpAny_pure (wpAny_pure (hR s' (hm.mono hsub) ?_)))
  rw[Qx (by omega)]at hS
  obtain⟨o,es,ep,ho,rest⟩:=hS
  exact⟨o,es,ep,hm.heap D _ hDw ho,rest⟩
 | succ k ih =>
  intro i z s hk hi hst hS hT hR
  have hlt:i<n:=by omega
  refine codeAny_builtin Zbd ?_
  rw[Around.under_plainId Zah _]
  show wpAny _ A.in1 (pyNext (.ref I) >>= _) _ _ s
  refine wpAny_bind (W.item i s _ _ hlt hst fun v s' hP hst' hm=>?_)
  have ev:=hval i v hP
  subst ev
  obtain⟨ky,ht,hky⟩:=hT i hlt
  have ht':IsTup s'.heap (As i) #[ky,(ks[i]'(hn ▸ hlt)).2]:=by
   obtain⟨o,ho,r⟩:=ht
   exact⟨o,hm.heap _ _ (hAs i hlt).2 ho,r⟩
  have hS':s'.heap.DictOf knd D (merged [] (ks.take i)):=by
   obtain⟨o,es,ep,ho,rest⟩:=hS
   exact⟨o,es,ep,hm.heap D _ hDw ho,rest⟩
  show wpAny _ A.in1 (holding [Value.ref (As i)] _ >>= _) _ _ s'
  refine wpAny_bind (wpAny_holding ?_)
  obtain⟨ot,hot,hct,nt,hdt⟩:=id ht'
  refine wpAny_bind ?_
  have hpair:wpAny (model prog w) A.in1 (Builtin.Dict.pairItems (Value.ref (As i))) (fun p s2=>p=[ky,(ks[i]'(hn ▸ hlt)).2]∧s2=s') (fun e s'=>False) s':=by
   unfold Builtin.Dict.pairItems
   refine wpAny_bind (wpAny_typeOf (T := "tuple") ⟨ot,hot,hct⟩ ?_)
   rw[if_pos (by decide)]
   exact wpAny_bind (wpAny_seqItems hot hdt (wpAny_pure ⟨rfl,rfl⟩))
  refine wpAny_tryCatch (wpAny_mono hpair (fun p s2 h2=>?_) fun _ _ z=>z.elim)
  obtain⟨rfl,rfl⟩:=h2
  have hle:(merged [] (ks.take i)).length≤sizeLine:=by
   have h1:=ZiB (ks.take i) []
   rw[Qy]at h1
   simp only[List.length_nil]at h1
   omega
  refine wpAny_holding (wpAny_dictSet_pairs hky hS' (fun h' hd' hs=>?_) hle)
  have hd2:h'.DictOf knd D (merged [] (ks.take (i+1))):=by
   rw[merged_take_succ [] ks i _ (Qb (hn ▸ hlt))]
   exact hd'
  refine wpAny_pure ⟨plainId_quiet Zah _,ih (i+1) (z+1) _ (by omega) hlt (W.frame _ s2 _ _ hst' (Q8 _) fun b hb o e=>?_) hd2 (fun j hj=>?_) fun s'' hm'' hS''=>?_⟩
  ·rw[hs.2 b (fun h:b=D=>hDf (by rw[← h];exact hb))];exact e
  ·obtain⟨kj,⟨o,ho,r⟩,hkj⟩:=hT j hj
   refine⟨kj,⟨o,?_,r⟩,hkj⟩
   have hnd:=(hAs j hj).1
   show h'.get? (As j)=some o
   rw[hs.2 _ hnd]
   exact hm.heap _ _ (hAs j hj).2 ho
  ·refine hR s'' (Moved.trans W.gtrans ((hm.mono hsub).then_heap (Q8 _) fun b o hb e=>?_) hm'') hS''
   rw[hs.2 b (fun h:b=D=>hb (by rw[h];exact QM))];exact e
end
section
variable {prog:Program} {w:World} {A:Around} {E:Value→Shared→Prop} {s:Shared} {K:Type} [DecidableEq K] {knd:KeyKind prog w K}
theorem Zfj{l:Addr}{items:Array Value}{ks:List (K×Value)}{As:Nat→Addr}{Q:Value→Shared→Prop}(hh:A.handled=none)(hl:PlainL s.heap l items)(hn:ks.length=items.size)(hsz:items.size≤sizeLine)
  (hval:∀ (i:Nat) (v:Value),items[i]? = some v→v=.ref (As i)) (ht:∀j (hj:j<items.size),∃ky,IsTup s.heap (As j) #[ky,(ks[j]'(hn ▸ hj)).2]∧knd.is (ks[j]'(hn ▸ hj)).1 ky=true)
  (h:∀h' tk,h'.DictOf knd s.heap.objs.size (merged [] ks)→(∀b o,s.heap.get? b=some o→h'.get? b=some o)→Q (.ref s.heap.objs.size) { s with heap:=h',toks:=tk }) :
  wpAny (model prog w) A (call (.type "dict") [.ref l]) Q E s:=by
 refine callType_codes (Q₁:=fun obj s₁=>obj=.ref s.heap.objs.size∧s₁={ s with heap:=s.heap.push { cls:=.type "dict",data:=.dict #[] } }) F.kt_called_dict (F.kt_typeCall_dict_1 _) F.entry_dict_init (kt_code_dict_new _ ⟨rfl,rfl⟩) ?_
 rintro obj s₁ ⟨rfl,rfl⟩
 have hnew:(s.heap.push { cls:=.type "dict",data:=.dict #[] }).DictOf knd s.heap.objs.size []:=Heap.DictOf.new s.heap
 obtain⟨ol,nl,hol,hcl,hdl,hdat⟩:=hl
 have hll:l<s.heap.objs.size:=Qj hol
 have hol':(s.heap.push { cls:=.type "dict",data:=.dict #[] }).get? l=some ol:=Qd _ hol
 refine⟨hnew.typeIs,F.args_dict_init_2 _ _,?_⟩
 unfold Builtin.«dict.__init__»
 refine wpAny_bind ?_
 unfold Builtin.Dict.selfAndRest
 refine wpAny_bind (wpAny_notOrdered_dict hnew.typeIs ?_)
 show wpAny _ _ (pure (s.heap.objs.size,[Value.ref l])) _ _ _
 refine wpAny_pure ?_
 show wpAny _ _ (Builtin.Dict.updateFrom "dict.__init__" s.heap.objs.size (.ref l) [] .none) _ _ _
 unfold Builtin.Dict.updateFrom
 refine wpAny_bind (wpAny_typeOf (T := "list") ⟨ol,hol',hcl⟩ ?_)
 rw[if_pos (by decide)]
 refine wpAny_bind (getAttr?_keys_list hol' hcl hdat hdl (by simp[hh]) fun h1 tk e hx=>?_)
 rw[if_pos (by decide)]
 have kp:∀b o,(s.heap.push { cls:=.type "dict",data:=.dict #[] }).get? b=some o→h1.get? b=some o:=fun b o z=>hx.keeps b o z
 have hl1:h1.IsList l items:=⟨ol,kp _ _ hol',hcl,nl,hdat⟩
 refine wpAny_bind (wpAny_rule (wpAny_bind (wpAny_pyIter_list hl1 ?_)))
 have hDD:s.heap.objs.size<h1.objs.size:=by
  obtain⟨o,es,ep,ho,_⟩:=hnew
  exact Qj (kp _ _ ho)
 have hl1s:l<h1.objs.size:=Qau hll hDD
 have hneI:l≠h1.objs.size:=Qz hl1s
 have hDf:s.heap.objs.size ∉ [h1.objs.size,l]:=by
  simp only[List.mem_cons,List.not_mem_nil,or_false,not_or]
  exact⟨Qz hDD,Qaf hll⟩
 refine wpAny_pure ⟨plainId_quiet Zah _,?_⟩
 have hh3:A.in1.in1.handled=none:=by simp[hh]
 have k2:∀b o,s.heap.get? b=some o→(h1.push { cls:=.type "list_iterator",data:=.fields #[.ref l,.int 0 0] }).get? b=some o:=fun b o z=>Qd _ (kp b o (Qd _ z))
 refine Zb7 (A:=A.in1) (knd:=knd) ((Walks.list hh3 _ l hneI items).toS) s.heap.objs.size hDf ks hn As (fun j hj=>?_) hval hsz (items.size-0) 0 0 _ (by omega) (Qn _)
  ⟨⟨_,QA _ rfl,rfl,rfl⟩,(hl1.push _)⟩ ?hS0 (fun j hj=>?_) ?hR
 ·obtain⟨ky,⟨o,ho,_⟩,_⟩:=ht j hj
  have:=Qj ho
  refine⟨Qz this,?_⟩
  simp only[List.mem_cons,List.not_mem_nil,or_false]
  exact Qz (Qau this hDD)
 case hS0 =>
  obtain⟨o,es,ep,ho,r⟩:=hnew
  exact⟨o,es,ep,Qd _ (kp _ _ ho),r⟩
 ·obtain⟨ky,⟨o,ho,r⟩,hk⟩:=ht j hj
  exact⟨ky,⟨o,k2 _ _ ho,r⟩,hk⟩
 case hR =>
  intro s' hm hS'
  obtain⟨h',g',d',tk',os'⟩:=s'
  have eg:g'=s.gens:=hm.gens
  have ed:d'=s.drawn:=hm.drawn
  have eo:os'=s.os:=hm.os
  subst eg;subst ed;subst eo
  refine⟨rfl,h h' tk' hS' fun b o e=>?_⟩
  have hb:=Qj e
  exact hm.heap b o (by simp only[List.mem_cons,List.not_mem_nil,or_false,not_or];exact⟨Qz hb,Qz (Qau hb hDD)⟩) (k2 b o e)
end
def ZlB(K:PySem.W.Frag):List V→Hp→VK→Prop:=fun xs H Q=>∃ (a:Addr) (ts:List (Addr×Key×V)),xs=[.ref a]∧SqL K H a (ts.map fun t=>V.ref t.1)∧(∀t∈ts,H t.1=some (.tup [kV t.2.1,t.2.2]))∧ts.length≤1000 ∧
 ∀D,H D=none→Q (.ref D) (upd H D (.dK (ZaU [] (ts.map (·.2)))))
theorem Zgs{X:Cx}{pins:List (Addr×Obj)}{σ:St}{H:Hp}{s:Shared}(I:Inv X pins σ H s):∀ (ts:List (Addr×Key×V)),(∀t∈ts,H t.1=some (.tup [kV t.2.1,t.2.2])) →
  ∃ks:List (Key×Value),KV (ts.map (·.2)) ks∧∀ (j:Nat) (t:Addr×Key×V) (kv:Key×Value),ts[j]? = some t→ks[j]? = some kv→∃ky,IsTup s.heap t.1 #[ky,kv.2]∧(ZI X.prog X.w).is kv.1 ky=true
 | [],_=>⟨[],.nil,fun j t kv h _=>by simp at h⟩
 | t::ts,h=>by
  obtain⟨ks,r,hk⟩:=Zgs I ts fun x hx=>h x (Qm _ hx)
  obtain⟨its,rv,ht,_⟩:=I.tuple (SqT.of (K:=X.K) (h t (by simp)))
  obtain⟨ky,u,rfl,rk,ru⟩:∃ky u,its=[ky,u]∧Zy (kV t.2.1) ky∧Zy t.2.2 u:=by
   cases rv with
   | cons r1 r2 =>
    cases r2 with
    | cons r3 r4 =>
     cases r4
     exact⟨_,_,rfl,r1,r3⟩
  refine⟨(t.2.1,u)::ks,.cons ⟨rfl,ru⟩ r,fun j x kv h1 h2=>?_⟩
  cases j with
  | zero =>
   simp only[List.getElem?_cons_zero,Option.some.injEq]at h1 h2
   subst h1;subst h2
   exact⟨ky,ht,Zdo rk⟩
  | succ j=>exact hk j x kv (by simpa using h1) (by simpa using h2)
theorem ZiI{X:Cx}(hc:X.calm=true):ZaM X (.type "dict") (ZlB X.K):=by
 intro pins s σ H xs us Q I r h
 obtain⟨a,ts,rfl,hS,hT,hn,q⟩:=h
 obtain⟨u,rfl,ru⟩:=Zce r
 cases ru
 obtain⟨its,rv,pl,_⟩:=I.list hS
 obtain⟨ks,rk,hks⟩:=Zgs I ts hT
 have h1:ks.length=ts.length:=by have:=rk.length;simpa using this.symm
 have h2:its.length=ts.length:=by have:=rv.length;simpa using this.symm
 have hat:∀ (i:Nat) (v:Value),its.toArray[i]? = some v→v=.ref ((ts[i]?.map (·.1)).getD 0):=fun i v hv=>by
  have hv':its[i]? = some v:=by simpa using hv
  have hi:i<ts.length:=by rw[← h2];exact(Qc.mp hv').1
  have:=rv.get (i:=i) (x:=.ref ts[i].1) (by rw[Qv,Qb hi];rfl)
  obtain⟨u,hu,ru⟩:=this
  rw[hv']at hu
  cases hu
  cases ru
  rw[Qb hi];rfl
 refine Zfj (knd:=ZI X.prog X.w) (ks:=ks) (As:=fun i=>(ts[i]?.map (·.1)).getD 0) (I.ok.hd hc) pl (by rw[QD];omega) (by rw[QD,h2];exact Qat (ZE hn)) hat (fun j hj=>?_) fun h' tk hd hk=>?_
 ·have hj':j<ts.length:=by rw[QD]at hj;omega
  have:=hks j ts[j] (ks[j]'(by omega)) (Qb hj') (Qb _)
  rw[Qb hj']
  exact this
 ·have lz:(ZaU [] (ts.map (·.2))).length≤sizeLine:=by
   have:=Zb5 (ts.map (·.2)) []
   rw[Qa,List.length_nil]at this
   exact Qat (ZE (by omega))
  refine⟨.ref s.heap.objs.size,_,I.laid (a:=s.heap.objs.size) (o:=.dK (ZaU [] (ts.map (·.2)))) (t':=tk) hk (Qg _) ?_,rfl,q _ (I.hok.fresh (Qg _))⟩
  exact Zfc lz (beq_eq_false_iff_ne.mpr fun z=>Q1 _ (z ▸ I.big)) (rk.merge .nil) hd
theorem ZpP{X:Cx}(K:PySem.W.Frag)(hc:X.calm=true:=by rfl)(h:X.K=K:=by rfl):ZaM X (.type "dict") (ZlB K):=by subst h;exact ZiI hc
def Zqa:R2:=fun y x H Q=>∃a o,x=.ref a∧Za7 H a y o∧Q (.bl o.isSome) H
def ZmF:R2:=fun y x H Q=>∃a o,x=.ref a∧Za7 H a y o∧Q (.bl (!o.isSome)) H
def Zqr:R2:=fun x y H Q=>∃a v,x=.ref a∧Za7 H a y (some v)∧Q v H
section
variable {X:Cx} {k:Nat}
theorem inG(hr:ZaF k X.A):OpR X (compareOp .In) Zqa:=by
 intro pins s σ H x y v u Q I rx ry h
 obtain⟨a,o,rfl,g,q⟩:=h
 cases ry
 exact Zqk (Zhu hr) I g rx fun s3 I3=>⟨.bl o.isSome,H,I3,rfl,q⟩
theorem ZgC(hr:ZaF k X.A):OpR X (compareOp .NotIn) ZmF:=by
 intro pins s σ H x y v u Q I rx ry h
 obtain⟨a,o,rfl,g,q⟩:=h
 cases ry
 exact ZmK (Zhu hr) I g rx fun s3 I3=>⟨.bl (!o.isSome),H,I3,rfl,q⟩
def Zpx:ZjQ:=fun o i v H Q=>∃a H',o=.ref a∧ZdW H a i v H'∧Q H'
theorem ZiL(hr:ZaF k X.A):Zof X Zpx:=by
 intro pins s σ H o i v ov iv u Q I ro ri rv h
 obtain⟨a,H',rfl,g,q⟩:=h
 cases ro
 exact Zki (Zhu hr) I g ri rv fun s4 I4=>⟨H',I4,q⟩
theorem ZiT{prog:Program}{w:World}{A:Around}{E:Value→Shared→Prop}{s:Shared}{value slice:Expr}{o i:Value}{T id:String}{Q:Value→Shared→Prop}(hT:s.TypeIs o T)
  (hl:typeLookup (.type T) "__getitem__" = pure (some (.builtin id))) (hs:subscripted slice false o i=operate [o,i] (getItem o i)) (h:wpAny (model prog w) A (getItem o i) Q E s) :
  wpAny (model prog w) A (subscriptTail value slice o i) Q E s:=by
 unfold subscriptTail
 refine wpAny_bind ?_
 rw[getitemInPython_of_ne hT.not_modules]
 refine wpAny_bind (wpAny_specialOf hT hl ?_)
 have fin:wpAny (model prog w) A (subscripted slice false o i) (fun r s₃=>wpAny (model prog w) A (letTemporaryGo value o r >>= fun _=>pure r) Q E s₃) E s:=by
  rw[hs]
  exact wpAny_operating (wpAny_mono h (fun r s₃ h₃=>wpAny_bind (wpAny_letTemporaryGo (wpAny_pure h₃))) fun _ _ x=>x)
 first
  | exact wpAny_pure (wpAny_bind fin)
  | exact wpAny_bind (wpAny_pure (wpAny_bind fin))
  | exact wpAny_bind fin
theorem ixG(hr:ZaF k X.A):IxR X Zqr:=by
 intro value slice pins s σ H x y v u Q I rx ry h hs
 obtain⟨a,z,rfl,g,q⟩:=h
 cases rx
 exact ZiT (Zhx I g) PySem.F.slot_dict_getitem.lookup hs (ZjM (Zhu hr) I g ry fun w' s' I' rw'=>⟨z,H,I',rw',q⟩)
def rEqE(neg:Bool):R2:=fun x y H Q=>∃a b kvs,x=.ref a∧y=.ref b∧H a=some (.dK kvs)∧H b=some (.dK [])∧Q (.bl (if neg then !kvs.isEmpty else kvs.isEmpty)) H
theorem ZpQ{X:Cx}{pos:Pos}{kx vx:Expr}{tk tv:TE}(hk:PE X kx tk)(hv:PE X vx tv):PE X (.Dict [some kx] [vx] pos) (ZnR [(tk,tv)]):=Zmx (ZlT hk hv Zmu) rfl rfl (by intro z;cases z) (by show 1≤15;decide)
theorem ZlH:ZaM X (.builtin "len") (fun xs H Q=>∃a kvs,xs=[V.ref a]∧H a=some (.dK kvs)∧Q (.int kvs.length) H):=Zkc
theorem Zpz(hc:X.calm=true:=by rfl):ZaM X (.type "list") Zlh:=Zik hc
end
mutual
inductive DH (H:Hp):V→PyData→Prop where
 | non:DH H .non .none
 | bl (b:Bool):DH H (.bl b) (.bool b)
 | int (i:Int):DH H (.int i) (.int i)
 | str (s:Str):DH H (.str s) (.str s)
 | lst {a:Addr} {xs:List V} {ds:List PyData}:H a=some (.lst xs)→DHs H xs ds→DH H (.ref a) (.list ds)
 | tup {a:Addr} {xs:List V} {ds:List PyData}:H a=some (.tup xs)→DHs H xs ds→DH H (.ref a) (.tuple ds)
inductive DHs (H:Hp):List V→List PyData→Prop where
 | nil:DHs H [] []
 | cons {x:V} {d:PyData} {xs:List V} {ds:List PyData}:DH H x d→DHs H xs ds→DHs H (x::xs) (d::ds)
end
mutual
theorem DH.mono{H H':Hp}(s:Zz H H'):∀ {x:V} {d:PyData},DH H x d→DH H' x d
 | _,_,.non=>.non
 | _,_,.bl b=>.bl b
 | _,_,.int i=>.int i
 | _,_,.str z=>.str z
 | _,_,.lst h hs=>.lst (s _ _ h) (DHs.mono s hs)
 | _,_,.tup h hs=>.tup (s _ _ h) (DHs.mono s hs)
theorem DHs.mono{H H':Hp}(s:Zz H H'):∀ {xs:List V} {ds:List PyData},DHs H xs ds→DHs H' xs ds
 | _,_,.nil=>.nil
 | _,_,.cons h hs=>.cons (DH.mono s h) (DHs.mono s hs)
end
mutual
theorem DH.dv{K:PySem.W.Frag}{H:Hp}:∀ {x:V} {d:PyData},DH H x d→DV K H x d
 | _,_,.non=>.non
 | _,_,.bl b=>.bl b
 | _,_,.int i=>.int i
 | _,_,.str z=>.str z
 | _,_,.lst h hs=>.lst (SqL.of h) (DHs.dv hs)
 | _,_,.tup h hs=>.tup (SqT.of h) (DHs.dv hs)
theorem DHs.dv{K:PySem.W.Frag}{H:Hp}:∀ {xs:List V} {ds:List PyData},DHs H xs ds→DVs K H xs ds
 | _,_,.nil=>.nil
 | _,_,.cons h hs=>.cons (DH.dv h) (DHs.dv hs)
end
theorem DHs.length{H:Hp}:∀ {xs:List V} {ds:List PyData},DHs H xs ds→xs.length=ds.length
 | _,_,.nil=>rfl
 | _,_,.cons _ hs=>by rw[Qu,Qu,hs.length]
theorem DHs.get{H:Hp}:∀ {xs:List V} {ds:List PyData},DHs H xs ds→∀ {i:Nat} {x:V},xs[i]? = some x→∃d,ds[i]? = some d∧DH H x d
 | _,_,.nil,i,x,h=>by simp at h
 | _,_,.cons hd _,0,x,h=>by
  simp only[List.getElem?_cons_zero,Option.some.injEq]at h
  subst h
  exact⟨_,rfl,hd⟩
 | _,_,.cons _ hs,i+1,x,h=>by
  obtain⟨d,e,hd⟩:=hs.get (i:=i) (by simpa using h)
  exact⟨d,by simpa using e,hd⟩
def tyD:PyData→String
 | .none => "NoneType"
 | .bool _ => "bool"
 | .int _ => "int"
 | .str _ => "str"
 | .tuple _ => "tuple"
 | _ => "list"
def Zdl:PyData→Bool
 | .int _=>true
 | _=>false
def Zi6:PyData→Bool
 | .bool _=>true
 | _=>false
def Zim:PyData→Bool
 | .list _=>true
 | _=>false
def ZoP:PyData→Bool
 | .tuple _=>true
 | _=>false
def isStrD:PyData→Bool
 | .str _=>true
 | _=>false
theorem DH.ty{K:PySem.W.Frag}{H:Hp}{x:V}{d:PyData}(h:DH H x d):ZdX K H x (.type (tyD d)):=by
 cases h with
 | non=>exact .non
 | bl b=>exact .bl b
 | int i=>exact .int i
 | str z=>exact .str z
 | lst h _=>exact .lst h
 | tup h _=>exact .tup h
section
open PySem.W
theorem DH.kL{H:Hp}{x:V}{d:PyData}(h:DH H x d)(K:Frag):kitOne K (.type (tyD d)) (.type "list")=some (Zim d):=by cases h<;>(unfold kitOne kitCls;rfl)
theorem DH.kT{H:Hp}{x:V}{d:PyData}(h:DH H x d)(K:Frag):kitOne K (.type (tyD d)) (.type "tuple")=some (ZoP d):=by cases h<;>(unfold kitOne kitCls;rfl)
theorem DH.kI{H:Hp}{x:V}{d:PyData}(h:DH H x d)(K:Frag):kitOne K (.type (tyD d)) (.type "int")=some (Zdl d||Zi6 d):=by cases h<;>(unfold kitOne kitCls;rfl)
theorem DH.kB{H:Hp}{x:V}{d:PyData}(h:DH H x d)(K:Frag):kitOne K (.type (tyD d)) (.type "bool")=some (Zi6 d):=by cases h<;>(unfold kitOne kitCls;rfl)
end
theorem DH.lst_inv{H:Hp}{x:V}{d:PyData}(h:DH H x d)(e:Zim d=true):∃a xs ds,x=.ref a∧d=.list ds∧H a=some (.lst xs)∧DHs H xs ds:=by
 cases h with
 | lst h hs=>exact⟨_,_,_,rfl,rfl,h,hs⟩
 | non=>cases e
 | bl b=>cases e
 | int i=>cases e
 | str z=>cases e
 | tup h hs=>cases e
theorem DH.int_inv{H:Hp}{x:V}{d:PyData}(h:DH H x d)(e:Zdl d=true):∃i,x=.int i∧d=.int i:=by
 cases h with
 | int i=>exact⟨_,rfl,rfl⟩
 | non=>cases e
 | bl b=>cases e
 | tup h hs=>cases e
 | str z=>cases e
 | lst h hs=>cases e
theorem ZmN{K:PySem.W.Frag}{a:Addr}{xs:List V}{k:Nat}{D:Addr}{σ:L2.St}{H1:Hp}{g:TG}{tc:TT}{tk te:TE}{Q:VK}(Pv:Nat→List (Key×V)→L2.St→Hp→Prop)(h0:Pv 0 [] (σ++List.replicate k none) (upd H1 D (.dK [])))
  (hl:∀i ys σ H,Pv i ys σ H→SqL K H a xs)
  (hs:∀i x ys σ H,xs[i]? = some x→Pv i ys σ H→g x σ H fun σ4 H4=>tc σ4 H4 fun b H5=>if b=true then tk σ4 H5 fun kv H6=>te σ4 H6 fun y H7=>∃k:Key,kv=kV k∧H7 D=some (.dK ys)∧ys.length<sizeLine∧Pv (i+1) (Za1 ys k y) σ4 (upd H7 D (.dK (Za1 ys k y))) else Pv (i+1) ys σ4 H5)
  (hd:∀ys σ H,Pv xs.length ys σ H→Q (.ref D) H):Zgz (Itl K a) D k σ H1 g tc tk te Q:=by
 refine⟨fun i m ys σ H=>m=xs.length-i∧i≤xs.length∧Pv i ys σ H,⟨xs.length,by simp,Qn _,h0⟩,?_⟩
 rintro i m ys σ H ⟨rfl,hi,p⟩
 have q1:=hl i ys σ H p
 by_cases hlt:i<xs.length
 ·refine .inr ⟨⟨xs,xs[i],q1,Qb hlt⟩,Pv (i+1),fun ys' σ' H' p'=>⟨xs.length-(i+1),by omega,rfl,hlt,p'⟩,fun x H' y=>?_⟩
  obtain⟨rfl,e⟩:=y
  exact hs i x ys σ _ (e xs q1) p
 ·have e:i=xs.length:=by omega
  exact .inl ⟨⟨xs,q1,by omega⟩,hd ys σ H (e ▸ p)⟩
theorem ZeP:∀ {a b:List Int},a.Nodup→(∀x∈a,x∈b)→b.length≤a.length→a.Perm b
 | [],b,_,_,l=>by
  have:b=[]:=Qaq.mp (by simpa using l)
  rw[this]
 | x::r,b,na,h,l=>by
  obtain⟨n1,n2⟩:=QK.mp na
  have hx:=h x (by simp)
  have hp:=List.perm_cons_erase hx
  refine(List.Perm.cons x (ZeP n2 (fun y hy=>?_) ?_)).trans hp.symm
  ·have nyx:y≠x:=fun e=>n1 (by rw[← e];exact hy)
   exact(List.mem_erase_of_ne nyx).mpr (h y (Qm _ hy))
  ·rw[List.length_erase_of_mem hx]
   simp only[List.length_cons]at l
   omega
theorem Zgj:∀ (more acc:List (Key×V)),((acc++more).map (·.1)).Nodup→ZaU acc more=acc++more
 | [],acc,_=>by show acc=_;rw[Q5]
 | x::r,acc,h=>by
  have hx:Z6 acc x.1=none:=by
   cases hv:Z6 acc x.1 with
   | none=>rfl
   | some v =>
    have:=Zjs hv
    rw[Qh,Qe]at h
    have:=(List.nodup_append.mp h).2.2 x.1 this x.1 (by simp)
    exact absurd rfl this
  show ZaU (Za1 acc x.1 x.2) r=_
  rw[Zcr _ hx,Zgj r (acc++[x]) (by rw[List.append_assoc];exact h),List.append_assoc];rfl
theorem ZfF{kvs:List (Key×V)}{k:Key}{v:V}(h:Z6 kvs k=some v):(k,v)∈kvs:=by
 unfold Z6 at h
 obtain⟨p,hp,rfl⟩:=Qav.mp h
 have h1:=List.find?_some hp
 have h2:=List.mem_of_find?_eq_some hp
 have:p.1=k:=by simpa using h1
 rw[← this];exact h2
theorem ZeQ{kvs:List (Key×V)}(hn:(kvs.map (·.1)).Nodup){k:Key}{v:V}(h:(k,v)∈kvs):Z6 kvs k=some v:=by
 induction kvs with
 | nil=>cases h
 | cons p r ih =>
  obtain⟨n1,n2⟩:=QK.mp (by simpa using hn:(p.1::r.map (·.1)).Nodup)
  rcases QG.mp h with rfl|h
  ·exact Zcn rfl
  ·rw[Zcl fun e=>n1 (e ▸ Qf (f:=(·.1)) h)]
   exact ih n2 h
def tOrK(K:PySem.W.Frag)(ta tb:TE):TE:=fun σ H Q=>ta σ H fun x H1=>∃k,ZqD K x H1 k∧if k=true then Q x H1 else tb σ H1 Q
theorem Znj{d:Addr}{o:Obj}{kvs:List (Key×V)}{k:Nat}{D:Addr}{σ:L2.St}{H1:Hp}{g:TG}{tc:TT}{te:TE}{Q:VK}(Pv:Nat→List V→L2.St→Hp→Prop)(h0:Pv 0 [] (σ++List.replicate k none) (upd H1 D (.lst [])))
  (hl:∀i ys σ H,Pv i ys σ H→H d=some (.frz o (.dK kvs)))
  (hs:∀i k x ys σ H,kvs[i]? = some (k,x)→Pv i ys σ H→g x σ H fun σ4 H4=>tc σ4 H4 fun b H5=>if b=true then te σ4 H5 fun y H6=>H6 D=some (.lst ys)∧ys.length<sizeLine∧Pv (i+1) (ys++[y]) σ4 (upd H6 D (.lst (ys++[y]))) else Pv (i+1) ys σ4 H5)
  (hd:∀ys σ H,Pv kvs.length ys σ H→Q (.ref D) H):Zet (Itv d o kvs) D k σ H1 g tc te Q:=by
 refine⟨fun i m ys σ H=>m=kvs.length-i∧i≤kvs.length∧Pv i ys σ H,⟨kvs.length,by simp,Qn _,h0⟩,?_⟩
 rintro i m ys σ H ⟨rfl,hi,p⟩
 have q1:=hl i ys σ H p
 by_cases hlt:i<kvs.length
 ·refine .inr ⟨⟨q1,hlt⟩,Pv (i+1),fun ys' σ' H' p'=>⟨kvs.length-(i+1),by omega,rfl,hlt,p'⟩,fun x H' y=>?_⟩
  obtain⟨rfl,k',e⟩:=y
  exact hs i k' x ys σ _ e p
 ·have e:i=kvs.length:=by omega
  exact .inl ⟨⟨q1,by omega⟩,hd ys σ H (e ▸ p)⟩
theorem Zm8{d:Addr}{o:Obj}{kvs:List (Key×V)}{k:Nat}{D:Addr}{σ:L2.St}{H1:Hp}{g:TG}{tc:TT}{te:TE}{Q:VK}(Pv:Nat→List V→L2.St→Hp→Prop)(h0:Pv 0 [] (σ++List.replicate k none) (upd H1 D (.lst [])))
  (hl:∀i ys σ H,Pv i ys σ H→H d=some (.frz o (.dK kvs)))
  (hs:∀i k x ys σ H p,kvs[i]? = some (k,x)→Pv i ys σ H→H p=none→g (.ref p) σ (upd H p (.tup [kV k,x])) fun σ4 H4=>tc σ4 H4 fun b H5=>if b=true then te σ4 H5 fun y H6=>H6 D=some (.lst ys)∧ys.length<sizeLine∧Pv (i+1) (ys++[y]) σ4 (upd H6 D (.lst (ys++[y]))) else Pv (i+1) ys σ4 H5)
  (hd:∀ys σ H,Pv kvs.length ys σ H→Q (.ref D) H):Zet (Iti d o kvs) D k σ H1 g tc te Q:=by
 refine⟨fun i m ys σ H=>m=kvs.length-i∧i≤kvs.length∧Pv i ys σ H,⟨kvs.length,by simp,Qn _,h0⟩,?_⟩
 rintro i m ys σ H ⟨rfl,hi,p⟩
 have q1:=hl i ys σ H p
 by_cases hlt:i<kvs.length
 ·refine .inr ⟨⟨q1,hlt⟩,Pv (i+1),fun ys' σ' H' p'=>⟨kvs.length-(i+1),by omega,rfl,hlt,p'⟩,fun x H' y=>?_⟩
  obtain⟨r,k',x',hr,rfl,e,rfl⟩:=y
  exact hs i k' x' ys σ H r e p hr
 ·have e:i=kvs.length:=by omega
  exact .inl ⟨⟨q1,by omega⟩,hd ys σ H (e ▸ p)⟩
def off(p:Addr)(H:Hp):Hp:=fun b=>if b=p then none else H b
section
variable {prog:Program} {w:World} {A:Around} {R:Result→Shared→Prop} {I:Addr} {fp wr:List Addr} {G:Array GenState→Array GenState→Prop} {n:Nat} {P:Nat→Value→Prop} {St:Nat→Shared→Prop} {K:Type} [DecidableEq K] {knd:KeyKind prog w K}
end
def Zp3:V→List V→Hp→VK→Prop:=fun x vs H Q=>∃a kvs k v,x=.ref a∧vs=[kV k]∧H a=some (.dK kvs)∧Z6 kvs k=some v∧Q v (upd H a (.dK (ZdJ kvs k)))
theorem ZmW{X:Cx}:MtM X "dict.pop" Zp3:=by
 intro pins s σ H x vs v us Q I rx rv h
 obtain⟨a,kvs,k,y,rfl,rfl,hH,hv,q⟩:=h
 cases rx
 obtain⟨u,rfl,ru⟩:=rv.one
 exact Zpf I hH ru hv (.inl rfl) fun w' s' I' r'=>⟨y,_,I',r',q⟩
def rDUpd(K:PySem.W.Frag):V→List V→Hp→VK→Prop:=fun x vs H Q=>∃ (D a:Addr) (kvs:List (Key×V)) (ts:List (Addr×Key×V)),x=.ref D∧vs=[.ref a]∧H D=some (.dK kvs)∧H a=some (.lst (ts.map fun t=>V.ref t.1))∧(∀t∈ts,H t.1=some (.tup [kV t.2.1,t.2.2]))∧ts.length≤1000∧kvs.length≤100000 ∧
 Q .non (upd H D (.dK (ZaU kvs (ts.map (·.2)))))
theorem Zka{X:Cx}(hc:X.calm=true):ZaM X (.builtin "any") (fun xs H Q=>∃ (p:Addr) (bs:List Bool),xs=[.ref p]∧SqL X.K H p (bs.map V.bl)∧Q (.bl (bs.any id)) H):=by
 intro pins s σ H xs us Q I r h
 obtain⟨p,bs,rfl,hq,q⟩:=h
 obtain⟨u,rfl,rx⟩:=Zce r
 cases rx
 obtain⟨its,rv,pl,hz⟩:=I.list hq
 have hl:=pl.isList
 have hlt:p<s.heap.objs.size:=by obtain⟨_,e,_⟩:=hl;exact Qj e
 refine call_any_walk (wpAny_pyIter_list hl ?_)
 refine⟨s.heap.objs.size,[s.heap.objs.size,p],[s.heap.objs.size],its.toArray.size,_,_,fun i=>(bs[i]?).getD true,rfl,Walks.list (A:=X.A.in1) (I.ok.hd hc) _ p (Qz hlt) its.toArray,
  ⟨⟨_,QA _ rfl,rfl,rfl⟩,hl.push _⟩,fun i v s' Q' E' hP hQ=>?_,fun h' tk hk=>?_⟩
 ·have hP':its[i]? = some v:=by simpa using hP
  have hi:i<its.length:=(Qc.mp hP').1
  have hlen:=rv.length
  have hb:(bs.map V.bl)[i]? = some (V.bl (bs[i]'(by rw[Qa]at hlen;omega))):=by
   rw[Qv,Qb (by rw[Qa]at hlen;omega)];rfl
  obtain⟨u',hu',ru'⟩:=rv.get hb
  rw[hP']at hu';cases hu'
  obtain rfl:v=Value.bool _:=ru'
  have hQ2:Q' ((bs[i]?).getD true) s':=hQ
  rw[Qb (by rw[Qa]at hlen;omega)]at hQ2
  exact wpAny_truthy_bool hQ2
 ·have e:((List.range its.toArray.size).any fun i=>(bs[i]?).getD true)=bs.any id:=by
   have hlen:=rv.length
   rw[Qa]at hlen
   rw[QD,← hlen,QX,List.any_eq_true,List.any_eq_true]
   constructor
   ·rintro⟨i,hi,z⟩
    have hi':=Qae.mp hi
    rw[Qb hi']at z
    exact⟨_,QS hi',z⟩
   ·rintro⟨b,hb,z⟩
    obtain⟨i,hi,rfl⟩:=List.mem_iff_getElem.mp hb
    refine⟨i,Qae.mpr hi,?_⟩
    rw[Qb hi]
    exact z
  refine⟨.bl (bs.any id),H,I.kept fun b ob e'=>hk b ob (fun hm=>?_) (Qd _ e'),by rw[e];rfl,q⟩
  rw[Ql.mp hm]at e'
  exact Q1 _ (Qj e')
theorem ZqB{X:Cx}(K:PySem.W.Frag)(hc:X.calm=true:=by rfl)(h:X.K=K:=by rfl):ZaM X (.builtin "any") (fun xs H Q=>∃ (p:Addr) (bs:List Bool),xs=[.ref p]∧SqL K H p (bs.map V.bl)∧Q (.bl (bs.any id)) H):=by subst h;exact Zka hc
theorem ZgI{X:Cx}{s:Stmt}:PS X s (fun _ _ _=>False):=fun pins s' σ H D I h=>h.elim
def pairsAt(ts:List (Addr×Key×V))(l:Addr)(H:Hp):Hp:=fun b=>if b=l then some (.lst (ts.map fun t=>V.ref t.1)) else
 match ts.find? fun t=>decide (t.1=b) with
 | some t=>some (.tup [kV t.2.1,t.2.2])
 | none=>H b
def tLstItems(to:TE):TE:=fun σ H Q=>to σ H fun x H1=>∃d kvs,x=.ref d∧H1 d=some (.dK kvs) ∧
 ∀ (l:Addr) (ts:List (Addr×Key×V)) (H2:Hp),H1 l=none→ts.map (·.2)=kvs→(∀t∈ts,H1 t.1=none∧H2 t.1=some (.tup [kV t.2.1,t.2.2]))→(∀b o,H1 b=some o→H2 b=some o)→H2 l=some (.lst (ts.map fun t=>V.ref t.1))→Q (.ref l) H2
theorem ZoU{X:Cx}{k:Nat}{o e:Expr}{td ty:TE}{apos cpos:Pos}(hr:ZaF k X.A)(ho:PE X o td)(he:PE X e ty)(hb:attributeBase o "get" X.env (eval o X.env)=eval o X.env:=by rfl)
  (hl:(apos.endLine == cpos.line)=true:=by rfl) (ht:backTo cpos (starEach [e] X.env)=[(false,eval e X.env)]:=by rfl):PE X (.Call (.Attribute o "get" apos) [e] [] cpos) (Zlx td ty):=by
 refine ZlO (Zhu hr) ho he ⟨hb,?_,hl,ht⟩
 rw[ht];rfl
section
variable {prog:Program} {w:World} {A:Around} {E:Value→Shared→Prop} {s:Shared} {l:Addr} {xs:Array (Int×Tok)}
end
def rMinQ(K:PySem.W.Frag):List V→Hp→VK→Prop:=fun vs H Q=>∃ (p:Addr) (ns:List Int),vs=[.ref p]∧SqT K H p (ns.map V.int)∧0<ns.length∧∀M,M∈ns→(∀a∈ns,M≤a)→Q (.int M) H
section
variable {X:Cx}
theorem Znm{x:Str}{n:Int}{pos:Pos}(hm:∃tk,X.mg x=some (.int n tk))(hg:Gl X x:=by rfl)(hd:(x == ("__debug__" : Str))=false:=by decide):PE X (.Name x pos) (tC (.int n)):=by
 obtain⟨tk,h⟩:=hm
 exact Zny hg h ⟨tk,rfl⟩ hd
end
section
variable {X:Cx}
end
def tThawS(t:TS):TS:=fun D σ H=>∃d u,H d=some u∧Mut (some u)∧t ⟨fun σ' H'=>∃o,H' d=some (.frz o u)∧D.nx σ' (upd H' d u),fun _ _=>False,fun _ _=>False,fun _ _=>False⟩ σ H
def ZqH(t u:TS):TS:=fun D σ H=>∃M:St→Hp→Prop,t { D with nx:=M } σ H∧∀σ' H',M σ' H'→u D σ' H'
theorem ZmI{X:Cx}{st:Stmt}{rest:List Stmt}{t u:TS}(h1:PS X st t)(h2:PSs X rest u):PSs X (st::rest) (ZqH t u):=by
 intro pins s σ H D I h
 obtain⟨M,h,hm⟩:=h
 refine wpAny_execs_cons (thn (h1 pins s σ H { D with nx:=M } I h) fun f s1 q=>?_)
 cases f with
 | next =>
  obtain⟨σ',H',I',q⟩:=q
  exact h2 pins s1 σ' H' D I' (hm σ' H' q)
 | ret v=>exact q
 | brk=>exact q
 | cont=>exact q
end L2
set_option maxHeartbeats 1000000
namespace My
open PySem L2 PyProof.Rows
abbrev Ztl:=@List.tail Stmt
abbrev Zt2(x:List Stmt):=Ztl (Ztl x)
abbrev Zt4(x:List Stmt):=Zt2 (Zt2 x)
abbrev Zt8(x:List Stmt):=Zt4 (Zt4 x)
abbrev Zt16(x:List Stmt):=Zt8 (Zt8 x)
abbrev Zt32(x:List Stmt):=Zt16 (Zt16 x)
local macro_rules|`(‹$i:num›)=>`(@pv _ $i _ _ (by rfl) (Or.inl rfl) (by decide) (by decide))
local macro_rules|`(tactic|trivial)=>`(tactic|first|exact .inl rfl|exact .inr rfl|decide|exact Nat.le_refl _|omega)
local macro_rules
|`(#[Xns,$a,$b,$c])=>`(PySem.W.nsIn $a mainGlobals $b=some (some (.ref $c)))
|`(#[Xfi,$a,$b,$c,$d])=>`(PySem.W.findIn $a (.ref $b) $c=some (some (.ref $d)))
|`(#[Xlk,$z,$a,$b,$c,$d,$e,$f,$g,$h,$i,$j,$k,$l,$m])=>`(($z).lookup $a=some ⟨$b,$c,.func (PySem.W.fnOf $d $e (Zp $f) (Zm $f) (Ze $f) .none $g $h $i $j $k $l),$m⟩)
|`(#[Xci,$a,$b,$c])=>`(PySem.W.codeIn $a $b $c=true)
|`(#[Xki,$a,$b])=>`(PySem.W.keepIn $a (.ref $b)=true)
|`(#[Xif,$a,$b])=>`(PySem.W.isFn $a (.ref $b)=true)
|`(#[Zd,$a,$b])=>`(@Zd _ _ _ _ _ $a $b)
|`(#[Zx,$a,$b,$c,$d])=>`(@Zx _ _ $a _ _ _ _ $b rfl $c $d (by rfl) (by trivial))
|`(#[Z8,$a,$b,$c])=>`(@Z8 _ _ _ _ _ _ _ _ $a $b $c)
|`(#[Zh])=>`(@Zh _ _ _ _)
|`(#[Zi,$a])=>`(@Zi _ _ _ $a)
|`(#[Zq,$a])=>`(@Zq _ _ _ _ $a)
|`(#[Zbj,$a,$b,$c])=>`(@Zbj _ _ _ _ _ _ _ _ $a $b $c)
|`(#[Zk,$a,$b,$c,$d])=>`(@Zk _ _ _ _ _ _ _ _ $a $b $c $d)
|`(#[Zu,$a,$b,$c,$d])=>`(@Zu _ _ _ _ _ _ _ _ _ $a (by rfl) $b $c $d (by decide) (by decide) (by rfl) (by rfl))
|`(#[Za,$a,$b])=>`(@Za _ _ _ _ _ $a $b (by rfl))
|`(#[Zg])=>`(@Zg _)
|`(#[ZF,$a,$b,$c])=>`(@ZF _ _ _ _ _ _ _ $a $b $c (fun _ _=>rfl))
|`(#[ZbU,$a])=>`(@ZbU _ _ _ _ $a)
|`(#[ZcG,$a,$b,$c,$d])=>`(@ZcG _ _ _ _ _ _ _ _ _ $a (by rfl) $b $c $d (by decide) (by decide) (by rfl) (by rfl))
|`(#[Zbg,$a,$b,$c,$d])=>`(@Zbg _ _ _ _ _ _ _ _ $a $b $c $d)
|`(#[ZaX,$a,$b])=>`(@ZaX _ _ _ _ _ _ $a $b (by rfl) (by rfl) (by rfl))
|`(#[ZcK,$a,$b,$c])=>`(@ZcK _ _ _ _ _ _ _ $a $b $c (by intro _;rfl))
|`(#[Zac,$a,$b,$c])=>`(@Zac _ _ _ _ _ _ _ _ $a $b $c)
|`(#[ZG])=>`(@ZG _)
|`(#[ZC,$a,$b,$c,$d])=>`(@ZC _ _ _ _ _ _ _ _ _ _ _ $a $b $c (by trivial) $d (by decide) (by rfl) (by rfl))
|`(#[Za6])=>`(@Za6 _ _ _ _)
|`(#[ZbH,$a,$b,$c,$d,$e])=>`(@ZbH _ _ _ _ _ _ _ _ _ _ _ _ _ _ $a rfl rfl rfl $b $c $d $e (by intro _;rfl))
|`(#[Zcu,$a,$b])=>`(@Zcu _ _ _ _ _ _ rfl $a $b (by rfl))
|`(#[pv,$a,$b])=>`(@pv _ $a _ _ (by rfl) $b (by decide) (by decide))
|`(#[cg,$a,$b])=>`(@cg _ _ _ _ _ _ _ _ _ _ _ $a $b rfl (by ac_rfl) (by rfl))
|`(#[cv,$a,$b])=>`(@cv _ _ _ _ _ _ _ _ _ _ _ $a $b rfl (by ac_rfl) (by rfl) (by decide) (by decide))
|`(#[ZeS,$a,$b,$c,$d,$e,$f])=>`(@ZeS _ _ _ _ _ _ _ _ _ _ _ _ $a $b $c $d $e $f (by rfl) (by rfl) (by rfl) (by rfl) (by rfl))
|`(#[Zca,$a,$b])=>`(@Zca _ _ _ _ _ _ _ $a $b)
|`(#[Zb0,$a])=>`(@Zb0 _ _ _ _ $a)
|`(#[Zdf,$a,$b,$c,$d])=>`(@Zdf _ _ _ _ _ _ _ _ $a rfl $b $c $d (by intro _;rfl))
|`(#[ZJ,$a,$b])=>`(@ZJ _ _ $a _ $b rfl (Or.inl rfl) (by trivial))
|`(#[Zaz,$a])=>`(@Zaz _ _ _ _ $a (by rfl))
|`(#[gT,$a,$b,$c])=>`(@gT _ $a _ _ _ $b _ $c (by rfl) (by rfl) (by rfl) (by rfl))
|`(#[Zv,$a,$b])=>`(@Zv _ _ _ _ _ $a $b (by rfl))
|`(#[Zbf,$a])=>`(@Zbf _ _ _ _ _ $a)
|`(#[ZS])=>`(@ZS _ _ _)
|`(#[ZN,$a])=>`(@ZN _ _ _ _ _ $a (by rfl))
|`(#[ZaA,$a,$b,$c,$d])=>`(@ZaA _ _ _ _ _ _ _ _ _ _ _ _ $a $b $c $d (by trivial) (by rfl))
|`(#[ZbD,$a,$b])=>`(@ZbD _ _ _ _ _ _ _ _ $a $b (by rfl))
|`(#[ZcE,$a,$b,$c])=>`(@ZcE _ _ _ _ _ _ _ _ _ _ $a $b $c)
|`(#[Zd7,$a,$b])=>`(@Zd7 _ _ _ _ _ _ _ $a $b)
|`(#[ZdG,$a,$b,$c,$d,$e])=>`(@ZdG _ _ _ _ _ _ _ _ _ _ _ _ _ _ _ $a $b $c $d $e (by trivial) (by rfl) (by rfl) (by rfl))
|`(#[Zl7,$a,$b,$c])=>`(@Zl7 _ _ _ _ _ _ _ _ _ _ _ _ $a $b $c (by trivial) (by rfl) (by decide) (by rfl) (by rfl))
|`(#[cw,$a,$b])=>`(@cw _ _ _ _ _ _ _ _ _ _ _ $a $b rfl (by ac_rfl) (by rfl) (by decide) (by decide))
|`(#[iL,$a,$b])=>`(@iL _ $a _ _ _ $b (by rfl))
|`(#[Zc5,$a,$b])=>`(@Zc5 _ _ _ _ _ _ _ $a $b)
|`(#[Zjp,$a,$b])=>`(@Zjp _ _ _ _ $a $b (by rfl) (by decide) (by decide))
|`(#[ZdN,$a])=>`(@ZdN _ _ _ _ _ $a)
|`(#[Zde,$a])=>`(@Zde _ _ _ _ $a)
|`(#[ZdS,$a])=>`(@ZdS _ _ _ $a (by intro _;rfl))
|`(#[Zb3])=>`(@Zb3 _ _ _ _)
def hdS:List Stmt→Stmt
 | a::_=>a
 | []=>.Pass ⟨0,0,0,0⟩
abbrev Z5:List Stmt:=PySem.Challenge.pw_mergetree_k64_whole_a_paper_behind_each.main.body
abbrev Zmg:Stmt:=hdS (Zt8 (Zt2 (Ztl Z5)))
abbrev Zp5:Stmt:=hdS (Zt8 (Zt4 Z5))
abbrev ZpI:Stmt:=hdS (Zt8 (Zt4 (Ztl Z5)))
abbrev ZfM:Stmt:=hdS (Zt8 (Zt4 (Zt2 Z5)))
abbrev Zfh:Stmt:=hdS (Zt16 (Zt4 (Zt2 (Ztl Z5))))
abbrev Z1:Stmt:=hdS (Zt16 (Zt8 Z5))
abbrev Zpv:Stmt:=hdS Z5
abbrev Zc4:Stmt:=hdS (Zt2 Z5)
abbrev Zdd:Stmt:=hdS (Zt2 (Ztl Z5))
abbrev ZaZ:Stmt:=hdS (Zt4 Z5)
abbrev Za0:Stmt:=hdS (Zt4 (Ztl Z5))
abbrev Zbz:Stmt:=hdS (Zt4 (Zt2 Z5))
abbrev Zbm:Stmt:=hdS (Zt8 Z5)
abbrev ZaV:Stmt:=hdS (Zt8 (Ztl Z5))
abbrev Zcp:Stmt:=hdS (Zt16 Z5)
abbrev Zci:Stmt:=hdS (Zt16 (Ztl Z5))
abbrev ZaR:Stmt:=hdS (Zt16 (Zt2 (Ztl Z5)))
abbrev ZcD:Stmt:=hdS (Zt16 (Zt4 Z5))
abbrev ZaN:Stmt:=hdS (Zt16 (Zt8 (Ztl Z5)))
abbrev Za2:Stmt:=hdS (Zt16 (Zt8 (Zt2 Z5)))
abbrev Zbc:Stmt:=hdS (Zt16 (Zt8 (Zt4 Z5)))
abbrev Zbi:Stmt:=hdS (Zt16 (Zt8 (Zt4 (Ztl Z5))))
abbrev ZaP:Stmt:=hdS (Zt16 (Zt8 (Zt4 (Zt2 (Ztl Z5)))))
abbrev ZaE:Stmt:=hdS (Zt32 Z5)
abbrev Za8:Stmt:=hdS (Zt32 (Ztl Z5))
abbrev Zc9:Stmt:=hdS (Zt32 (Zt2 (Ztl Z5)))
abbrev Zcz:Stmt:=hdS (Zt32 (Zt4 Z5))
abbrev Zcf:Stmt:=hdS (Zt32 (Zt4 (Ztl Z5)))
abbrev Zbk:Stmt:=hdS (Zt32 (Zt4 (Zt2 Z5)))
abbrev ZcB:Stmt:=hdS (Zt32 (Zt4 (Zt2 (Ztl Z5))))
abbrev Zco:Stmt:=hdS (Zt32 (Zt8 Z5))
abbrev Zc3:Stmt:=hdS (Zt32 (Zt8 (Ztl Z5)))
abbrev Zcg:Stmt:=hdS (Zt32 (Zt8 (Zt2 Z5)))
abbrev ZbK:Stmt:=hdS (Zt32 (Zt8 (Zt2 (Ztl Z5))))
abbrev Za5:Stmt:=hdS (Zt32 (Zt8 (Zt4 Z5)))
abbrev ZcJ:Stmt:=hdS (Zt32 (Zt8 (Zt4 (Ztl Z5))))
abbrev ZiW:Stmt:=ZV ZfM 0
abbrev ZaS:Stmt:=ZV Zfh 0
abbrev Zmf:Stmt:=ZV Zfh 1
abbrev ZaI:Stmt:=ZV Zfh 2
abbrev ZaT:Stmt:=ZV Zfh 3
abbrev Zkv:Stmt:=ZV Zfh 4
abbrev Zau:Stmt:=ZV Z1 0
abbrev Zae:Stmt:=ZV Z1 1
abbrev Zav:Stmt:=ZV Z1 2
abbrev Zi8:Stmt:=ZV Z1 3
abbrev Zaj:Stmt:=ZV Z1 4
abbrev Zaa:Stmt:=ZV Z1 5
abbrev ZiA:Stmt:=ZV Z1 6
abbrev ZaB:Stmt:=ZV Z1 7
abbrev Zmh:Stmt:=ZV Z1 8
abbrev Z4:Stmt:=ZV Z1 9
abbrev ZW:Stmt:=ZV Z1 10
abbrev Zme:Stmt:=ZV Z1 11
abbrev Zaf:Stmt:=ZV Z1 12
abbrev ZX:Stmt:=ZV Z1 13
abbrev Zaw:Stmt:=ZV Z1 14
abbrev ZZ:Stmt:=ZV Z1 15
abbrev ZO:Stmt:=ZV Z1 16
abbrev Zax:Stmt:=ZV Z1 17
theorem Zhs:Zs ["_law_cell", "_law_k", "_law_m"] ["_law_cell", "_law_k"] (Ze Zc9):=⟨rfl,rfl,rfl,by ac_rfl,rfl,by ac_rfl,by ac_rfl⟩
theorem Zgd:Zs ["_law_script", "_law_k", "_law_cell"] ["_law_script", "_law_k"] (Ze Zcz):=⟨rfl,rfl,rfl,by ac_rfl,rfl,by ac_rfl,by ac_rfl⟩
theorem Zgy:Zs ["_law_left_here", "_law_many_here", "_law_digit"] ["_law_left_here", "_law_many_here"] (Ze Zcf):=⟨rfl,rfl,rfl,by ac_rfl,rfl,by ac_rfl,by ac_rfl⟩
theorem Zfr:Zs ["_law_left_here", "_law_some"] ["_law_left_here"] (Ze Zbk):=⟨rfl,rfl,rfl,by ac_rfl,rfl,by ac_rfl,by ac_rfl⟩
theorem Zh3:Zs ["_law_left_here", "_law_stems_here", "_law_tail"] ["_law_left_here", "_law_stems_here"] (Ze ZcB):=⟨rfl,rfl,rfl,by ac_rfl,rfl,by ac_rfl,by ac_rfl⟩
theorem Zb9:Zs ["one", "other", "far", "at"] ["one", "other", "far"] (Ze Za0):=⟨rfl,rfl,rfl,by ac_rfl,rfl,by ac_rfl,by ac_rfl⟩
theorem Zlt:Zs ["one", "other"] ["one", "other"] (Ze Zc4):=⟨rfl,rfl,rfl,by ac_rfl,rfl,by ac_rfl,by ac_rfl⟩
theorem Zcd:Zs ["_law_left_here", "_law_stems_here", "_law_most", "_law_found", "_law_k", "_law_key_here"] ["_law_left_here", "_law_stems_here", "_law_most"] (Ze Zco):=⟨rfl,rfl,rfl,by ac_rfl,rfl,by ac_rfl,by ac_rfl⟩
theorem Zdr:Zs ["row", "told", "place", "key"] ["row"] (Ze ZcD):=⟨rfl,rfl,rfl,by ac_rfl,rfl,by ac_rfl,by ac_rfl⟩
theorem Zhr:Zs ["one", "other", "at"] ["one", "other", "at"] (Ze Zbz):=⟨rfl,rfl,rfl,by ac_rfl,rfl,by ac_rfl,by ac_rfl⟩
theorem ZlJ:Zs ["one", "other"] ["one", "other"] (Ze Zdd):=⟨rfl,rfl,rfl,by ac_rfl,rfl,by ac_rfl,by ac_rfl⟩
theorem ZdE:Zs ["one", "other", "far", "at"] ["one", "other", "far"] (Ze ZaZ):=⟨rfl,rfl,rfl,by ac_rfl,rfl,by ac_rfl,by ac_rfl⟩
theorem Zdc:Zs ["keys", "place"] ["keys"] (Ze ZaR):=⟨rfl,rfl,rfl,by ac_rfl,rfl,by ac_rfl,by ac_rfl⟩
theorem Zgi:Zs ["numbers", "middle"] ["numbers"] (Ze Zcp):=⟨rfl,rfl,rfl,by ac_rfl,rfl,by ac_rfl,by ac_rfl⟩
theorem Zf4:Zs ["_law_left_here", "_law_way"] ["_law_left_here"] (Ze Zcg):=⟨rfl,rfl,rfl,by ac_rfl,rfl,by ac_rfl,by ac_rfl⟩
theorem ZgM:Zs ["self"] ["self"] (Ze ZaI):=⟨rfl,rfl,rfl,by ac_rfl,rfl,by ac_rfl,by ac_rfl⟩
theorem Zh8:Zs ["self"] ["self"] (Ze ZaT):=⟨rfl,rfl,rfl,by ac_rfl,rfl,by ac_rfl,by ac_rfl⟩
theorem ZhN:Zs ["self", "keys"] ["self", "keys"] (Ze ZaS):=⟨rfl,rfl,rfl,by ac_rfl,rfl,by ac_rfl,by ac_rfl⟩
theorem Zb8:Zs ["self", "rows", "number", "keys"] ["self", "rows"] (Ze Zau):=⟨rfl,rfl,rfl,by ac_rfl,rfl,by ac_rfl,by ac_rfl⟩
theorem ZcX:Zs ["self", "row"] ["self"] (Ze Zae):=⟨rfl,rfl,rfl,by ac_rfl,rfl,by ac_rfl,by ac_rfl⟩
theorem ZfS:Zs ["self"] ["self"] (Ze Zaj):=⟨rfl,rfl,rfl,by ac_rfl,rfl,by ac_rfl,by ac_rfl⟩
theorem Zen:Zs ["self"] ["self"] (Ze ZX):=⟨rfl,rfl,rfl,by ac_rfl,rfl,by ac_rfl,by ac_rfl⟩
theorem Z7:Zs ["self", "numbers", "first_side", "other_side", "one", "other", "winner", "loser", "far"] ["self", "numbers"] (Ze Zaw):=⟨rfl,rfl,rfl,by ac_rfl,rfl,by ac_rfl,by ac_rfl⟩
theorem Zbw:Zs ["self", "one", "other", "far", "order", "alike_far", "seen"] ["self", "one", "other", "far"] (Ze Zax):=⟨rfl,rfl,rfl,by ac_rfl,rfl,by ac_rfl,by ac_rfl⟩
theorem ZcV:Zs ["number", "keys", "place"] ["number", "keys"] (Ze ZaN):=⟨rfl,rfl,rfl,by ac_rfl,rfl,by ac_rfl,by ac_rfl⟩
theorem Zl1:Zs ["_law_left_here", "_law_stems_here", "_law_most"] ["_law_left_here", "_law_stems_here", "_law_most"] (Ze Zc3):=⟨rfl,rfl,rfl,by ac_rfl,rfl,by ac_rfl,by ac_rfl⟩
theorem ZeF:Zs ["_law_left_here", "_law_stems_here", "_law_most"] ["_law_left_here"] (Ze ZbK):=⟨rfl,rfl,rfl,by ac_rfl,rfl,by ac_rfl,by ac_rfl⟩
theorem ZdF:Zs ["self", "thing"] ["self"] (Ze Zav):=⟨rfl,rfl,rfl,by ac_rfl,rfl,by ac_rfl,by ac_rfl⟩
theorem Zaq:Zs ["self", "number", "row", "comer", "meeting"] ["self", "number"] (Ze ZZ):=⟨rfl,rfl,rfl,by ac_rfl,rfl,by ac_rfl,by ac_rfl⟩
theorem Zag:Zs ["self", "meeting", "comer", "stayer", "winner", "loser", "far"] ["self", "meeting", "comer"] (Ze ZO):=⟨rfl,rfl,rfl,by ac_rfl,rfl,by ac_rfl,by ac_rfl⟩
theorem Zat:Zs ["numbers", "n", "matches", "least", "greatest", "others"] ["numbers", "n"] (Ze Za2):=⟨rfl,rfl,rfl,by ac_rfl,rfl,by ac_rfl,by ac_rfl⟩
theorem Zbr:Zs ["numbers", "n", "others", "side", "first", "rest"] ["numbers", "n"] (Ze Zci):=⟨rfl,rfl,rfl,by ac_rfl,rfl,by ac_rfl,by ac_rfl⟩
theorem Zfv:Zs ["self"] ["self"] (Ze Zaa):=⟨rfl,rfl,rfl,by ac_rfl,rfl,by ac_rfl,by ac_rfl⟩
theorem ZcC:Zs ["self", "row", "number"] ["self", "row"] (Ze Z4):=⟨rfl,rfl,rfl,by ac_rfl,rfl,by ac_rfl,by ac_rfl⟩
theorem ZeT:Zs ["self", "n"] ["self", "n"] (Ze Zaf):=⟨rfl,rfl,rfl,by ac_rfl,rfl,by ac_rfl,by ac_rfl⟩
theorem ZbZ:Zs ["self", "n", "many"] ["self", "n"] (Ze ZW):=⟨rfl,rfl,rfl,by ac_rfl,rfl,by ac_rfl,by ac_rfl⟩
theorem Zfw:Zs ["heads", "least"] ["heads"] (Ze Zbm):=⟨rfl,rfl,rfl,by ac_rfl,rfl,by ac_rfl,by ac_rfl⟩
theorem Zc7:Zs ["heads", "n", "keys"] ["heads"] (Ze ZaV):=⟨rfl,rfl,rfl,by ac_rfl,rfl,by ac_rfl,by ac_rfl⟩
theorem ZgY:Zs ["thing"] ["thing"] (Ze Zbc):=⟨rfl,rfl,rfl,by ac_rfl,rfl,by ac_rfl,by ac_rfl⟩
theorem ZgE:Zs ["thing"] ["thing"] (Ze Zbi):=⟨rfl,rfl,rfl,by ac_rfl,rfl,by ac_rfl,by ac_rfl⟩
theorem Zbv:Zs ["heads", "n", "thing", "keyed", "ahead", "entry"] ["heads", "n", "thing"] (Ze ZaP):=⟨rfl,rfl,rfl,by ac_rfl,rfl,by ac_rfl,by ac_rfl⟩
theorem Z2:Zs ["keyed", "ahead", "entry", "row", "winner", "far", "order", "alike_far", "seen"] ["keyed", "ahead", "entry"] (Ze ZaE):=⟨rfl,rfl,rfl,by ac_rfl,rfl,by ac_rfl,by ac_rfl⟩
theorem ZhM:Zs ["paper"] ["paper"] (Ze Za8):=⟨rfl,rfl,rfl,by ac_rfl,rfl,by ac_rfl,by ac_rfl⟩
theorem Zbn:Zs ["_law_merge", "_law_heads", "_law_thing", "_law_n", "_law_paper", "_law_keys_here"] ["_law_merge"] (Ze Za5):=⟨rfl,rfl,rfl,by ac_rfl,rfl,by ac_rfl,by ac_rfl⟩
theorem ZcQ:Zs ["_law_script", "_law_k", "_law_left_here", "_law_rows_here", "_law_merge", "_law_late", "_law_way", "_law_turns"] ["_law_script"] (Ze ZcJ):=⟨rfl,rfl,rfl,by ac_rfl,rfl,by ac_rfl,by ac_rfl⟩
def Zmj:Scope:={ kind:=.function,names:=[(Str.ofString ".0",.«local»),(Str.ofString "_law_k",.«local»),(Str.ofString "_law_pick",.globalImplicit),(Str.ofString "_law_left_here",.free),(Str.ofString "_law_some",.free)],isGenerator:=false,isCoroutine:=false,more:=[] }
theorem Zlu:ZY ["_law_left_here", "_law_some"] ["_law_left_here", "_law_some", "_law_k"] (Ze Zbk) Zmj:=⟨rfl,rfl,by ac_rfl,by ac_rfl,by ac_rfl,by decide,by ac_rfl,by ac_rfl⟩
def ZpV:Scope:={ kind:=.function,names:=[(Str.ofString ".0",.«local»),(Str.ofString "_law_k",.«local»),(Str.ofString "_law_pick",.globalImplicit),(Str.ofString "_law_left_here",.cell),(Str.ofString "_law_some",.cell)],isGenerator:=false,isCoroutine:=false,more:=[] }
def Znq:Scope:={ kind:=.function,names:=[(Str.ofString ".0",.«local»),(Str.ofString "_law_k",.«local»),(Str.ofString "_law_pick",.globalImplicit),(Str.ofString "_law_left_here",.free)],isGenerator:=false,isCoroutine:=false,more:=[] }
theorem Zno:ZY ["_law_left_here", "_law_stems_here", "_law_tail"] ["_law_left_here", "_law_stems_here", "_law_tail", "_law_k"] (Ze ZcB) Znq:=⟨rfl,rfl,by ac_rfl,by ac_rfl,by ac_rfl,by decide,by ac_rfl,by ac_rfl⟩
def ZpZ:Scope:={ kind:=.function,names:=[(Str.ofString ".0",.«local»),(Str.ofString "_law_k",.«local»),(Str.ofString "_law_pick",.globalImplicit),(Str.ofString "_law_left_here",.cell)],isGenerator:=false,isCoroutine:=false,more:=[] }
def Zm9:Scope:={ kind:=.function,names:=[(Str.ofString ".0",.«local»),(Str.ofString "row",.«local»)],isGenerator:=false,isCoroutine:=false,more:=[] }
theorem Zn2:ZY ["self"] ["self", "row"] (Ze Zaj) Zm9:=⟨rfl,rfl,by ac_rfl,by ac_rfl,by ac_rfl,by decide,by ac_rfl,by ac_rfl⟩
def ZpB:Scope:={ kind:=.function,names:=[(Str.ofString ".0",.«local»),(Str.ofString "row",.«local»)],isGenerator:=false,isCoroutine:=false,more:=[] }
def Znf:Scope:={ kind:=.function,names:=[(Str.ofString ".0",.«local»),(Str.ofString "_law_k",.«local»),(Str.ofString "_law_row",.globalImplicit),(Str.ofString "_law_left_here",.free),(Str.ofString "_law_most",.free),(Str.ofString "_law_stems_here",.free)],isGenerator:=false,isCoroutine:=false,more:=[] }
theorem ZjI:ZY ["_law_left_here", "_law_stems_here", "_law_most"] ["_law_left_here", "_law_stems_here", "_law_most", "_law_k"] (Ze ZbK) Znf:=⟨rfl,rfl,by ac_rfl,by ac_rfl,by ac_rfl,by decide,by ac_rfl,by ac_rfl⟩
def ZpS:Scope:={ kind:=.function,names:=[(Str.ofString ".0",.«local»),(Str.ofString "_law_k",.«local»),(Str.ofString "_law_row",.globalImplicit),(Str.ofString "_law_left_here",.cell),(Str.ofString "_law_most",.cell),(Str.ofString "_law_stems_here",.cell)],isGenerator:=false,isCoroutine:=false,more:=[] }
def ZmY:Scope:={ kind:=.function,names:=[(Str.ofString ".0",.«local»),(Str.ofString "number",.«local»),(Str.ofString "row",.«local»)],isGenerator:=false,isCoroutine:=false,more:=[] }
theorem ZlX:ZY ["self"] ["self", "number", "row"] (Ze Zaa) ZmY:=⟨rfl,rfl,by ac_rfl,by ac_rfl,by ac_rfl,by decide,by ac_rfl,by ac_rfl⟩
def ZpY:Scope:={ kind:=.function,names:=[(Str.ofString ".0",.«local»),(Str.ofString "number",.«local»),(Str.ofString "row",.«local»)],isGenerator:=false,isCoroutine:=false,more:=[] }
def Zmy:Scope:={ kind:=.function,names:=[(Str.ofString ".0",.«local»),(Str.ofString "row",.«local»),(Str.ofString "key",.«local»)],isGenerator:=false,isCoroutine:=false,more:=[] }
theorem Zkj:ZY ["heads", "least"] ["heads", "least", "row", "key"] (Ze Zbm) Zmy:=⟨rfl,rfl,by ac_rfl,by ac_rfl,by ac_rfl,by decide,by ac_rfl,by ac_rfl⟩
def ZpU:Scope:={ kind:=.function,names:=[(Str.ofString ".0",.«local»),(Str.ofString "row",.«local»),(Str.ofString "key",.«local»)],isGenerator:=false,isCoroutine:=false,more:=[] }
def ZnC:Scope:={ kind:=.function,names:=[(Str.ofString ".0",.«local»),(Str.ofString "row",.«local»),(Str.ofString "key",.«local»)],isGenerator:=false,isCoroutine:=false,more:=[] }
theorem Zmc:ZY ["heads", "n", "keys"] ["heads", "n", "keys", "row", "key"] (Ze ZaV) ZnC:=⟨rfl,rfl,by ac_rfl,by ac_rfl,by ac_rfl,by decide,by ac_rfl,by ac_rfl⟩
def Zo7:Scope:={ kind:=.function,names:=[(Str.ofString ".0",.«local»),(Str.ofString "row",.«local»),(Str.ofString "key",.«local»)],isGenerator:=false,isCoroutine:=false,more:=[] }
def Zmp:Scope:={ kind:=.function,names:=[(Str.ofString ".0",.«local»),(Str.ofString "row",.«local»),(Str.ofString "key",.«local»),(Str.ofString "alike",.globalImplicit),(Str.ofString "keys",.free),(Str.ofString "n",.free)],isGenerator:=false,isCoroutine:=false,more:=[] }
theorem ZeU:ZY ["heads", "n", "keys"] ["heads", "n", "keys", "row", "key"] (Ze ZaV) Zmp:=⟨rfl,rfl,by ac_rfl,by ac_rfl,by ac_rfl,by decide,by ac_rfl,by ac_rfl⟩
def ZpA:Scope:={ kind:=.function,names:=[(Str.ofString ".0",.«local»),(Str.ofString "row",.«local»),(Str.ofString "key",.«local»),(Str.ofString "alike",.globalImplicit),(Str.ofString "keys",.cell),(Str.ofString "n",.cell)],isGenerator:=false,isCoroutine:=false,more:=[] }
def ZmS:Scope:={ kind:=.function,names:=[(Str.ofString ".0",.«local»),(Str.ofString "row",.«local»),(Str.ofString "key",.«local»)],isGenerator:=false,isCoroutine:=false,more:=[] }
theorem ZjY:ZY ["heads", "n", "thing", "keyed", "ahead", "entry"] ["heads", "n", "thing", "keyed", "ahead", "entry", "row", "key"] (Ze ZaP) ZmS:=⟨rfl,rfl,by ac_rfl,by ac_rfl,by ac_rfl,by decide,by ac_rfl,by ac_rfl⟩
def Zpg:Scope:={ kind:=.function,names:=[(Str.ofString ".0",.«local»),(Str.ofString "row",.«local»),(Str.ofString "key",.«local»)],isGenerator:=false,isCoroutine:=false,more:=[] }
def Zm1:Scope:={ kind:=.function,names:=[(Str.ofString ".0",.«local»),(Str.ofString "row",.«local»),(Str.ofString "winner",.«local»),(Str.ofString "far",.«local»)],isGenerator:=false,isCoroutine:=false,more:=[] }
theorem Zll:ZY ["paper"] ["paper", "row", "winner", "far"] (Ze Za8) Zm1:=⟨rfl,rfl,by ac_rfl,by ac_rfl,by ac_rfl,by decide,by ac_rfl,by ac_rfl⟩
def Zpy:Scope:={ kind:=.function,names:=[(Str.ofString ".0",.«local»),(Str.ofString "row",.«local»),(Str.ofString "winner",.«local»),(Str.ofString "far",.«local»)],isGenerator:=false,isCoroutine:=false,more:=[] }
def Zl8:Scope:={ kind:=.function,names:=[(Str.ofString ".0",.«local»),(Str.ofString "_law_row_here",.«local»),(Str.ofString "_law_key_here",.«local»)],isGenerator:=false,isCoroutine:=false,more:=[] }
theorem ZhH:ZY ["_law_merge", "_law_heads", "_law_thing", "_law_n", "_law_paper", "_law_keys_here"] ["_law_merge", "_law_heads", "_law_thing", "_law_n", "_law_paper", "_law_keys_here", "_law_row_here", "_law_key_here"] (Ze Za5) Zl8:=⟨rfl,rfl,by ac_rfl,by ac_rfl,by ac_rfl,by decide,by ac_rfl,by ac_rfl⟩
def Zo2:Scope:={ kind:=.function,names:=[(Str.ofString ".0",.«local»),(Str.ofString "_law_row_here",.«local»),(Str.ofString "_law_key_here",.«local»)],isGenerator:=false,isCoroutine:=false,more:=[] }
def Zld:Scope:={ kind:=.function,names:=[(Str.ofString ".0",.«local»),(Str.ofString "_law_row_here",.«local»),(Str.ofString "_law_key_here",.«local»),(Str.ofString "shows_next",.globalImplicit),(Str.ofString "_law_heads",.free),(Str.ofString "_law_n",.free),(Str.ofString "_law_paper",.free)],isGenerator:=false,isCoroutine:=false,more:=[] }
theorem Zec:ZY ["_law_merge", "_law_heads", "_law_thing", "_law_n", "_law_paper", "_law_keys_here"] ["_law_merge", "_law_heads", "_law_thing", "_law_n", "_law_paper", "_law_keys_here", "_law_row_here", "_law_key_here"] (Ze Za5) Zld:=⟨rfl,rfl,by ac_rfl,by ac_rfl,by ac_rfl,by decide,by ac_rfl,by ac_rfl⟩
def Zo3:Scope:={ kind:=.function,names:=[(Str.ofString ".0",.«local»),(Str.ofString "_law_row_here",.«local»),(Str.ofString "_law_key_here",.«local»),(Str.ofString "shows_next",.globalImplicit),(Str.ofString "_law_heads",.cell),(Str.ofString "_law_n",.cell),(Str.ofString "_law_paper",.cell)],isGenerator:=false,isCoroutine:=false,more:=[] }
structure Bt (mg:Str→Option Value):Prop where
 n_abs:mg "abs" = none
 n_any:mg "any" = none
 n_bool:mg "bool" = none
 n_dict:mg "dict" = none
 n_enumerate:mg "enumerate" = none
 n_int:mg "int" = none
 n_isinstance:mg "isinstance" = none
 n_len:mg "len" = none
 n_list:mg "list" = none
 n_max:mg "max" = none
 n_min:mg "min" = none
 n_range:mg "range" = none
 n_sorted:mg "sorted" = none
 n_sum:mg "sum" = none
 n_tuple:mg "tuple" = none
structure Zao (K:PySem.W.Frag) (mg:Str→Option Value) (cRow:Addr) (cMerge:Addr):Prop where
 b:Bt mg
 t_alike:Top K mg "alike" Zc4 ["one", "other"]
 t_liken:Top K mg "liken" Zdd ["one", "other"]
 t_liken_from:Top K mg "liken_from" ZaZ ["one", "other", "far"]
 t_alike_from:Top K mg "alike_from" Za0 ["one", "other", "far"]
 t_order_at:Top K mg "order_at" Zbz ["one", "other", "at"]
 t_next_of:Top K mg "next_of" Zbm ["heads"]
 t_paper_of:Top K mg "paper_of" ZaV ["heads"]
 t_halves:Top K mg "halves" Zcp ["numbers"]
 t_way_up:Top K mg "way_up" Zci ["numbers", "n"]
 t_first_break:Top K mg "first_break" ZaR ["keys"]
 t_alikes:Top K mg "alikes" ZcD ["row"]
 t_refuse_break:Top K mg "refuse_break" ZaN ["number", "keys"]
 t_matches_up:Top K mg "matches_up" Za2 ["numbers", "n"]
 t_is_number:Top K mg "is_number" Zbc ["thing"]
 t_is_triple:Top K mg "is_triple" Zbi ["thing"]
 t_shows_next:Top K mg "shows_next" ZaP ["heads", "n", "thing"]
 t_shows_greater:Top K mg "shows_greater" ZaE ["keyed", "ahead", "entry"]
 t_signs_in:Top K mg "signs_in" Za8 ["paper"]
 t_l_mix:Top K mg "_law_mix" Zc9 ["_law_cell", "_law_k"]
 t_l_left:Top K mg "_law_left" Zcz ["_law_script", "_law_k"]
 t_l_pick:Top K mg "_law_pick" Zcf ["_law_left_here", "_law_many_here"]
 t_l_stems:Top K mg "_law_stems" Zbk ["_law_left_here"]
 t_l_key:Top K mg "_law_key" ZcB ["_law_left_here", "_law_stems_here"]
 t_l_keys:Top K mg "_law_keys" Zco ["_law_left_here", "_law_stems_here", "_law_most"]
 t_l_row:Top K mg "_law_row" Zc3 ["_law_left_here", "_law_stems_here", "_law_most"]
 t_l_many:Top K mg "_law_many" Zcg ["_law_left_here"]
 t_l_rows:Top K mg "_law_rows" ZbK ["_law_left_here"]
 t_l_right:Top K mg "_law_right" Za5 ["_law_merge"]
 t_Row_init:ZmX K mg cRow "Row" "Row.__init__" ZaS ["self", "keys"]
 t_Row_to_go:Zdg K cRow "to_go" "Row.to_go" ZaI ["self"]
 t_Row_head:Zdg K cRow "head" "Row.head" ZaT ["self"]
 t_Merge_init:ZmX K mg cMerge "Merge" "Merge.__init__" Zau ["self", "rows"]
 t_Merge_coming:Zdg K cMerge "coming" "Merge.coming" Zae ["self"]
 t_Merge_take:Zdg K cMerge "take" "Merge.take" Zav ["self"]
 t_Merge_left:Zdg K cMerge "left" "Merge.left" Zaj ["self"]
 t_Merge_heads:Zdg K cMerge "heads" "Merge.heads" Zaa ["self"]
 t_Merge_looks:Zdg K cMerge "looks" "Merge.looks" ZaB ["self"]
 t_Merge_add_row:Zdg K cMerge "add_row" "Merge.add_row" Z4 ["self", "row"]
 t_Merge_drop_row:Zdg K cMerge "drop_row" "Merge.drop_row" ZW ["self", "n"]
 t_Merge_row_of:Zdg K cMerge "row_of" "Merge.row_of" Zaf ["self", "n"]
 t_Merge_play_all:Zdg K cMerge "play_all" "Merge.play_all" ZX ["self"]
 t_Merge_play:Zdg K cMerge "play" "Merge.play" Zaw ["self", "numbers"]
 t_Merge_send_out:Zdg K cMerge "send_out" "Merge.send_out" ZZ ["self", "number"]
 t_Merge_play_again:Zdg K cMerge "play_again" "Merge.play_again" ZO ["self", "meeting", "comer"]
 t_Merge_meet:Zdg K cMerge "meet" "Merge.meet" Zax ["self", "one", "other", "far"]
 cl_Row:Cls K cRow
 na_Row_all_keys:ZaW K cRow "all_keys"
 na_Row_fars:ZaW K cRow "fars"
 na_Row_gone:ZaW K cRow "gone"
 cl_Merge:Cls K cMerge
 na_Merge_best:ZaW K cMerge "best"
 na_Merge_likened:ZaW K cMerge "likened"
 na_Merge_looked:ZaW K cMerge "looked"
 na_Merge_next_number:ZaW K cMerge "next_number"
 na_Merge_rows:ZaW K cMerge "rows"
 na_Merge_stays:ZaW K cMerge "stays"
 g_MOST_ROWS:∃tk,mg "MOST_ROWS" = some (.int 16 tk)
def Zap(H:Hp)(p:Addr)(c:Int):Prop:=∃a b:Int,H p=some (.lst [.int a,.int b,.int c])∧0≤c
def But(p:Addr)(H H':Hp):Prop:=∀b o,H b=some o→b≠p→H' b=some o
theorem But.trans{p:Addr}{H H1 H2:Hp}(a:But p H H1)(b:But p H1 H2):But p H H2:=fun c o h n=>b c o (a c o h n) n
theorem But.same{p:Addr}{H H1:Hp}(a:Zz H H1):But p H H1:=fun c o h _=>a c o h
theorem Zl{H:Hp}{p:Addr}(h:H p=none)(o:HO):Zz H (upd H p o):=fun b u q=>by rw[Zc (Zb q h)];exact q
theorem ZcU{n:Nat}(h:n≤1000):n≤sizeLine:=Qat (ZE h)
def Zky:Sp:=fun vs H Q _=>∃a k:Int,vs=[.int a,.int k] ∧ -(2 ^ 62)<k∧k<2 ^ 62∧∀r:Int,0≤r→r<2000000000→Q (.int r) H
def Zl4(K:PySem.W.Frag):Sp:=fun vs H Q _=>∃ (a:Addr) (ns:List Int) (k:Int),vs=[.ref a,.int k]∧SqL K H a (ns.map V.int)∧ns.length≤63∧0≤k∧k<100 ∧
 ∀ (p:Addr) (H':Hp),H p=none→Zap H' p 0→Zz H H'→Q (.ref p) H'
def ZdV:Sp:=fun vs H Q _=>∃ (p:Addr) (c m:Int),vs=[.ref p,.int m]∧Zap H p c∧c<2 ^ 60∧0<m∧m<1000000 ∧
 ∀ (r:Int) (H':Hp),0≤r→r<m→Zap H' p (c+1)→But p H H'→Q (.int r) H'
theorem ZoI{ns:List Int}{k:Int}(h0:0≤k)(h:k<(ns.length:Int)):∃v:Int,atI (ns.map V.int) k=some (.int v):=by
 have hk:k.toNat<ns.length:=by omega
 have ek:k=((k.toNat:Nat):Int):=by omega
 have q:atI (ns.map V.int) ((k.toNat:Nat):Int)=some (.int ns[k.toNat]):=Zay (by rw[Qv,Qb hk]<;>rfl)
 rw[← ek]at q
 exact⟨_,q⟩
theorem Ziv{ss:List Str}{k:Int}(h0:0≤k)(h:k<(ss.length:Int)):∃s∈ss,atI (ss.map V.str) k=some (.str s):=by
 have hk:k.toNat<ss.length:=by omega
 have ek:k=((k.toNat:Nat):Int):=by omega
 have q:atI (ss.map V.str) ((k.toNat:Nat):Int)=some (.str ss[k.toNat]):=Zay (by rw[Qv,Qb hk]<;>rfl)
 rw[← ek]at q
 exact⟨_,QS hk,q⟩
theorem ZnI(b:Bool):-(2 ^ 64)<(if b=true then (1:Int) else 0)∧(if b=true then (1:Int) else 0)<2 ^ 64:=by cases b<;>decide
theorem Zd5{z:Str}{k:Int}(h0:0≤k)(h:k<(z.length:Int)):∃c:Nat,z.cps.toList[k.toNat]? = some c∧atI z.cps.toList k=some c:=by
 have hl:z.cps.toList.length=z.length:=by simp[Str.length]
 have hk:k.toNat<z.cps.toList.length:=by omega
 have ek:k=((k.toNat:Nat):Int):=by omega
 have q:atI z.cps.toList ((k.toNat:Nat):Int)=some z.cps.toList[k.toNat]:=Zay (Qb hk)
 rw[← ek]at q
 exact⟨_,Qb hk,q⟩
theorem ZkJ(sep:Str)(ys:List Str):(Txt.join sep ys).length≤(ys.map (·.length)).sum+ys.length*sep.length:=by
 have e:Txt.join sep ys=Str.join sep ys:=by simpa using join_plain_closes sep ys
 rw[e]
 exact StrLaws.join_length_le sep ys
theorem Zh0:∀ss:List Str,(∀s∈ss,s.length≤1)→(ss.map (·.length)).sum≤ss.length
 | [],_=>Qg _
 | s::r,h=>by
  have h1:=h s QM
  have h2:=Zh0 r fun x hx=>h x (Qm _ hx)
  rw[Qe,QJ,Qu]
  omega
def lcp:List Nat→List Nat→Nat
 | a::r,b::s=>if a=b then lcp r s+1 else 0
 | _,_=>0
theorem ZdU:∀ (x y:List Nat),lcp x y≤x.length∧lcp x y≤y.length
 | [],_=>⟨Qn _,Qn _⟩
 | _::_,[]=>⟨Qn _,Qn _⟩
 | a::r,b::s=>by
  have h:=ZdU r s
  unfold lcp
  split
  ·exact⟨Nat.succ_le_succ h.1,Nat.succ_le_succ h.2⟩
  ·exact⟨Qn _,Qn _⟩
theorem ZbV:∀ (x y:List Nat),lcp x y=lcp y x
 | [],[]=>rfl
 | [],_::_=>rfl
 | _::_,[]=>rfl
 | a::r,b::s=>by
  unfold lcp
  by_cases h:a=b
  ·rw[if_pos h,if_pos h.symm,ZbV r s]
  ·rw[if_neg h,if_neg fun e=>h e.symm]
theorem Zhj:∀x:List Nat,lcp x x=x.length
 | []=>rfl
 | a::r=>by unfold lcp;rw[if_pos rfl,Zhj r];rfl
theorem Zdv(x:List Nat):lcp x []=0:=by cases x<;>rfl
theorem lcp_nil'(x:List Nat):lcp [] x=0:=by cases x<;>rfl
theorem Zma:∀ (x y:List Nat) (k:Nat),k≤lcp x y→∀a,x[k]? = some a→y[k]? = some a→k+1≤lcp x y
 | [],_,k,_,a,h,_=>by simp at h
 | _::_,[],k,_,a,_,h=>by simp at h
 | a::r,b::s,0,_,c,h1,h2=>by
  simp at h1 h2
  unfold lcp
  rw[if_pos (by rw[h1,h2])]
  omega
 | a::r,b::s,k+1,h,c,h1,h2=>by
  unfold lcp at h ⊢
  by_cases e:a=b
  ·rw[if_pos e]at h ⊢
   have:=Zma r s k (by omega) c (by simpa using h1) (by simpa using h2)
   omega
  ·rw[if_neg e]at h;omega
theorem Zlq:∀ (x y:List Nat) (k:Nat),k<lcp x y→x[k]? = y[k]?
 | [],_,k,h=>by unfold lcp at h;omega
 | _::_,[],k,h=>by unfold lcp at h;omega
 | a::r,b::s,0,h=>by
  unfold lcp at h
  by_cases e:a=b
  ·simp[e]
  ·rw[if_neg e]at h;omega
 | a::r,b::s,k+1,h=>by
  unfold lcp at h
  by_cases e:a=b
  ·rw[if_pos e]at h
   simpa using Zlq r s k (by omega)
  ·rw[if_neg e]at h;omega
theorem Zg7(x y:List Nat)(k:Nat)(h:k≤lcp x y)(n:x.length≤k∨y.length≤k∨∃a b,x[k]? = some a∧y[k]? = some b∧a≠b):lcp x y=k:=by
 have l:=ZdU x y
 rcases n with n|n|⟨a,b,h1,h2,ne⟩
 ·omega
 ·omega
 ·by_cases q:k<lcp x y
  ·have:=Zlq x y k q
   rw[h1,h2]at this
   exact absurd (Qo this) ne
  ·omega
theorem ZeJ:∀ (x y z:List Nat),(lcp x y≤lcp x z∧lcp y z=lcp x y)∨(lcp x y≤lcp y z∧lcp x z=lcp x y)∨(lcp x z≤lcp x y∧lcp y z=lcp x z)
 | [],y,z=>.inr (.inl ⟨by rw[lcp_nil'];exact Qn _,by rw[lcp_nil',lcp_nil']⟩)
 | x,[],z=>.inl ⟨by rw[Zdv];exact Qn _,by rw[Zdv,lcp_nil']⟩
 | x,y,[]=>.inr (.inr ⟨by rw[Zdv];exact Qn _,by rw[Zdv,Zdv]⟩)
 | a::r,b::s,c::t=>by
  have ih:=ZeJ r s t
  unfold lcp
  by_cases h1:a=b
  ·by_cases h2:b=c
   ·rw[if_pos h1,if_pos h2,if_pos (h1.trans h2)]
    omega
   ·rw[if_pos h1,if_neg h2,if_neg fun e=>h2 (h1.symm.trans e)]
    omega
  ·rw[if_neg h1]
   by_cases h2:b=c
   ·rw[if_pos h2,if_neg fun e=>h1 (e.trans h2.symm)]
    omega
   ·rw[if_neg h2]
    omega
abbrev cds(z:Str):List Nat:=z.cps.toList
def AZ(z:Str):Prop:=∀c∈cds z,97≤c∧c≤122
theorem Zg6(x y:Str):cds (x++y)=cds x++cds y:=by
 show (x++y).cps.toList=_
 rw[PySem.Str.cps_append]
 simp
theorem AZ.app{x y:Str}(a:AZ x)(b:AZ y):AZ (x++y):=fun c h=>by
 rw[Zg6]at h
 exact(Qk.mp h).elim (a c) (b c)
theorem AZ.nil:AZ "":=by unfold AZ cds;ac_rfl
theorem AZ.join:∀ys:List Str,(∀s∈ys,AZ s)→AZ (Str.join "" ys)
 | [],_=>fun c h=>by cases (show c∈([]:List Nat) from h)
 | [x],h=>h x (by simp)
 | x::y::r,h=>((h x (by simp)).app AZ.nil).app (AZ.join (y::r) fun s hs=>h s (Qm _ hs))
theorem AZ.joinT(ys:List Str)(h:∀s∈ys,AZ s):AZ (Txt.join "" ys):=by
 have e:Txt.join "" ys=Str.join "" ys:=by simpa using join_plain_closes "" ys
 rw[e]
 exact AZ.join ys h
theorem AZ.one{z:Str}(a:AZ z){k:Nat}{c:Nat}(h:z.cps.toList[k]? = some c):AZ ⟨#[c]⟩:=fun d hd=>by
 have e:d=c:=by simpa using hd
 rw[e]
 exact a c (Qq h)
theorem AZ.ok{z:Str}(a:AZ z):PyData.strOk z=true:=by
 unfold PyData.strOk
 rw[Array.all_eq_true]
 intro i hi
 have:=a z.cps[i] (by simp)
 exact decide_eq_true (by omega)
theorem Zon:AZ "ababcz":=by unfold AZ cds;ac_rfl
def Zej:Sp:=fun vs H Q _=>∃x y:Str,vs=[.str x,.str y]∧x.length≤1000∧y.length≤1000∧Q (.int (lcp (cds x) (cds y))) H
def Zb1:Sp:=fun vs H Q _=>∃ (x y:Str) (far:Nat),vs=[.str x,.str y,.int far]∧x.length≤1000∧y.length≤1000∧far≤lcp (cds x) (cds y)∧Q (.int (lcp (cds x) (cds y))) H
def IsD(H:Hp):Nat→V→V→Prop
 | 0,_,_=>False
 | n+1,x,y=>(x=y∧(x=.non∨(∃b,x=.bl b)∨(∃i,x=.int i)∨∃s,x=.str s)) ∨
   (∃ (p q:Addr) (xs ys:List V),x=.ref p∧y=.ref q∧((H p=some (.lst xs)∧H q=some (.lst ys))∨(H p=some (.tup xs)∧H q=some (.tup ys)))∧xs.length=ys.length∧xs.length≤1000∧∀ (i:Nat) (x y:V),xs[i]? = some x→ys[i]? = some y→IsD H n x y)
def spSame(n:Nat):Sp:=fun vs H Q _=>∃x y:V,vs=[x,y]∧IsD H n x y∧∀H',Zz H H'→Q (.bl true) H'
section
variable (K:PySem.W.Frag)
open PySem.W
end
section
variable {P:Program} {w:World} {K:PySem.W.Frag} {mg:Str→Option Value} {base:Heap} {cRow cMerge:Addr}
theorem ZoZ(T:Zao K mg cRow cMerge):Df P w K mg base 1 "_law_mix" ["_law_cell", "_law_k"] Zky:=by
 refine T.t_l_mix.df Zhs (fun vs H Q E h=>?_) (fun cdv f A outer s H vs Q E hr h=>?_)
 ·obtain⟨a,k,rfl,_⟩:=h
  rfl
 obtain⟨a,k,rfl,k1,k2,q⟩:=h
 refine⟨_,#[Zd,#[Zx,2,Zhs.nd,(Or.inl rfl),#[Z8,Zfa,#[Z8,ZeC,#[Z8,Zbl,#[Z8,Zbl,#[Z8,Zfa,‹0›,#[Zh]],#[Z8,ZeC,#[Z8,ZeC,‹1›,‹1›],#[Zh]]],#[Zh]],#[Zh]],#[Zh]]],#[Zi,#[Zq,#[Z8,Zfa,#[Z8,ZeC,‹2›,‹2›],#[Zh]]]]],?_⟩
 refine⟨_,rfl,_,_,rfl,rfl,(by show (0:Int)<_;decide),_,rfl,_,rfl,_,_,rfl,rfl,.inl ⟨by omega,by omega⟩,_,_,rfl,rfl,.inr ⟨by decide,by decide⟩,_,_,rfl,rfl,_,_,rfl,rfl,_,_,rfl,rfl,.inr ⟨by decide,by decide⟩,_,_,rfl,rfl,(by show (0:Int)<_;decide),?_⟩
 have m0:=Int.emod_nonneg ((a % 2147483629+k*k*7919+11)*48271) (show (2147483647:Int)≠0 by decide)
 have m1:=Qao ((a % 2147483629+k*k*7919+11)*48271) (show (0:Int)<2147483647 by decide)
 refine⟨_,rfl,_,rfl,_,_,rfl,rfl,.inl ⟨by omega,by omega⟩,_,_,rfl,rfl,(by show (0:Int)<_;decide),?_⟩
 exact q _ (Int.emod_nonneg _ (by decide)) (Int.lt_trans (Qao _ (by decide)) (by decide))
theorem ZmD(T:Zao K mg cRow cMerge):Df P w K mg base 1 "_law_left" ["_law_script", "_law_k"] (Zl4 K):=by
 refine T.t_l_left.df Zgd (fun vs H Q E h=>?_) (fun cdv f A outer s H vs Q E hr h=>?_)
 ·obtain⟨a,ns,k,rfl,_⟩:=h
  rfl
 obtain⟨a,ns,k,rfl,hS,h63,k0,k1,q⟩:=h
 refine⟨_,#[Zd,#[Zx,2,Zgd.nd,(Or.inl rfl),#[Zbj,#[Zk,Zef,‹1›,#[Zu,(ZdO K),T.b.n_len,Qw,#[Za,‹0›,#[Zg]]],(Zo _)],#[ZF,(ixL K),‹0›,‹1›],#[Zh]]],#[Zi,#[Zq,#[ZbU,#[Za,#[Z8,ZeC,#[Zu,ZhT,T.b.n_abs,boot_abs,#[Za,‹2›,#[Zg]]],#[ZcG,ZjF,T.b.n_int,boot_int,#[Za,#[Zbg,ZnF,#[Zu,ZhT,T.b.n_abs,boot_abs,#[Za,‹2›,#[Zg]]],#[Z8,ZoY,#[Zh],#[Zh]],(Zo _)],#[Zg]]]],#[Za,#[Z8,Zbl,‹2›,#[Z8,ZeC,#[Zh],‹1›]],#[Za,#[Zh],#[Zg]]]]]]]],?_⟩
 have hl:(ns.map V.int).length=ns.length:=Qa _
 have pw:Zp2 10 18:=⟨by decide,by decide,by decide⟩
 refine⟨_,rfl,_,rfl,a,_,rfl,.inl hS,_,_,rfl,rfl,_,rfl,?_⟩
 refine ZbJ (fun c=>?_) (fun c=>?_)
 ·have c':k<(((ns.map V.int).length:Nat):Int):=of_decide_eq_true c
  rw[hl]at c'
  obtain⟨v,hv⟩:=ZoI (ns:=ns) k0 c'
  refine⟨_,rfl,_,rfl,a,_,_,_,rfl,rfl,hS,hv,?_⟩
  refine⟨_,rfl,_,rfl,_,rfl,_,rfl,_,_,rfl,rfl,pw,_,_,rfl,rfl,.inr ⟨_,rfl,_,_,rfl,rfl,.inr (ZnI _),_,rfl,_,rfl,_,_,rfl,rfl,.inl ⟨by decide,by decide⟩,_,_,rfl,rfl,(by show 3≤sizeLine;decide),fun p hp=>?_⟩⟩
  exact q p _ hp ⟨_,_,Zf,Int.le_refl _⟩ (Zl hp _)
 ·refine⟨_,rfl,_,rfl,_,rfl,_,rfl,_,_,rfl,rfl,pw,_,_,rfl,rfl,.inr ⟨_,rfl,_,_,rfl,rfl,.inr (ZnI _),_,rfl,_,rfl,_,_,rfl,rfl,.inl ⟨by decide,by decide⟩,_,_,rfl,rfl,(by show 3≤sizeLine;decide),fun p hp=>?_⟩⟩
  exact q p _ hp ⟨_,_,Zf,Int.le_refl _⟩ (Zl hp _)
theorem Zmi(T:Zao K mg cRow cMerge)(f_l_mix:Df P w K mg base 1 "_law_mix" ["_law_cell", "_law_k"] Zky):Df P w K mg base 2 "_law_pick" ["_law_left_here", "_law_many_here"] ZdV:=by
 refine T.t_l_pick.df Zgy (fun vs H Q E h=>?_) (fun cdv f A outer s H vs Q E hr h=>?_)
 ·obtain⟨p,c,m,rfl,_⟩:=h
  rfl
 obtain⟨p,c,m,rfl,⟨a,b,hp,c0⟩,c1,m0,m1,q⟩:=h
 refine⟨_,#[Zd,#[ZaX,#[Z8,Zbl,#[ZF,(ixL K),‹0›,#[Zh]],#[Zh]],#[ZcK,‹0›,#[Zh],Zht]],#[Zd,#[Zac,#[Zk,Zgk,#[ZF,(ixL K),‹0›,#[Zh]],#[Zh],(Zo _)],#[Zd,#[Zx,2,Zgy.nd,(Or.inl rfl),#[Z8,Zfa,#[ZF,(ixL K),‹0›,#[Zh]],‹1›]],#[Zd,#[ZaX,#[Z8,Zg3,#[ZF,(ixL K),‹0›,#[Zh]],‹1›],#[ZcK,‹0›,#[Zh],Zht]],#[Zi,#[Zq,‹2›]]]],#[ZG]],#[Zi,#[Zq,#[Z8,Zfa,#[Z8,Zg3,#[ZC,f_l_mix,hr,#[Za,#[ZC,f_l_mix,hr,#[Za,#[ZF,(ixL K),‹0›,#[Zh]],#[Za,#[ZF,(ixL K),‹0›,#[Zh]],#[Zg]]],(by rfl)],#[Za,#[Z8,Zbl,#[ZF,(ixL K),‹0›,#[Zh]],#[Zh]],#[Zg]]],(by rfl)],#[Zh]],‹1›]]]]],?_⟩
 have u1:(upd H p (.lst [.int a,.int b,.int (c+1)])) p=some (.lst [.int a,.int b,.int (c+1)]):=Zf
 refine⟨_,rfl,p,_,_,_,rfl,rfl,SqL.of hp,rfl,_,_,rfl,rfl,_,rfl,p,_,_,2,rfl,rfl,hp,rfl,?_⟩
 refine⟨_,rfl,p,_,_,_,rfl,rfl,SqL.of u1,rfl,_,_,rfl,rfl,_,rfl,?_⟩
 refine ZbJ (fun d=>?_) (fun d=>?_)
 ·refine⟨_,rfl,p,_,_,_,rfl,rfl,SqL.of u1,rfl,_,rfl,_,_,rfl,rfl,m0,?_⟩
  refine⟨_,rfl,p,_,_,_,rfl,rfl,SqL.of u1,rfl,_,rfl,_,_,rfl,rfl,⟨m0,by omega⟩,_,rfl,p,_,_,0,rfl,rfl,u1,rfl,?_⟩
  refine⟨_,rfl,?_⟩
  refine q _ _ (Int.emod_nonneg _ (by omega)) (Qao _ m0) ⟨a / m,b,Zf,by omega⟩ fun e o h n=>?_
  rw[Zc n,Zc n]
  exact h
 ·refine⟨_,rfl,p,_,_,_,rfl,rfl,SqL.of u1,rfl,_,rfl,p,_,_,_,rfl,rfl,SqL.of u1,rfl,_,_,rfl,by omega,by omega,fun r r0 r1=>?_⟩
  refine⟨_,rfl,p,_,_,_,rfl,rfl,SqL.of u1,rfl,_,_,rfl,rfl,_,_,rfl,by omega,by omega,fun r' r0' r1'=>?_⟩
  refine⟨_,_,rfl,rfl,⟨by decide,by decide⟩,_,rfl,_,_,rfl,rfl,m0,?_⟩
  refine q _ _ (Int.emod_nonneg _ (by omega)) (Qao _ m0) ⟨a,b,Zf,by omega⟩ fun e o h n=>?_
  rw[Zc n]
  exact h
def Zbx:List Str:=["", "a", "ab", "aba", "abab", "b", "zebra", "aaaaaaaa", "knowswho", "z", "abababababab",Txt.mul "a" 24]
theorem ZhI:∀s∈Zbx,s.length≤24:=by ac_rfl
theorem Zie:∀s∈Zbx,AZ s:=by unfold AZ cds;ac_rfl
def ZgB:Sp:=fun vs H Q _=>∃ (p:Addr) (c:Int),vs=[.ref p]∧Zap H p c∧c<2 ^ 50 ∧
 ∀ (l:Addr) (ss:List Str) (c':Int) (H':Hp),H l=none→H' l=some (.lst (ss.map V.str))→1≤ss.length→ss.length≤4→(∀s∈ss,s.length≤24∧AZ s)→Zap H' p c'→c≤c'→c'≤c+5→But p H H'→Q (.ref l) H'
def ZkU:Sp:=fun vs H Q _=>∃ (p l:Addr) (c:Int) (ss:List Str),vs=[.ref p,.ref l]∧Zap H p c∧c<2 ^ 50∧H l=some (.lst (ss.map V.str))∧1≤ss.length∧ss.length≤4∧(∀s∈ss,s.length≤24∧AZ s) ∧
 ∀ (z:Str) (c':Int) (H':Hp),z.length≤28→AZ z→Zap H' p c'→c≤c'→c'≤c+6→But p H H'→Q (.str z) H'
theorem Zk3(T:Zao K mg cRow cMerge)(f_l_pick:Df P w K mg base 2 "_law_pick" ["_law_left_here", "_law_many_here"] ZdV):Df P w K mg base 3 "_law_stems" ["_law_left_here"] ZgB:=by
 refine T.t_l_stems.df Zfr (fun vs H Q E h=>?_) (fun cdv f A outer s H vs Q E hr h=>?_)
 ·obtain⟨p,c,rfl,_⟩:=h
  rfl
 obtain⟨p,c,rfl,hL,c1,q⟩:=h
 refine⟨_,#[Zd,#[Zx,1,Zfr.nd,(Or.inr rfl),#[ZbU,#[Za,#[Za6],#[Za,#[Za6],#[Za,#[Za6],#[Za,#[Za6],#[Za,#[Za6],#[Za,#[Za6],#[Za,#[Za6],#[Za,#[Za6],#[Za,#[Za6],#[Za,#[Za6],#[Za,#[Za6],#[Za,#[Z8,Zmq,#[Za6],#[Zh]],#[Zg]]]]]]]]]]]]]]],#[Zi,#[Zq,#[ZbH,Zlu,#[Zcu,T.b.n_range,#[Za,#[Z8,Zbl,#[Zh],#[ZC,f_l_pick,hr,#[Za,#[pv,0,(Or.inr (Or.inl rfl))],#[Za,#[Zh],#[Zg]]],(by rfl)]],#[Zg]]],(fun _ _ _ _=>#[cg,2,Zlu]),(fun _ _ _ _=>(@ZcH _)),(fun _ _ _ _=>#[ZF,(ixL K),#[cv,1,Zlu],#[ZC,f_l_pick,hr,#[Za,#[cv,0,Zlu],#[Za,#[Zh],#[Zg]]],(Zcj Zlu rfl (by ac_rfl))]])]]]],?_⟩
 refine⟨_,_,rfl,rfl,by decide,by decide,by decide,(by show 12≤sizeLine;decide),fun l hl=>?_⟩
 have npl:p≠l:=by obtain⟨a,b,hp,_⟩:=hL;exact Zb hp hl
 have hL1:Zap (upd H l (.lst (Zbx.map V.str))) p c:=by obtain⟨a,b,hp,c0⟩:=hL;exact⟨a,b,by rw[Zc npl];exact hp,c0⟩
 refine⟨_,rfl,p,c,_,rfl,hL1,by omega,by decide,by decide,fun r H1 r0 r1 L1 B1=>?_⟩
 refine⟨_,_,rfl,rfl,_,rfl,by omega,by omega,fun D hD=>?_⟩
 have c0:0≤c:=by obtain⟨a,b,hp,c0⟩:=hL;exact c0
 have h1l:H1 l=some (.lst (Zbx.map V.str)):=B1 l _ Zf npl.symm
 have npD:p≠D:=by obtain⟨a,b,hp,_⟩:=L1;exact Zb hp hD
 have nlD:l≠D:=Zb h1l hD
 refine ZdR (fun i ys σ H2=>∃ (ss:List Str) (v:Option V) (c2:Int),σ=[some (.ref p),some (.ref l),v]∧ys=ss.map V.str∧ss.length=i∧(∀s∈ss,s.length≤24∧AZ s)∧Zap H2 p c2∧c+1≤c2∧c2≤c+1+i ∧
   H2 l=some (.lst (Zbx.map V.str))∧H2 D=some (.lst ys)∧But p H H2) ?_ ?_ ?_
 ·refine⟨[],none,c+1,rfl,rfl,rfl,(fun s hs=>by cases hs),?_,by omega,by omega,?_,Zf,?_⟩
  ·obtain⟨a,b,hp,q0⟩:=L1
   exact⟨a,b,by rw[Zc npD];exact hp,q0⟩
  ·rw[Zc nlD];exact h1l
  ·intro b o e n
   have e1:(upd H l (.lst (Zbx.map V.str))) b=some o:=by rw[Zc (Zb e hl)];exact e
   have e2:=B1 b o e1 n
   rw[Zc (Zb e2 hD)]
   exact e2
 ·rintro i ys σ H2 hi ⟨ss,v,c2,rfl,rfl,hn,hs,L2',b1,b2,hl2,hD2,B2⟩
  refine⟨_,rfl,_,rfl,p,c2,_,rfl,L2',by omega,by decide,by decide,fun r' H3 r0' r1' L3 B3=>?_⟩
  obtain⟨s,hs1,hs2⟩:=Ziv (ss:=Zbx) r0' r1'
  have hD3:H3 D=some (.lst (ss.map V.str)):=B3 D _ hD2 npD.symm
  have hl3:H3 l=some (.lst (Zbx.map V.str)):=B3 l _ hl2 npl.symm
  refine⟨l,_,_,_,rfl,rfl,SqL.of hl3,hs2,hD3,(by rw[Qa,hn];exact ZE (by omega)),ss++[s],_,c2+1,rfl,?_,?_,?_,?_,by omega,by omega,?_,Zf,?_⟩
  ·rw[Qh];rfl
  ·rw[Qs,hn];rfl
  ·intro x hx
   rcases Qk.mp hx with hx|hx
   ·exact hs x hx
   ·rw[Ql.mp hx];exact⟨ZhI s hs1,Zie s hs1⟩
  ·obtain⟨a,b,hp,q0⟩:=L3
   exact⟨a,b,by rw[Zc npD];exact hp,q0⟩
  ·rw[Zc nlD];exact hl3
  ·intro b o e n
   have e2:=B3 b o (B2 b o e n) n
   have e3:H D=none:=by
    cases w':H D with
    | none=>rfl
    | some u =>
     have nDp:D≠p:=npD.symm
     have z1:(upd H l (.lst (Zbx.map V.str))) D=some u:=by rw[Zc nlD.symm];exact w'
     rw[B1 D u z1 nDp]at hD
     cases hD
   rw[Zc (Zb e e3)]
   exact e2
 ·rintro ys σ H2 ⟨ss,v,c2,rfl,rfl,hn,hs,L2',b1,b2,hl2,hD2,B2⟩
  have e3:H D=none:=by
   cases w':H D with
   | none=>rfl
   | some u =>
    have z1:(upd H l (.lst (Zbx.map V.str))) D=some u:=by rw[Zc nlD.symm];exact w'
    rw[B1 D u z1 npD.symm]at hD
    cases hD
  exact q D ss c2 H2 e3 hD2 (by omega) (by omega) hs L2' (by omega) (by omega) B2
theorem ZnZ(T:Zao K mg cRow cMerge)(f_l_pick:Df P w K mg base 2 "_law_pick" ["_law_left_here", "_law_many_here"] ZdV):Df P w K mg base 3 "_law_key" ["_law_left_here", "_law_stems_here"] ZkU:=by
 refine T.t_l_key.df Zh3 (fun vs H Q E h=>?_) (fun cdv f A outer s H vs Q E hr h=>?_)
 ·obtain⟨p,l,c,ss,rfl,_⟩:=h
  rfl
 obtain⟨p,l,c,ss,rfl,hL,c1,hl,n1,n4,h24,q⟩:=h
 refine⟨_,#[Zd,#[Zx,2,Zh3.nd,(Or.inl rfl),#[ZeS,PySem.F.plainAttrs_str,PySem.F.slot_str_join,PySem.F.type_str_join,(ZnG K),#[Za6],#[Za,#[ZbH,Zno,#[Zcu,T.b.n_range,#[Za,#[ZC,f_l_pick,hr,#[Za,#[pv,0,(Or.inr (Or.inl rfl))],#[Za,#[Zh],#[Zg]]],(by rfl)],#[Zg]]],(fun _ _ _ _=>#[cg,3,Zno]),(fun _ _ _ _=>(@ZcH _)),(fun _ _ _ _=>#[ZF,Zfy,#[Za6],#[ZC,f_l_pick,hr,#[Za,#[cv,0,Zno],#[Za,#[Zh],#[Zg]]],(Zcj Zno rfl (by ac_rfl))]])],#[Zg]]]],#[Zi,#[Zq,#[Z8,ZiF,#[ZF,(ixL K),‹1›,#[ZC,f_l_pick,hr,#[Za,#[pv,0,(Or.inr (Or.inl rfl))],#[Za,#[Zu,(ZdO K),T.b.n_len,Qw,#[Za,‹1›,#[Zg]]],#[Zg]]],(by rfl)]],‹2›]]]],?_⟩
 have c0:0≤c:=by obtain⟨a,b,hp,c0⟩:=hL;exact c0
 have npl:p≠l:=by
  obtain⟨a,b,hp,_⟩:=hL
  refine ZlG hp hl fun e=>?_
  have e1:=congrArg List.length (HO.lst.inj e)
  cases ss with
  | nil=>cases e1
  | cons x r=>exact absurd (HO.lst.inj e) (by intro z;cases z)
 refine⟨rfl,_,rfl,p,c,_,rfl,hL,by omega,by decide,by decide,fun r H1 r0 r1 L1 B1=>?_⟩
 refine⟨_,rfl,by omega,by omega,fun D hD=>?_⟩
 have npD:p≠D:=by obtain⟨a,b,hp,_⟩:=L1;exact Zb hp hD
 have h1l:=B1 l _ hl npl.symm
 have nlD:l≠D:=Zb h1l hD
 have hDn:H D=none:=by
  cases w':H D with
  | none=>rfl
  | some u=>rw[B1 D u w' npD.symm]at hD;cases hD
 refine ZdR (fun i ys σ H2=>∃ (ts:List Str) (v:Option V) (c2:Int),σ=[some (.ref p),some (.ref l),none,v]∧ys=ts.map V.str∧ts.length=i∧(∀s∈ts,s.length≤1∧AZ s)∧Zap H2 p c2∧c+1≤c2∧c2≤c+1+i ∧
   H2 D=some (.lst ys)∧But p H H2) ?_ ?_ ?_
 ·refine⟨[],none,c+1,rfl,rfl,rfl,(fun s hs=>by cases hs),?_,by omega,by omega,Zf,?_⟩
  ·obtain⟨a,b,hp,q0⟩:=L1
   exact⟨a,b,by rw[Zc npD];exact hp,q0⟩
  ·intro b o e n
   rw[Zc (Zb e hDn)]
   exact B1 b o e n
 ·rintro i ys σ H2 hi ⟨ts,v,c2,rfl,rfl,hn,hs,L2',b1,b2,hD2,B2⟩
  refine⟨_,rfl,p,c2,_,rfl,L2',by omega,by decide,by decide,fun r' H3 r0' r1' L3 B3=>?_⟩
  obtain⟨ch,hcm,hch⟩:=Zd5 (z := "ababcz") r0' r1'
  have hD3:H3 D=some (.lst (ts.map V.str)):=B3 D _ hD2 npD.symm
  refine⟨_,_,_,rfl,rfl,(by ac_rfl),hch,hD3,(by rw[Qa,hn];exact ZE (by omega)),ts++[⟨#[ch]⟩],_,c2+1,rfl,?_,?_,?_,?_,by omega,by omega,Zf,?_⟩
  ·rw[Qh];rfl
  ·rw[Qs,hn];rfl
  ·intro x hx
   rcases Qk.mp hx with hx|hx
   ·exact hs x hx
   ·rw[Ql.mp hx];exact⟨Qg 1,Zon.one hcm⟩
  ·obtain⟨a,b,hp,q0⟩:=L3
   exact⟨a,b,by rw[Zc npD];exact hp,q0⟩
  ·intro b o e n
   rw[Zc (Zb e hDn)]
   exact B3 b o (B2 b o e n) n
 ·rintro ys σ H2 ⟨ts,v,c2,rfl,rfl,hn,hs,L2',b1,b2,hD2,B2⟩
  have hsum:=Zh0 ts fun s h=>(hs s h).1
  have hjl:=ZkJ "" ts
  have e0:("" : Str).length=0:=by ac_rfl
  rw[e0]at hjl
  have hl2:=B2 l _ hl npl.symm
  refine⟨_,D,ts,rfl,rfl,SqL.of hD2,(by rw[e0];omega),?_⟩
  have hlen:(((ss.map V.str).length:Nat):Int)=(ss.length:Int):=by rw[Qa]
  refine⟨_,rfl,_,rfl,_,rfl,l,_,rfl,.inl (SqL.of hl2),p,c2,_,rfl,L2',by omega,by omega,by omega,fun r' H3 r0' r1' L3 B3=>?_⟩
  obtain⟨st,hs1,hs2⟩:=Ziv (ss:=ss) r0' (by omega)
  have hst:=(h24 st hs1).1
  refine⟨l,_,_,_,rfl,rfl,SqL.of (B3 l _ hl2 npl.symm),hs2,_,rfl,_,_,rfl,rfl,ZcU (by omega),?_⟩
  refine q _ (c2+1) H3 ?_ ((h24 st hs1).2.app (AZ.joinT ts fun s h=>(hs s h).2)) L3 (by omega) (by omega) (B2.trans B3)
  rw[PySem.Str.length_append]
  omega
theorem ZfP(T:Zao K mg cRow cMerge):Df P w K mg base 1 "alike_from" ["one", "other", "far"] Zb1:=by
 refine T.t_alike_from.df Zb9 (fun vs H Q E h=>?_) (fun cdv f A outer s H vs Q E hr h=>?_)
 ·obtain⟨x,y,far,rfl,_⟩:=h
  rfl
 obtain⟨x,y,far,rfl,hx,hy,hf,q⟩:=h
 refine⟨_,#[Zd,#[Zx,3,Zb9.nd,(Or.inl rfl),‹2›],#[Zd,(@Zfm _ _ _ _ _ _ PassesOwn.never (@PW.pt _ _ _ #[Zca,#[Zk,Zef,‹3›,#[Zu,ZaK,T.b.n_len,Qw,#[Za,‹0›,#[Zg]]],(Zo _)],#[Zca,#[Zk,Zef,‹3›,#[Zu,ZaK,T.b.n_len,Qw,#[Za,‹1›,#[Zg]]],(Zo _)],#[Zb0,#[Zk,Zbh,#[ZF,Zfy,‹0›,‹3›],#[ZF,Zfy,‹1›,‹3›],(Zo _)]]]]) #[Zi,(@Zo0 _ _ 3 _ _ _ _ _ _ Zb9.nd rfl (Or.inl rfl) #[Zh] ZoJ (by trivial))]),#[Zi,#[Zq,‹3›]]]],?_⟩
 refine⟨_,rfl,?_⟩
 have lx:(cds x).length=x.length:=by simp[Str.length]
 have ly:(cds y).length=y.length:=by simp[Str.length]
 have ll:=ZdU (cds x) (cds y)
 refine⟨fun m σ H2=>∃k:Nat,σ=[some (.str x),some (.str y),some (.int far),some (.int k)]∧H2=H∧k≤lcp (cds x) (cds y)∧m=lcp (cds x) (cds y)-k,⟨_,far,rfl,rfl,hf,rfl⟩,?_⟩
 rintro m σ H2 ⟨k,rfl,rfl,hk,rfl⟩
 refine⟨_,rfl,_,rfl,x,rfl,ZcU hx,_,_,rfl,rfl,_,rfl,?_⟩
 refine ZbJ (fun d1=>?_) (fun d1=>?_)
 ·have d1':(k:Int)<(x.length:Int):=of_decide_eq_true d1
  refine⟨_,rfl,_,rfl,y,rfl,ZcU hy,_,_,rfl,rfl,_,rfl,?_⟩
  refine ZbJ (fun d2=>?_) (fun d2=>?_)
  ·have d2':(k:Int)<(y.length:Int):=of_decide_eq_true d2
   obtain⟨a,ha,ha'⟩:=Zd5 (z:=x) (k:=k) (by omega) d1'
   obtain⟨b,hb,hb'⟩:=Zd5 (z:=y) (k:=k) (by omega) d2'
   rw[Int.toNat_natCast]at ha hb
   refine⟨_,rfl,_,rfl,x,_,a,rfl,rfl,ZcU hx,ha',_,rfl,_,rfl,y,_,b,rfl,rfl,ZcU hy,hb',rfl,_,rfl,?_⟩
   refine ZbJ (fun d3=>?_) (fun d3=>?_)
   ·have d3':a=b:=by
     have:=of_decide_eq_true d3
     injection this with e
     injection e with e
     simpa using e
    subst d3'
    have:=Zma _ _ k hk a ha hb
    refine⟨fun σ' H'=>σ'=[some (.str x),some (.str y),some (.int far),some (.int ((k+1:Nat):Int))]∧H'=H2,fun σ' H' ⟨e1,e2⟩=>⟨_,?_,k+1,e1,e2,this,rfl⟩,?_⟩
    ·omega
    ·exact⟨_,rfl,_,_,rfl,rfl,rfl,rfl⟩
   ·refine⟨_,rfl,?_⟩
    have e:=Zg7 _ _ k hk (.inr (.inr ⟨a,b,ha,hb,fun e=>d3 (by subst e;exact decide_eq_true rfl)⟩))
    rw[e]at q
    exact q
  ·refine Zbb ⟨_,rfl,?_⟩
   have d2':¬ (k:Int)<(y.length:Int):=of_decide_eq_false (Bool.eq_false_iff.mpr d2)
   have e:=Zg7 _ _ k hk (.inr (.inl (by omega)))
   rw[e]at q
   exact q
 ·refine Zbb ⟨_,rfl,?_⟩
  have d1':¬ (k:Int)<(x.length:Int):=of_decide_eq_false (Bool.eq_false_iff.mpr d1)
  have e:=Zg7 _ _ k hk (.inl (by omega))
  rw[e]at q
  exact q
theorem Zla(T:Zao K mg cRow cMerge)(f_alike_from:Df P w K mg base 1 "alike_from" ["one", "other", "far"] Zb1):Df P w K mg base 2 "alike" ["one", "other"] Zej:=by
 refine T.t_alike.df Zlt (fun vs H Q E h=>?_) (fun cdv f A outer s H vs Q E hr h=>?_)
 ·obtain⟨x,y,rfl,_⟩:=h
  rfl
 obtain⟨x,y,rfl,hx,hy,q⟩:=h
 refine⟨_,#[Zi,#[Zq,#[ZC,f_alike_from,hr,#[Za,‹0›,#[Za,‹1›,#[Za,#[Zh],#[Zg]]]],(by rfl)]]],?_⟩
 exact⟨_,rfl,_,rfl,x,y,0,rfl,hx,hy,Qn _,q⟩
theorem Zcm{c A B:Prop}[Decidable c](hc:c)(h:A):if decide c=true then A else B:=by
 rw[if_pos (decide_eq_true hc)]
 exact h
theorem ZbC{c A B:Prop}[Decidable c](hc:¬ c)(h:B):if decide c=true then A else B:=by
 rw[if_neg (by rw[decide_eq_false hc];exact Qi)]
 exact h
theorem Zap.new{H:Hp}{p l:Addr}{c:Int}{o:HO}(h:Zap H p c)(n:H l=none):Zap (upd H l o) p c:=by
 obtain⟨a,b,hp,c0⟩:=h
 exact⟨a,b,by rw[Zc (Zb hp n)];exact hp,c0⟩
theorem Zap.ge{H:Hp}{p:Addr}{c:Int}(h:Zap H p c):0≤c:=by obtain⟨a,b,hp,c0⟩:=h;exact c0
theorem Zap.here{H:Hp}{p:Addr}{c:Int}(h:Zap H p c):∃o,H p=some o:=by obtain⟨a,b,hp,c0⟩:=h;exact⟨_,hp⟩
theorem Zap.at{H:Hp}{p l:Addr}{c:Int}{o:HO}(h:Zap H p c)(n:p≠l):Zap (upd H l o) p c:=by
 obtain⟨a,b,hp,c0⟩:=h
 exact⟨a,b,by rw[Zc n];exact hp,c0⟩
theorem ZhB:∀ss:List Str,(∀s∈ss,AZ s)→PyData.canLayAll0 (ss.map PyData.str)=true
 | [],_=>rfl
 | x::r,h=>by simp[PyData.canLayAll0,PyData.canLay0,(h x (by simp)).ok,ZhB r fun s hs=>h s (List.mem_cons_of_mem _ hs)]
theorem Ze3:∀ss:List Str,PyData.depthAll (ss.map PyData.str)=0
 | []=>rfl
 | _::r=>by simp[PyData.depthAll,PyData.depth,Ze3 r]
theorem ZhA(ss:List Str)(h:∀s∈ss,AZ s):SeqAt.shaped (.list (ss.map PyData.str))=true:=by simp[SeqAt.shaped,PyData.canLay0,PyData.depth,ZhB ss h,Ze3]
theorem Zi9{K:PySem.W.Frag}{H:Hp}:∀ss:List Str,DVs K H (ss.map V.str) (ss.map PyData.str)
 | []=>.nil
 | s::r=>.cons (.str s) (Zi9 r)
def Zij:Sp:=fun vs H Q _=>∃ (p l:Addr) (c most:Int) (ss:List Str),vs=[.ref p,.ref l,.int most]∧Zap H p c∧c<2 ^ 40∧0≤most∧most≤60∧H l=some (.lst (ss.map V.str))∧1≤ss.length∧ss.length≤4∧(∀s∈ss,s.length≤24∧AZ s) ∧
 ∀ (r:Addr) (ts:List Str) (c':Int) (H':Hp),H r=none→H' r=some (.lst (ts.map V.str))→(ts.length:Int)≤most→(∀s∈ts,s.length≤28∧AZ s)→Zap H' p c'→c≤c'→c'≤c+600→But p H H'→Q (.ref r) H'
theorem Zng(T:Zao K mg cRow cMerge)(f_l_pick:Df P w K mg base 2 "_law_pick" ["_law_left_here", "_law_many_here"] ZdV)(f_l_key:Df P w K mg base 3 "_law_key" ["_law_left_here", "_law_stems_here"] ZkU):Df P w K mg base 4 "_law_keys" ["_law_left_here", "_law_stems_here", "_law_most"] Zij:=by
 refine T.t_l_keys.df Zcd (fun vs H Q E h=>?_) (fun cdv f A outer s H vs Q E hr h=>?_)
 ·obtain⟨p,l,c,most,ss,rfl,_⟩:=h
  rfl
 obtain⟨p,l,c,most,ss,rfl,hL,c1,m0,m1,hl,n1,n4,h24,q⟩:=h
 refine⟨_,#[Zd,#[Zx,3,Zcd.nd,(Or.inl rfl),#[ZbU,#[Zg]]],#[Zd,#[Zdf,PassesOwn.never,#[Zcu,T.b.n_range,#[Za,#[ZC,f_l_pick,hr,#[Za,‹0›,#[Za,#[Z8,Zbl,‹2›,#[Zh]],#[Zg]]],(by rfl)],#[Zg]]],#[ZJ,4,Zcd.nd],#[Zd,#[Zx,5,Zcd.nd,(Or.inl rfl),#[ZC,f_l_key,hr,#[Za,‹0›,#[Za,‹1›,#[Zg]]],(by rfl)]],#[Zd,#[Zac,(@PW.pt _ _ _ #[Zca,#[Zk,(@neD _ K _ hr (by rfl)),‹3›,#[ZbU,#[Zg]],(Zo _)],#[Zb0,#[Zk,Zbh,#[ZC,f_l_pick,hr,#[Za,‹0›,#[Za,#[Zh],#[Zg]]],(by rfl)],#[Zh],(Zo _)]]]),#[Zi,#[Zx,5,Zcd.nd,(Or.inl rfl),#[ZF,(ixL K),‹3›,#[ZC,f_l_pick,hr,#[Za,‹0›,#[Za,#[Zu,(ZdO K),T.b.n_len,Qw,#[Za,‹3›,#[Zg]]],#[Zg]]],(by rfl)]]]],#[ZG]],#[Zi,#[Zaz,#[ZeS,QT,QV,QW,ZbP,‹3›,#[Za,‹5›,#[Zg]]]]]]]],#[Zi,#[Zq,‹3›]]]],?_⟩
 have c0:=hL.ge
 refine⟨(by show 0≤sizeLine;decide),fun r hr0=>?_⟩
 have npr:p≠r:=by obtain⟨o,ho⟩:=hL.here;exact Zb ho hr0
 have nlr:l≠r:=Zb hl hr0
 have npl:p≠l:=by
  obtain⟨a,b,hp,_⟩:=hL
  refine ZlG hp hl fun e=>?_
  cases ss with
  | nil=>exact absurd (congrArg List.length (HO.lst.inj e)) (by simp)
  | cons x r=>exact absurd (HO.lst.inj e) (by intro z;cases z)
 refine⟨_,rfl,_,rfl,_,_,rfl,rfl,p,c,_,rfl,hL.new hr0,by omega,by omega,by omega,fun n H1 w0 w1 L1 B1=>?_⟩
 refine⟨_,rfl,by omega,by omega,?_⟩
 have hr1:H1 r=some (.lst []):=B1 r _ Zf npr.symm
 have B01:But p H H1:=(But.same (Zl hr0 _)).trans B1
 refine ZeH (fun i σ H2=>∃ (ts:List Str) (v1 v2:Option V) (c2:Int),σ=[some (.ref p),some (.ref l),some (.int most),some (.ref r),v1,v2]∧H2 r=some (.lst (ts.map V.str))∧ts.length=i∧(∀s∈ts,s.length≤28∧AZ s)∧Zap H2 p c2∧c+1≤c2∧c2≤c+1+8*i∧(∀b o,H b=some o→b≠p→H2 b=some o)) ⟨[],none,none,c+1,rfl,hr1,rfl,(fun s hs=>by cases hs),L1,by omega,by omega,B01⟩ ?_ ?_
 ·rintro i σ H2 hi ⟨ts,v1,v2,c2,rfl,hr2,hn,h28,L2,a1,a2,B2⟩
  have hi60:(i:Int)<61:=by omega
  have hl2:=B2 l _ hl npl.symm
  refine⟨_,rfl,_,rfl,p,l,c2,ss,rfl,L2,by omega,hl2,n1,n4,h24,fun key c3 H3 hkey hkaz L3 a3 a4 B3=>?_⟩
  have hr3:=B3 r _ hr2 npr.symm
  have fin:∀ (k2:Str) (c4:Int) (H4:Hp),k2.length≤28∧AZ k2→Zap H4 p c4→c2≤c4→c4≤c2+8→H4 r=some (.lst (ts.map V.str))→(∀b o,H b=some o→b≠p→H4 b=some o) →
    ∃ (ts':List Str) (v1 v2:Option V) (c5:Int),[some (V.ref p),some (V.ref l),some (V.int most),some (V.ref r),some (V.int (0+(i:Int))),some (V.str k2)]=[some (.ref p),some (.ref l),some (.int most),some (.ref r),v1,v2] ∧
     (upd H4 r (.lst (ts.map V.str++[.str k2]))) r=some (.lst (ts'.map V.str))∧ts'.length=i+1∧(∀s∈ts',s.length≤28∧AZ s)∧Zap (upd H4 r (.lst (ts.map V.str++[.str k2]))) p c5∧c+1≤c5∧c5≤c+1+8*((i+1:Nat):Int) ∧
     (∀b o,H b=some o→b≠p→(upd H4 r (.lst (ts.map V.str++[.str k2]))) b=some o):=fun k2 c4 H4 hk L4 b1 b2 hr4 B4=>by
   refine⟨ts++[k2],_,_,c4,rfl,?_,by rw[Qs,hn];rfl,?_,L4.at npr,by omega,by omega,fun b o e n=>?_⟩
   ·rw[Zf,Qh];rfl
   ·intro x hx
    rcases Qk.mp hx with hx|hx
    ·exact h28 x hx
    ·rw[Ql.mp hx];exact hk
   ·rw[Zc (Zb e hr0)]
    exact B4 b o e n
  have hlt:(ts.map V.str).length<sizeLine:=by rw[Qa,hn];exact ZE (by omega)
  refine⟨_,rfl,(by show 0≤sizeLine;decide),fun e he=>?_⟩
  have hr3':(upd H3 e (.lst [])) r=some (.lst (ts.map V.str)):=by rw[Zc (Zb hr3 he)];exact hr3
  refine⟨.list (ts.map PyData.str),.list [],.lst (SqL.of hr3') (Zi9 ts),.lst (SqL.of Zf) .nil,ZhA ts (fun s h=>(h28 s h).2),(by ac_rfl),_,rfl,?_⟩
  have B3':∀b o,H b=some o→b≠p→(upd H3 e (.lst [])) b=some o:=fun b o z n=>Zl he _ b o (B3 b o (B2 b o z n) n)
  cases ts with
  | nil =>
   have ev:(if true=true then !PyData.eqv (.list (([]:List Str).map PyData.str)) (.list []) else PyData.eqv (.list (([]:List Str).map PyData.str)) (.list []))=false:=by ac_rfl
   rw[ev]
   refine Zbb (Zbb ?_)
   refine⟨_,rfl,.inl ⟨rfl,_,SqL.of hr3'⟩,_,rfl,r,_,_,rfl,rfl,hr3',hlt,?_⟩
   exact fin key c3 _ ⟨hkey,hkaz⟩ (L3.new he) (by omega) (by omega) hr3' B3'
  | cons t0 tr =>
   have ev:(if true=true then !PyData.eqv (.list ((t0::tr).map PyData.str)) (.list []) else PyData.eqv (.list ((t0::tr).map PyData.str)) (.list []))=true:=by simp[PyData.eqv,PyData.eqvAll]
   rw[ev]
   refine Zbp ⟨_,rfl,p,c3,_,rfl,L3.new he,by omega,by decide,by decide,fun d H5 d0 d1 L5 B5=>?_⟩
   have hr5:=B5 r _ hr3' npr.symm
   refine⟨rfl,_,rfl,ZbJ (fun _=>?_) (fun _=>?_)⟩
   ·have hlen:((((t0::tr).map V.str).length:Nat):Int)=((t0::tr).length:Int):=by rw[Qa]
    have hpos:(0:Int)<((t0::tr).length:Int):=by simp
    refine⟨_,rfl,_,rfl,_,rfl,r,_,rfl,.inl (SqL.of hr5),p,c3+1,_,rfl,L5,by omega,by omega,by omega,fun d' H6 d0' d1' L6 B6=>?_⟩
    obtain⟨st,hs1,hs2⟩:=Ziv (ss:=t0::tr) d0' (by omega)
    have hr6:=B6 r _ hr5 npr.symm
    refine⟨r,_,_,_,rfl,rfl,SqL.of hr6,hs2,?_⟩
    refine⟨_,rfl,.inl ⟨rfl,_,SqL.of hr6⟩,_,rfl,r,_,_,rfl,rfl,hr6,hlt,?_⟩
    exact fin st _ _ (h28 st hs1) L6 (by omega) (by omega) hr6 fun b o z n=>B6 b o (B5 b o (B3' b o z n) n) n
   ·refine⟨_,rfl,.inl ⟨rfl,_,SqL.of hr5⟩,_,rfl,r,_,_,rfl,rfl,hr5,hlt,?_⟩
    exact fin key _ _ ⟨hkey,hkaz⟩ L5 (by omega) (by omega) hr5 fun b o z n=>B5 b o (B3' b o z n) n
 ·rintro σ H2 ⟨ts,v1,v2,c2,rfl,hr2,hn,h28,L2,a1,a2,B2⟩
  exact⟨_,rfl,q r ts c2 H2 hr0 hr2 (by omega) h28 L2 (by omega) (by omega) B2⟩
def Zcb(ss:List Str)(i:Nat):Int:=if i=0 then 0 else (lcp (cds (ss.getD (i-1) "")) (cds (ss.getD i "")):Nat)
def ZfI(K:PySem.W.Frag):Sp:=fun vs H Q _=>∃ (a:Addr) (ss:List Str),vs=[.ref a]∧SqL K H a (ss.map V.str)∧ss.length≤100∧(∀s∈ss,s.length≤1000) ∧
 ∀ (r:Addr) (H':Hp),H r=none→H' r=some (.lst ((List.range ss.length).map fun j=>.int (Zcb ss j)))→Zz H H'→Q (.ref r) H'
theorem Zkd(T:Zao K mg cRow cMerge)(f_alike:Df P w K mg base 2 "alike" ["one", "other"] Zej):Df P w K mg base 3 "alikes" ["row"] (ZfI K):=by
 refine T.t_alikes.df Zdr (fun vs H Q E h=>?_) (fun cdv f A outer s H vs Q E hr h=>?_)
 ·obtain⟨a,ss,rfl,_⟩:=h
  rfl
 obtain⟨a,ss,rfl,hS,hn,hlen,q⟩:=h
 refine⟨_,#[Zd,#[Zx,1,Zdr.nd,(Or.inl rfl),#[ZbU,#[Zg]]],#[Zd,#[Zdf,PassesOwn.never,(@iE _ K _ _ _ _ _ _ _ T.b.n_enumerate #[Za,‹0›,#[Zg]] (by rfl) (by rfl) (by rfl)),#[gT,K,2,#[Zv,#[ZJ,2,Zdr.nd],#[Zv,#[ZJ,3,Zdr.nd],(@Zas _)]]],#[Zi,#[Zaz,#[ZeS,QT,QV,QW,ZbP,‹1›,#[Za,#[Zbj,#[Zk,Zbh,‹2›,#[Zh],(Zo _)],#[Zh],#[ZC,f_alike,hr,#[Za,#[ZF,(ixL K),‹0›,#[Z8,Zfz,‹2›,#[Zh]]],#[Za,‹3›,#[Zg]]],(by rfl)]],#[Zg]]]]]],#[Zi,#[Zq,‹1›]]]],?_⟩
 refine⟨(by show 0≤sizeLine;decide),fun r hr0=>?_⟩
 have s1:Zz H (upd H r (.lst [])):=Zl hr0 _
 refine⟨_,rfl,a,ss.map V.str,rfl,s1.seq hS,?_⟩
 refine Zhg (K:=K) (a:=a) (xs:=ss.map V.str) (fun i σ H2=>(∃v1 v2:Option V,σ=[some (.ref a),some (.ref r),v1,v2])∧H2 r=some (.lst ((List.range i).map fun j=>.int (Zcb ss j)))∧Zz H H2∧i≤ss.length) ⟨⟨none,none,rfl⟩,Zf,s1,Qn _⟩ (fun _ _ _ hq=>by obtain⟨_,_,s2,_⟩:=hq;exact s2.seq hS) ?_ ?_
 ·rintro i x σ H2 p hx ⟨⟨v1,v2,rfl⟩,hr2,s2,hi⟩ hp
  rw[Qv]at hx
  cases hy:ss[i]? with
  | none=>rw[hy]at hx;cases hx
  | some y =>
   rw[hy]at hx
   cases hx
   have hil:i<ss.length:=(Qc.mp hy).1
   have npr:r≠p:=Zb hr2 hp
   have s3:Zz H (upd H2 p (.tup [.int i,.str y])):=s2.trans (Zl hp _)
   have hr3:(upd H2 p (.tup [.int i,.str y])) r=some (.lst ((List.range i).map fun j=>.int (Zcb ss j))):=by rw[Zc npr];exact hr2
   have hlt:((List.range i).map fun j=>V.int (Zcb ss j)).length<sizeLine:=by rw[Qa,List.length_range];exact ZE (by omega)
   have fin:∀z:Int,z=Zcb ss i→(∃v1 v2:Option V,[some (V.ref a),some (V.ref r),some (V.int i),some (V.str y)]=[some (.ref a),some (.ref r),v1,v2]) ∧
     (upd (upd H2 p (.tup [.int i,.str y])) r (.lst (((List.range i).map fun j=>.int (Zcb ss j))++[.int z]))) r=some (.lst ((List.range (i+1)).map fun j=>.int (Zcb ss j))) ∧
     Zz H (upd (upd H2 p (.tup [.int i,.str y])) r (.lst (((List.range i).map fun j=>.int (Zcb ss j))++[.int z])))∧i+1≤ss.length:=fun z e=>by
    refine⟨⟨_,_,rfl⟩,?_,fun b o h=>?_,hil⟩
    ·rw[Zf,List.range_succ,Qh,e];rfl
    ·rw[Zc (Zb h hr0)];exact s3 b o h
   refine⟨p,_,rfl,SqT.of Zf,rfl,_,_,rfl,_,_,rfl,rfl,?_⟩
   refine⟨_,rfl,.inl ⟨rfl,_,SqL.of hr3⟩,_,rfl,rfl,_,rfl,?_⟩
   by_cases e0:i=0
   ·subst e0
    exact Zcm rfl ⟨r,_,_,rfl,rfl,hr3,hlt,fin 0 rfl⟩
   ·have hprev:i-1<ss.length:=by omega
    have ei:((i:Int)-1)=((i-1:Nat):Int):=by omega
    have hat:atI (ss.map V.str) ((i:Int)-1)=some (.str ss[i-1]):=by rw[ei];exact Zay (by rw[Qv,Qb hprev]<;>rfl)
    refine ZbC (fun z=>by injection z with z;omega) ⟨_,rfl,_,rfl,_,_,rfl,rfl,a,_,_,_,rfl,rfl,s3.seq hS,hat,_,rfl,ss[i-1],y,rfl,hlen _ (QS hprev),hlen _ (Qq hy),r,_,_,rfl,rfl,hr3,hlt,fin _ ?_⟩
    unfold Zcb
    rw[if_neg e0,QC,QC,Qb hprev,hy]
    rfl
 ·rintro σ H2 ⟨⟨v1,v2,rfl⟩,hr2,s2,hi⟩
  rw[Qa]at hr2
  exact⟨_,rfl,q r H2 hr0 hr2 s2⟩
def ZD:List Nat→List Nat→Int
 | [],[]=>0
 | [],_::_ =>-1
 | _::_,[]=>1
 | a::r,b::s=>if a=b then ZD r s else if a<b then -1 else 1
theorem Zf7:∀ (x y:List Nat),Spec.ltCps y x=false→ZD x y≤0
 | [],[],_=>by unfold ZD;omega
 | [],_::_,_=>by unfold ZD;omega
 | _::_,[],h=>by unfold Spec.ltCps at h;cases h
 | a::r,b::s,h=>by
  have ih:=Zf7 r s
  unfold Spec.ltCps at h
  unfold ZD
  rw[Bool.or_eq_false_iff,Bool.and_eq_false_iff]at h
  obtain⟨h1,h2⟩:=h
  have h1':¬ b<a:=of_decide_eq_false h1
  by_cases e:a=b
  ·rw[if_pos e]
   rcases h2 with z|z
   ·rw[e]at z;simp at z
   ·exact ih z
  ·rw[if_neg e,if_pos (by omega)]
   omega
theorem ZcL:∀ (x y z:List Nat),ZD x y≤0→ZD y z≤0→ZD x z≤0
 | [],_,[],_,_=>by unfold ZD;omega
 | [],_,_::_,_,_=>by unfold ZD;omega
 | _::_,[],_,h,_=>by unfold ZD at h;omega
 | _::_,_::_,[],_,h=>by unfold ZD at h;omega
 | a::r,b::s,c::t,h1,h2=>by
  unfold ZD at h1 h2 ⊢
  have ih:=ZcL r s t
  by_cases e1:a=b
  ·rw[if_pos e1]at h1
   by_cases e2:b=c
   ·rw[if_pos e2]at h2
    rw[if_pos (e1.trans e2)]
    exact ih h1 h2
   ·rw[if_neg e2]at h2
    rw[if_neg (fun e=>e2 (e1.symm.trans e))]
    split at h2
    ·rw[if_pos (by omega)];omega
    ·omega
  ·rw[if_neg e1]at h1
   split at h1
   ·by_cases e2:b=c
    ·rw[if_neg (fun e=>e1 (e.trans e2.symm)),if_pos (by omega)];omega
    ·rw[if_neg e2]at h2
     split at h2
     ·rw[if_neg (by omega),if_pos (by omega)];omega
     ·omega
   ·omega
theorem Zgm:∀ (ss:List Str) (p:Str),risingS p ss=true→∀ (k:Nat) (x y:Str),(p::ss)[k]? = some x→ss[k]? = some y→ZD (cds x) (cds y)≤0
 | [],p,_,k,x,y,_,h=>by simp at h
 | z::r,p,h,0,x,y,h1,h2=>by
  unfold risingS at h
  rw[Q2]at h
  simp at h1 h2
  subst h1 h2
  exact Zf7 _ _ (by simpa using h.1)
 | z::r,p,h,k+1,x,y,h1,h2=>by
  unfold risingS at h
  rw[Q2]at h
  exact Zgm r z h.2 k x y (by simpa using h1) (by simpa using h2)
theorem Zf6{ss:List Str}(h:sortedS ss=true)(k:Nat)(x y:Str)(h1:ss[k]? = some x)(h2:ss[k+1]? = some y):ZD (cds x) (cds y)≤0:=by
 cases ss with
 | nil=>simp at h1
 | cons p r=>exact Zgm r p h k x y h1 (by simpa using h2)
theorem Zjm{ss:List Str}{k:Nat}(h:k<ss.length):atI (ss.map V.str) (k:Int)=some (.str ss[k]):=Zay (by rw[Qv,Qb h]<;>rfl)
def lawInv(H:Hp)(a p:Addr)(j:Nat)(σ:L2.St)(H4:Hp):Prop:=∃ (u1 u3 u4 u5 u6 u7 u8 u9:Option V) (c:Int),σ=[some (.ref a),u1,some (.ref p),u3,u4,u5,u6,u7,u8,u9]∧Zz H H4∧Zap H4 p c∧c≤700*j
theorem Zap.same{H H':Hp}{p:Addr}{c:Int}(h:Zap H p c)(s:Zz H H'):Zap H' p c:=by obtain⟨b1,b2,hb,c0⟩:=h;exact⟨b1,b2,s _ _ hb,c0⟩
def mid(ns:List Int):Nat:=(ns.length+1) / 2
def ZdD(ns:List Int):List Int:=ns.take (mid ns)
def ZfT(ns:List Int):List Int:=ns.drop (mid ns)
theorem Znb(ns:List Int):((((ns.map V.int).length:Nat):Int)+1) / 2=((mid ns:Nat):Int):=by
 rw[Qa];unfold mid;omega
theorem Zi1{ns:List Int}{k:Int}(h0:0≤k)(h:k<(ns.length:Int)):∃v∈ns,atI (ns.map V.int) k=some (.int v):=by
 have hk:k.toNat<ns.length:=by omega
 have ek:k=((k.toNat:Nat):Int):=by omega
 have q:atI (ns.map V.int) ((k.toNat:Nat):Int)=some (.int ns[k.toNat]):=Zay (by rw[Qv,Qb hk]<;>rfl)
 rw[← ek]at q
 exact⟨_,QS hk,q⟩
theorem Zop(ns:List Int)(m:Nat)(h:m≤ns.length):ZgH (ns.map V.int) none (some (m:Int))=(ns.take m).map V.int:=by
 unfold ZgH
 have e:HT.sIx (ns.map V.int).length (ns.map V.int).length (some (m:Int))=m:=by
  unfold HT.sIx
  simp only[List.length_map]
  rw[if_neg (by omega)]
  omega
 have e0:HT.sIx (ns.map V.int).length 0 none=0:=rfl
 rw[e,e0,List.drop_zero,Nat.sub_zero,List.map_take]
theorem ZlR(ns:List Int)(m:Nat)(h:m≤ns.length):ZgH (ns.map V.int) (some (m:Int)) none=(ns.drop m).map V.int:=by
 unfold ZgH
 have e:HT.sIx (ns.map V.int).length 0 (some (m:Int))=m:=by
  unfold HT.sIx
  simp only[List.length_map]
  rw[if_neg (by omega)]
  omega
 have e0:HT.sIx (ns.map V.int).length (ns.map V.int).length none=(ns.map V.int).length:=rfl
 rw[e,e0,List.map_drop,Qx (by rw[QU,Qa];omega)]
theorem Zja(z:Str):(cds z).length=z.length:=by simp[Str.length]
theorem Zjg:∀ (x y:List Nat),(lcp x y=x.length→lcp x y=y.length→ZD x y=0)∧(lcp x y=x.length→lcp x y≠y.length→ZD x y = -1)∧(lcp x y≠x.length→lcp x y=y.length→ZD x y=1) ∧
  ∀a b,x[lcp x y]? = some a→y[lcp x y]? = some b→ZD x y=if a<b then -1 else 1
 | [],[]=>⟨fun _ _=>rfl,fun _ h=>absurd rfl h,fun h _=>absurd rfl h,fun a b h _=>by simp at h⟩
 | [],_::_=>⟨fun _ h=>by unfold lcp at h;simp at h,fun _ _=>rfl,fun h _=>absurd rfl h,fun a b h _=>by simp at h⟩
 | _::_,[]=>⟨fun h _=>by unfold lcp at h;simp at h,fun h _=>by unfold lcp at h;simp at h,fun _ _=>rfl,fun a b _ h=>by simp at h⟩
 | a::r,b::s=>by
  obtain⟨h1,h2,h3,h4⟩:=Zjg r s
  unfold lcp ZD
  by_cases e:a=b
  ·rw[if_pos e,if_pos e]
   simp only[List.length_cons,List.getElem?_cons_succ]
   exact⟨fun p q=>h1 (by omega) (by omega),fun p q=>h2 (by omega) (by omega),fun p q=>h3 (by omega) (by omega),h4⟩
  ·rw[if_neg e,if_neg e]
   simp only[List.length_cons,List.getElem?_cons_zero]
   refine⟨fun p=>by omega,fun p=>by omega,fun _ p=>by omega,fun c d p q=>?_⟩
   cases p;cases q
   rfl
theorem Za3:∀ (x y:List Nat),ZD y x =-ZD x y
 | [],[]=>rfl
 | [],_::_=>rfl
 | _::_,[]=>rfl
 | a::r,b::s=>by
  have ih:=Za3 r s
  unfold ZD
  by_cases e:a=b
  ·rw[if_pos e,if_pos e.symm,ih]
  ·rw[if_neg e,if_neg fun z=>e z.symm]
   by_cases l:a<b
   ·rw[if_pos l,if_neg (by omega)];rfl
   ·rw[if_neg l,if_pos (by omega)]
theorem ZnX(a b:Nat):decide ((⟨#[a]⟩:Str).cps.toList<(⟨#[b]⟩:Str).cps.toList)=decide (a<b):=by
 have e:([a]:List Nat)<[b]↔a<b:=by
  constructor
  ·intro h
   cases h with
   | rel h=>exact h
   | cons h=>cases h
  ·exact fun h=>List.Lex.rel h
 exact decide_eq_decide.mpr e
theorem Zdz:∀x:List Nat,ZD x x=0
 | []=>rfl
 | a::r=>by unfold ZD;rw[if_pos rfl];exact Zdz r
theorem ZeM:∀ (x y:List Nat),ZD x y=0→x=y
 | [],[],_=>rfl
 | [],_::_,h=>by unfold ZD at h;omega
 | _::_,[],h=>by unfold ZD at h;omega
 | a::r,b::s,h=>by
  unfold ZD at h
  by_cases e:a=b
  ·rw[if_pos e]at h
   rw[e,ZeM r s h]
  ·rw[if_neg e]at h
   split at h<;>omega
def ZgO:Sp:=fun vs H Q _=>∃x y:Str,vs=[.str x,.str y]∧x.length≤1000∧y.length≤1000∧Q (.int (ZD (cds x) (cds y))) H
def ZeY:Sp:=fun vs H Q _=>∃x y:Str,vs=[.str x,.str y,.int (lcp (cds x) (cds y):Nat)]∧x.length≤1000∧y.length≤1000∧Q (.int (ZD (cds x) (cds y))) H
theorem Zl0(T:Zao K mg cRow cMerge):Df P w K mg base 1 "order_at" ["one", "other", "at"] ZeY:=by
 refine T.t_order_at.df Zhr (fun vs H Q E h=>?_) (fun cdv f A outer s H vs Q E hr h=>?_)
 ·obtain⟨x,y,rfl,_⟩:=h
  rfl
 obtain⟨x,y,rfl,hx,hy,q⟩:=h
 refine⟨_,#[Zd,#[Zac,(@PW.pt _ _ _ #[Zca,#[Zk,Zbh,‹2›,#[Zu,ZaK,T.b.n_len,Qw,#[Za,‹0›,#[Zg]]],(Zo _)],#[Zb0,#[Zk,Zbh,‹2›,#[Zu,ZaK,T.b.n_len,Qw,#[Za,‹1›,#[Zg]]],(Zo _)]]]),#[Zi,#[Zq,#[Zh]]],#[ZG]],#[Zd,#[Zac,#[Zk,Zbh,‹2›,#[Zu,ZaK,T.b.n_len,Qw,#[Za,‹0›,#[Zg]]],(Zo _)],#[Zi,#[Zq,(@Zjb _ _ _ _ _ _ ZgN #[Zh])]],#[ZG]],#[Zd,#[Zac,#[Zk,Zbh,‹2›,#[Zu,ZaK,T.b.n_len,Qw,#[Za,‹1›,#[Zg]]],(Zo _)],#[Zi,#[Zq,#[Zh]]],#[ZG]],#[Zi,#[Zq,#[Zbj,#[Zk,Zj1,#[ZF,Zfy,‹0›,‹2›],#[ZF,Zfy,‹1›,‹2›],(Zo _)],(@Zjb _ _ _ _ _ _ ZgN #[Zh]),#[Zh]]]]]]],?_⟩
 obtain⟨o1,o2,o3,o4⟩:=Zjg (cds x) (cds y)
 have ll:=ZdU (cds x) (cds y)
 have lx:=Zja x
 have ly:=Zja y
 have inj:∀ {m n:Nat},V.int (m:Int)=V.int (n:Int)→m=n:=fun {m n} e=>by injection e with e;omega
 refine⟨_,rfl,_,rfl,x,rfl,ZcU hx,rfl,_,rfl,ZbJ (fun d=>?_) (fun d=>?_)⟩
 ·have d1:=inj (of_decide_eq_true d)
  refine⟨_,rfl,_,rfl,y,rfl,ZcU hy,rfl,_,rfl,ZbJ (fun d2=>?_) (fun d2=>?_)⟩
  ·have d2':=inj (of_decide_eq_true d2)
   rw[o1 (by omega) (by omega)]at q
   exact q
  ·have d2':¬ lcp (cds x) (cds y)=y.length:=fun e=>d2 (by rw[e];exact decide_eq_true rfl)
   refine⟨_,rfl,_,rfl,x,rfl,ZcU hx,rfl,_,rfl,Zcm (by rw[d1]) ?_⟩
   rw[o2 (by omega) (by omega)]at q
   exact⟨_,rfl,q⟩
 ·have d1:¬ lcp (cds x) (cds y)=x.length:=fun e=>d (by rw[e];exact decide_eq_true rfl)
  refine Zbb ⟨_,rfl,_,rfl,x,rfl,ZcU hx,rfl,_,rfl,ZbC (fun e=>d1 (inj e)) ?_⟩
  refine⟨_,rfl,_,rfl,y,rfl,ZcU hy,rfl,_,rfl,ZbJ (fun d2=>?_) (fun d2=>?_)⟩
  ·have d2':=inj (of_decide_eq_true d2)
   rw[o3 (by omega) (by omega)]at q
   exact q
  ·have d2':¬ lcp (cds x) (cds y)=y.length:=fun e=>d2 (by rw[e];exact decide_eq_true rfl)
   obtain⟨a,ha,ha'⟩:=Zd5 (z:=x) (k:=(lcp (cds x) (cds y):Nat)) (by omega) (by omega)
   obtain⟨b,hb,hb'⟩:=Zd5 (z:=y) (k:=(lcp (cds x) (cds y):Nat)) (by omega) (by omega)
   rw[Int.toNat_natCast]at ha hb
   refine⟨_,rfl,_,rfl,x,_,a,rfl,rfl,ZcU hx,ha',_,rfl,_,rfl,y,_,b,rfl,rfl,ZcU hy,hb',_,_,rfl,rfl,_,rfl,?_⟩
   rw[ZnX]
   rw[o4 a b ha hb]at q
   refine ZbJ (fun e=>?_) (fun e=>?_)
   ·rw[if_pos (of_decide_eq_true e)]at q
    exact⟨_,rfl,q⟩
   ·rw[if_neg (fun z=>e (decide_eq_true z))]at q
    exact q
theorem Zlb(T:Zao K mg cRow cMerge)(f_alike:Df P w K mg base 2 "alike" ["one", "other"] Zej)(f_order_at:Df P w K mg base 1 "order_at" ["one", "other", "at"] ZeY):Df P w K mg base 3 "liken" ["one", "other"] ZgO:=by
 refine T.t_liken.df ZlJ (fun vs H Q E h=>?_) (fun cdv f A outer s H vs Q E hr h=>?_)
 ·obtain⟨x,y,rfl,_⟩:=h
  rfl
 obtain⟨x,y,rfl,hx,hy,q⟩:=h
 refine⟨_,#[Zi,#[Zq,#[ZC,f_order_at,hr,#[Za,‹0›,#[Za,‹1›,#[Za,#[ZC,f_alike,hr,#[Za,‹0›,#[Za,‹1›,#[Zg]]],(by rfl)],#[Zg]]]],(by rfl)]]],?_⟩
 exact⟨_,rfl,_,rfl,_,rfl,_,rfl,x,y,rfl,hx,hy,x,y,rfl,hx,hy,q⟩
theorem Zed{c A B:Prop}[Decidable c](hc:¬ c)(h:A):if (!decide c)=true then A else B:=by
 rw[if_pos (by rw[decide_eq_false hc];rfl)]
 exact h
def Zb2:Sp:=fun vs H Q _=>∃ (x y:Str) (far:Nat),vs=[.str x,.str y,.int far]∧x.length≤1000∧y.length≤1000∧far≤lcp (cds x) (cds y) ∧
 ∀t,H t=none→Q (.ref t) (upd H t (.tup [.int (ZD (cds x) (cds y)),.int (lcp (cds x) (cds y):Nat),.int ((lcp (cds x) (cds y):Nat)-(far:Int)+1)]))
theorem ZfN(T:Zao K mg cRow cMerge)(f_alike_from:Df P w K mg base 1 "alike_from" ["one", "other", "far"] Zb1)(f_order_at:Df P w K mg base 1 "order_at" ["one", "other", "at"] ZeY):Df P w K mg base 2 "liken_from" ["one", "other", "far"] Zb2:=by
 refine T.t_liken_from.df ZdE (fun vs H Q E h=>?_) (fun cdv f A outer s H vs Q E hr h=>?_)
 ·obtain⟨x,y,far,rfl,_⟩:=h
  rfl
 obtain⟨x,y,far,rfl,hx,hy,hf,q⟩:=h
 refine⟨_,#[Zd,#[Zx,3,ZdE.nd,(Or.inl rfl),#[ZC,f_alike_from,hr,#[Za,‹0›,#[Za,‹1›,#[Za,‹2›,#[Zg]]]],(by rfl)]],#[Zi,#[Zq,#[Zbf,#[Za,#[ZC,f_order_at,hr,#[Za,‹0›,#[Za,‹1›,#[Za,‹3›,#[Zg]]]],(by rfl)],#[Za,‹3›,#[Za,#[Z8,Zbl,#[Z8,Zfz,‹3›,‹2›],#[Zh]],#[Zg]]]]]]]],?_⟩
 refine⟨_,rfl,_,rfl,_,rfl,x,y,far,rfl,hx,hy,hf,?_⟩
 refine⟨_,rfl,_,rfl,_,rfl,x,y,rfl,hx,hy,?_⟩
 refine⟨_,rfl,_,rfl,_,rfl,_,_,rfl,rfl,_,_,rfl,rfl,(by show 3≤sizeLine;decide),fun t ht=>?_⟩
 exact q t ht
def Zg8(ss:List Str)(v:V):Prop :=
 (v=.non∧∀i x y,ss[i+1]? = some x→ss[i]? = some y→0≤ZD (cds x) (cds y)) ∨
 ∃k:Nat,v=.int ((k+1:Nat):Int)∧k+1<ss.length∧(∀x y,ss[k+1]? = some x→ss[k]? = some y→ZD (cds x) (cds y)<0)∧∀i,i<k→∀x y,ss[i+1]? = some x→ss[i]? = some y→0≤ZD (cds x) (cds y)
theorem Znu{ss:List Str}{v v':V}(h:Zg8 ss v)(h':Zg8 ss v'):v=v':=by
 rcases h with⟨rfl,a⟩|⟨k,rfl,l,b,c⟩
 ·rcases h' with⟨rfl,_⟩|⟨k',rfl,l',b',_⟩
  ·rfl
  ·have:=a k' _ _ (Qb l') (Qb (by omega))
   have:=b' _ _ (Qb l') (Qb (by omega))
   omega
 ·rcases h' with⟨rfl,a⟩|⟨k',rfl,l',b',c'⟩
  ·have:=a k _ _ (Qb l) (Qb (by omega))
   have:=b _ _ (Qb l) (Qb (by omega))
   omega
  ·have e:k=k':=by
    rcases Nat.lt_trichotomy k k' with h|h|h
    ·have:=c' k h _ _ (Qb l) (Qb (by omega))
     have:=b _ _ (Qb l) (Qb (by omega))
     omega
    ·exact h
    ·have:=c k' h _ _ (Qb l') (Qb (by omega))
     have:=b' _ _ (Qb l') (Qb (by omega))
     omega
   rw[e]
def Zk2(K:PySem.W.Frag):Sp:=fun vs H Q _=>∃ (a:Addr) (ss:List Str),vs=[.ref a]∧SqL K H a (ss.map V.str)∧ss.length≤200∧(∀s∈ss,s.length≤1000)∧∀ (v:V) (H':Hp),Zg8 ss v→Zz H H'→Q v H'
theorem Zk4(T:Zao K mg cRow cMerge)(f_liken:Df P w K mg base 3 "liken" ["one", "other"] ZgO):Df P w K mg base 4 "first_break" ["keys"] (Zk2 K):=by
 refine T.t_first_break.df Zdc (fun vs H Q E h=>?_) (fun cdv f A outer s H vs Q E hr h=>?_)
 ·obtain⟨a,ss,rfl,_⟩:=h
  rfl
 obtain⟨a,ss,rfl,hS,hn,hlen,q⟩:=h
 refine⟨_,#[Zd,#[Zdf,PassesOwn.never,(@ZjR _ _ _ _ _ _ _ rfl T.b.n_range #[Za,#[Zh],#[Za,#[Zu,(ZdO K),T.b.n_len,Qw,#[Za,‹0›,#[Zg]]],#[Zg]]] (by rfl) (by rfl)),#[ZJ,1,Zdc.nd],#[Zi,#[Zac,#[Zk,Zef,#[ZC,f_liken,hr,#[Za,#[ZF,(ixL K),‹0›,‹1›],#[Za,#[ZF,(ixL K),‹0›,#[Z8,Zfz,‹1›,#[Zh]]],#[Zg]]],(by rfl)],#[Zh],(Zo _)],#[Zi,#[Zq,‹1›]],#[ZG]]]],#[Zi,#[Zq,#[ZS]]]],?_⟩
 have hl:(((ss.map V.str).length:Nat):Int)=(ss.length:Int):=by rw[Qa]
 refine⟨_,rfl,a,_,rfl,.inl hS,_,_,rfl,⟨by omega,by omega,by omega,by omega⟩,?_⟩
 refine ZeH (fun i σ H2=>(∃v:Option V,σ=[some (.ref a),v])∧Zz H H2∧∀j,j<i→∀x y,ss[j+1]? = some x→ss[j]? = some y→0≤ZD (cds x) (cds y)) ⟨⟨none,rfl⟩,Zz.refl H,fun j h=>by omega⟩ ?_ ?_
 ·rintro i σ H2 hi ⟨⟨v,rfl⟩,s2,h2⟩
  have hi1:i+1<ss.length:=by omega
  have e1:(1+(i:Int))=((i+1:Nat):Int):=by omega
  have e0:(1+(i:Int)-1)=((i:Nat):Int):=by omega
  refine⟨_,rfl,_,rfl,a,_,_,_,rfl,rfl,s2.seq hS,(by rw[e1];exact Zjm hi1),_,rfl,_,rfl,_,_,rfl,rfl,a,_,_,_,rfl,rfl,s2.seq hS,(by rw[e0];exact Zjm (by omega)),ss[i+1],ss[i],rfl,hlen _ (QS hi1),hlen _ (QS (by omega)),_,_,rfl,rfl,_,rfl,?_⟩
  refine ZbJ (fun d=>?_) (fun d=>?_)
  ·have d':ZD (cds ss[i+1]) (cds ss[i])<0:=of_decide_eq_true d
   refine⟨_,rfl,q _ H2 (.inr ⟨i,by rw[e1],hi1,fun x y h1 h0=>?_,h2⟩) s2⟩
   rw[Qb hi1]at h1
   rw[Qb (by omega)]at h0
   cases h1;cases h0
   omega
  ·have d':¬ ZD (cds ss[i+1]) (cds ss[i])<0:=fun z=>d (decide_eq_true z)
   refine⟨⟨_,rfl⟩,s2,fun j hj x y h1 h0=>?_⟩
   by_cases ej:j=i
   ·subst ej
    rw[Qb hi1]at h1
    rw[Qb (by omega)]at h0
    cases h1;cases h0
    omega
   ·exact h2 j (by omega) x y h1 h0
 ·rintro σ H2 ⟨⟨v,rfl⟩,s2,h2⟩
  refine q _ H2 (.inl ⟨rfl,fun j x y h1 h0=>?_⟩) s2
  have:=(Qc.mp h1).1
  exact h2 j (by omega) x y h1 h0
def Zd1(K:PySem.W.Frag)(tup:Bool):Sp:=fun vs H Q _=>∃ (a:Addr) (ns:List Int),vs=[.ref a]∧SqL K H a (ns.map V.int)∧ns.length≤100 ∧
 ∀ (t f r:Addr) (H':Hp),H t=none→H f=none→H r=none→f≠r→H' t=some (if tup=true then .tup [.ref f,.ref r] else .lst [.ref f,.ref r])→H' f=some (.lst ((ZdD ns).map V.int))→H' r=some (.lst ((ZfT ns).map V.int))→Zz H H'→t≠f→t≠r→Q (.ref t) H'
theorem ZkW{H:Hp}{f r t:Addr}{A B T:HO}(hf:H f=none)(hr:(upd H f A) r=none)(ht:(upd (upd H f A) r B) t=none) :
  H r=none∧H t=none∧f≠r∧t≠f∧t≠r∧(upd (upd (upd H f A) r B) t T) f=some A∧(upd (upd (upd H f A) r B) t T) r=some B∧Zz H (upd (upd (upd H f A) r B) t T):=by
 have n1:f≠r:=Zb (H:=upd H f A) (o:=A) Zf hr
 have e1:(upd (upd H f A) r B) f=some A:=by rw[Zc n1];exact Zf
 have n2:f≠t:=Zb e1 ht
 have n3:r≠t:=Zb (H:=upd (upd H f A) r B) (o:=B) Zf ht
 have s1:Zz H (upd H f A):=Zl hf _
 have s2:=s1.trans (Zl hr B)
 have s3:=s2.trans (Zl ht T)
 exact⟨s1.free hr,s2.free ht,n1,n2.symm,n3.symm,by rw[Zc n2];exact e1,by rw[Zc n3];exact Zf,s3⟩
theorem Zkh(T:Zao K mg cRow cMerge):Df P w K mg base 1 "halves" ["numbers"] (Zd1 K true):=by
 refine T.t_halves.df Zgi (fun vs H Q E h=>?_) (fun cdv f A outer s H vs Q E hr h=>?_)
 ·obtain⟨a,ns,rfl,_⟩:=h
  rfl
 obtain⟨a,ns,rfl,hS,hn,q⟩:=h
 refine⟨_,#[Zd,#[Zx,1,Zgi.nd,(Or.inl rfl),#[Z8,Zg3,#[Z8,Zbl,#[Zu,(ZdO K),T.b.n_len,Qw,#[Za,‹0›,#[Zg]]],#[Zh]],#[Zh]]],#[Zi,#[Zq,#[Zbf,#[Za,(@ZhC _ _ _ _ _ _ _ _ _ _ (slL K) ‹0› (@ZjA _) (@Zje _ _ _ ‹1›)),#[Za,(@ZhC _ _ _ _ _ _ _ _ _ _ (slL K) ‹0› (@Zje _ _ _ ‹1›) (@ZjA _)),#[Zg]]]]]]],?_⟩
 refine⟨_,rfl,a,_,rfl,.inl hS,_,_,rfl,rfl,_,_,rfl,rfl,⟨by decide,by decide⟩,?_⟩
 have hm:mid ns≤ns.length∨ns=[]:=by
  cases ns with
  | nil=>exact .inr rfl
  | cons x r=>left;unfold mid;rw[Qu];omega
 have hml:mid ns≤ns.length:=by
  rcases hm with h|h
  ·exact h
  ·subst h;decide
 have em:=Znb ns
 simp only[em]
 refine⟨_,rfl,_,rfl,_,rfl,a,_,rfl,hS,fun l hl=>?_⟩
 refine⟨_,rfl,_,rfl,_,rfl,a,_,rfl,(Zl hl _).seq hS,fun r hr0=>⟨(by show 2≤sizeLine;decide),fun t ht=>?_⟩⟩
 rw[Zop ns _ hml]at hr0 ht ⊢
 rw[ZlR ns _ hml]at ht ⊢
 obtain⟨z1,z2,z3,z4,z5,z6,z7,z8⟩:=ZkW (T:=.tup [.ref l,.ref r]) hl hr0 ht
 exact q t l r _ z2 hl z1 z3 Zf z6 z7 z8 z4 z5
def Zih:Sp:=fun vs H Q _=>∃ (p:Addr) (c:Int),vs=[.ref p]∧Zap H p c∧c<2 ^ 50∧∀ (v c':Int) (H':Hp),0≤v→v≤12→Zap H' p c'→c≤c'→c'≤c+3→But p H H'→Q (.int v) H'
theorem Zne(T:Zao K mg cRow cMerge)(f_l_pick:Df P w K mg base 2 "_law_pick" ["_law_left_here", "_law_many_here"] ZdV):Df P w K mg base 3 "_law_many" ["_law_left_here"] Zih:=by
 refine T.t_l_many.df Zf4 (fun vs H Q E h=>?_) (fun cdv f A outer s H vs Q E hr h=>?_)
 ·obtain⟨p,c,rfl,_⟩:=h
  rfl
 obtain⟨p,c,rfl,hL,c1,q⟩:=h
 refine⟨_,#[Zd,#[Zx,1,Zf4.nd,(Or.inl rfl),#[ZC,f_l_pick,hr,#[Za,‹0›,#[Za,#[Zh],#[Zg]]],(by rfl)]],#[Zi,#[Zq,#[ZF,(ixL K),#[ZbU,#[Za,#[Zh],#[Za,#[Zh],#[Za,#[Zh],#[Za,#[Zh],#[Za,#[Zh],#[Za,#[Zh],#[Za,#[ZC,f_l_pick,hr,#[Za,‹0›,#[Za,#[Zh],#[Zg]]],(by rfl)],#[Za,#[Z8,Zbl,#[Zh],#[ZC,f_l_pick,hr,#[Za,‹0›,#[Za,#[Zh],#[Zg]]],(by rfl)]],#[Zg]]]]]]]]]],‹1›]]]],?_⟩
 have c0:=hL.ge
 refine⟨_,rfl,p,c,_,rfl,hL,by omega,by decide,by decide,fun wy H1 w0 w1 L1 B1=>?_⟩
 refine⟨_,rfl,p,c+1,_,rfl,L1,by omega,by decide,by decide,fun d1 H2 d10 d11 L2 B2=>?_⟩
 refine⟨_,rfl,p,c+1+1,_,rfl,L2,by omega,by decide,by decide,fun d2 H3 d20 d21 L3 B3=>⟨_,_,rfl,rfl,(by show 8≤sizeLine;decide),fun e he=>?_⟩⟩
 obtain⟨v,hv,hat⟩:=Zi1 (ns:=[2,3,4,5,6,3,d1,7+d2]) w0 w1
 have hv1:0≤v∧v≤12:=by
  simp only[List.mem_cons,List.not_mem_nil,or_false]at hv
  omega
 exact⟨_,rfl,e,_,_,_,rfl,rfl,SqL.of Zf,hat,q v _ _ hv1.1 hv1.2 (L3.new he) (by omega) (by omega) (((B1.trans B2).trans B3).trans (But.same (Zl he _)))⟩
theorem ZbB(f:Str)(v:V):∀fs:List (Str×V),(Zn f v fs).length≤fs.length+1
 | []=>Qg _
 | p::r=>by
  unfold Zn
  split
  ·exact Q8 _
  ·exact Nat.succ_le_succ (ZbB f v r)
def ZbX(k f:Addr)(g:Int):List (Str×V):=Zn "gone" (.int g) (Zn "fars" (.ref f) (Zn "all_keys" (.ref k) []))
theorem nGF:¬ (("fars" : Str) = "gone"):=by ac_rfl
theorem nGK:¬ (("all_keys" : Str) = "gone"):=by ac_rfl
theorem nFK:¬ (("all_keys" : Str) = "fars"):=by ac_rfl
theorem Zes(k f:Addr)(g:Int):(ZbX k f g).lookup ("all_keys" : Str)=some (.ref k):=by
 unfold ZbX
 rw[Zj,if_neg nGK,Zj,if_neg nFK,Zj,if_pos rfl]
theorem Zcc(k f:Addr)(g:Int):(ZbX k f g).lookup ("gone" : Str)=some (.int g):=by
 unfold ZbX
 rw[Zj,if_pos rfl]
theorem ZeX(k f:Addr)(g:Int){m:Str}(h1:¬ m = "gone")(h2:¬ m = "fars")(h3:¬ m = "all_keys"):(ZbX k f g).lookup m=none:=by
 unfold ZbX
 rw[Zj,if_neg h1,Zj,if_neg h2,Zj,if_neg h3]
 rfl
structure Zgq (C:Addr) (H:Hp) (p k f:Addr) (ss:List Str) (g:Nat):Prop where
 ob:∃dx,H p=some (.ins C dx (ZbX k f g))
 ks:H k=some (.lst (ss.map V.str))
 fs:H f=some (.lst ((List.range ss.length).map fun j=>.int (Zcb ss j)))
def ZgT(C:Addr):Sp:=fun vs H Q _=>∃ (p k f:Addr) (ss:List Str) (g:Nat),vs=[.ref p]∧Zgq C H p k f ss g∧Q (.int ((ss.length:Int)-(g:Int))) H
theorem Zns(T:Zao K mg cRow cMerge):Mf P w K mg base 1 cRow "to_go" ["self"] (ZgT cRow):=by
 refine T.t_Row_to_go.mf ZgM (fun vs H Q E h=>?_) (fun cdv f A outer s H vs Q E hr h=>?_)
 ·obtain⟨p,k,f,ss,g,rfl,_⟩:=h
  rfl
 obtain⟨p,k,f,ss,g,rfl,R,q⟩:=h
 refine⟨_,#[Zi,#[Zq,#[Z8,Zfz,#[Zu,(ZdO K),T.b.n_len,Qw,#[Za,#[ZN,‹0›],#[Zg]]],#[ZN,‹0›]]]],?_⟩
 obtain⟨⟨dx,ho⟩,hk,hf⟩:=R
 refine⟨_,rfl,p,cRow,dx,_,_,rfl,ho,T.cl_Row,T.na_Row_all_keys,Zes _ _ _,k,_,rfl,.inl (SqL.of hk),_,rfl,p,cRow,dx,_,_,rfl,ho,T.cl_Row,T.na_Row_gone,Zcc _ _ _,_,_,rfl,rfl,?_⟩
 rw[Qa]
 exact q
def Zd2(ss:List Str)(g:Nat):V:=match ss[g]? with
 | some z=>.str z
 | none=>.non
def ZeD(C:Addr):Sp:=fun vs H Q _=>∃ (p k f:Addr) (ss:List Str) (g:Nat),vs=[.ref p]∧Zgq C H p k f ss g∧Q (Zd2 ss g) H
theorem ZmC(T:Zao K mg cRow cMerge)(f_Row_to_go:Mf P w K mg base 1 cRow "to_go" ["self"] (ZgT cRow)):Mf P w K mg base 2 cRow "head" ["self"] (ZeD cRow):=by
 refine T.t_Row_head.mf Zh8 (fun vs H Q E h=>?_) (fun cdv f A outer s H vs Q E hr h=>?_)
 ·obtain⟨p,k,f,ss,g,rfl,_⟩:=h
  rfl
 obtain⟨p,k,f,ss,g,rfl,R,q⟩:=h
 refine⟨_,#[Zi,#[Zq,#[Zbj,#[Zk,Zgk,#[ZaA,f_Row_to_go,T.cl_Row,hr,‹0›],#[Zh],(Zo _)],#[ZF,(ixL K),#[ZN,‹0›],#[ZN,‹0›]],#[ZS]]]],?_⟩
 obtain⟨⟨dx,ho⟩,hk,hf⟩:=id R
 refine⟨_,rfl,p,dx,_,rfl,ho,ZeX _ _ _ (by ac_rfl) (by ac_rfl) (by ac_rfl),p,k,f,ss,g,rfl,R,_,_,rfl,rfl,_,rfl,?_⟩
 refine ZbJ (fun d=>?_) (fun d=>?_)
 ·have d':(0:Int)<(ss.length:Int)-(g:Int):=of_decide_eq_true d
  have hg:g<ss.length:=by omega
  refine⟨_,rfl,p,cRow,dx,_,_,rfl,ho,T.cl_Row,T.na_Row_all_keys,Zes _ _ _,_,rfl,p,cRow,dx,_,_,rfl,ho,T.cl_Row,T.na_Row_gone,Zcc _ _ _,k,_,_,_,rfl,rfl,SqL.of hk,Zay (by rw[Qv,Qb hg]<;>rfl),?_⟩
  unfold Zd2 at q
  rw[Qb hg]at q
  exact q
 ·have d':¬ (0:Int)<(ss.length:Int)-(g:Int):=fun z=>d (decide_eq_true z)
  unfold Zd2 at q
  rw[Qab (by omega)]at q
  exact q
def Zey(C:Addr):Sp:=fun vs H Q _=>∃ (p dx a:Addr) (ss:List Str),vs=[.ref p,.ref a]∧H p=some (.ins C dx [])∧H a=some (.lst (ss.map V.str))∧ss.length≤100∧(∀s∈ss,s.length≤1000) ∧
 ∀ (k f:Addr) (H':Hp),H k=none→H f=none→k≠f→Zgq C H' p k f ss 0→(∀b o,H b=some o→b≠p→H' b=some o)→Q .non H'
theorem Zig(T:Zao K mg cRow cMerge)(f_alikes:Df P w K mg base 3 "alikes" ["row"] (ZfI K)):Cf P w K mg base 4 cRow "Row" ["self", "keys"] (Zey cRow):=by
 refine T.t_Row_init.cf ZhN (fun vs H Q E h=>?_) (fun cdv f A outer s H vs Q E hr h=>?_)
 ·obtain⟨p,dx,a,ss,rfl,_⟩:=h
  rfl
 obtain⟨p,dx,a,ss,rfl,hp,ha,hn,hz,q⟩:=h
 refine⟨_,#[Zd,#[ZbD,‹0›,#[ZcG,(ZpX K),T.b.n_list,boot_list,#[Za,‹1›,#[Zg]]]],#[Zd,#[ZbD,‹0›,#[ZC,f_alikes,hr,#[Za,‹1›,#[Zg]],(by rfl)]],#[Zi,#[ZbD,‹0›,#[Zh]]]]],?_⟩
 refine⟨_,rfl,a,_,rfl,.inl (SqL.of ha),fun k hk=>?_⟩
 have npk:p≠k:=Zb hp hk
 have nap:a≠p:=fun e=>by rw[e,hp]at ha;cases ha
 have nak:a≠k:=Zb ha hk
 refine⟨_,rfl,p,cRow,dx,[],rfl,(by rw[Zc npk];exact hp),T.cl_Row,T.na_Row_all_keys,(by show 0<1000;decide),?_⟩
 have ha2:(upd (upd H k (.lst (ss.map V.str))) p (.ins cRow dx (Zn "all_keys" (.ref k) []))) a=some (.lst (ss.map V.str)):=by rw[Zc nap,Zc nak];exact ha
 have hp2:(upd (upd H k (.lst (ss.map V.str))) p (.ins cRow dx (Zn "all_keys" (.ref k) []))) p=some (.ins cRow dx (Zn "all_keys" (.ref k) [])):=Zf
 have hk2:(upd (upd H k (.lst (ss.map V.str))) p (.ins cRow dx (Zn "all_keys" (.ref k) []))) k=some (.lst (ss.map V.str)):=by rw[Zc npk.symm];exact Zf
 have s2:∀b o,H b=some o→b≠p→(upd (upd H k (.lst (ss.map V.str))) p (.ins cRow dx (Zn "all_keys" (.ref k) []))) b=some o:=fun b o h n=>by rw[Zc n,Zc (Zb h hk)];exact h
 refine⟨_,rfl,a,ss,rfl,SqL.of ha2,hn,hz,fun f H3 hf0 hf3 s3=>?_⟩
 have hHf:H f=none:=by
  cases w':H f with
  | none=>rfl
  | some u =>
   by_cases e:f=p
   ·rw[e,hp2]at hf0;cases hf0
   ·rw[s2 f u w' e]at hf0;cases hf0
 have nkf:k≠f:=Zb hk2 hf0
 have npf:p≠f:=Zb hp2 hf0
 refine⟨_,rfl,p,cRow,dx,_,rfl,s3 _ _ hp2,T.cl_Row,T.na_Row_fars,(by show 1<1000;decide),?_⟩
 refine⟨_,rfl,p,cRow,dx,_,rfl,Zf,T.cl_Row,T.na_Row_gone,?_,?_⟩
 ·have h1:=ZbB "all_keys" (V.ref k) []
  have h2:=ZbB "fars" (V.ref f) (Zn "all_keys" (V.ref k) [])
  have h3:([]:List (Str×V)).length=0:=rfl
  omega
 ·refine q k f _ hk hHf nkf ⟨⟨dx,Zf⟩,?_,?_⟩ fun b o h n=>?_
  ·rw[Zc npk.symm,Zc npk.symm];exact s3 _ _ hk2
  ·rw[Zc npf.symm,Zc npf.symm];exact hf3
  ·rw[Zc n,Zc n];exact s3 _ _ (s2 b o h n)
theorem ZcP{K:PySem.W.Frag}{a:Addr}{xs:List V}{k:Nat}{D:Addr}{σ:L2.St}{H1:Hp}{g:TG}{tc:TT}{te:TE}{Q:VK}(Pv:Nat→List V→L2.St→Hp→Prop)(h0:Pv 0 [] (σ++List.replicate k none) (upd H1 D (.lst [])))
  (hl:∀i ys σ H,Pv i ys σ H→SqL K H a xs)
  (hs:∀i x ys σ H,xs[i]? = some x→Pv i ys σ H→g x σ H fun σ4 H4=>tc σ4 H4 fun b H5=>if b=true then te σ4 H5 fun y H6=>H6 D=some (.lst ys)∧ys.length<sizeLine∧Pv (i+1) (ys++[y]) σ4 (upd H6 D (.lst (ys++[y]))) else Pv (i+1) ys σ4 H5)
  (hd:∀ys σ H,Pv xs.length ys σ H→Q (.ref D) H):Zet (Itl K a) D k σ H1 g tc te Q:=by
 refine⟨fun i m ys σ H=>m=xs.length-i∧i≤xs.length∧Pv i ys σ H,⟨xs.length,by simp,Qn _,h0⟩,?_⟩
 rintro i m ys σ H ⟨rfl,hi,p⟩
 have q1:=hl i ys σ H p
 by_cases hlt:i<xs.length
 ·refine .inr ⟨⟨xs,xs[i],q1,Qb hlt⟩,Pv (i+1),fun ys' σ' H' p'=>⟨xs.length-(i+1),by omega,rfl,hlt,p'⟩,fun x H' y=>?_⟩
  obtain⟨rfl,e⟩:=y
  exact hs i x ys σ _ (e xs q1) p
 ·have e:i=xs.length:=by omega
  exact .inl ⟨⟨xs,q1,by omega⟩,hd ys σ H (e ▸ p)⟩
theorem ZjN{K:PySem.W.Frag}{a:Addr}{xs:List V}{k:Nat}{D:Addr}{σ:L2.St}{H1:Hp}{g:TG}{te:TE}{Q:VK}(Pv:Nat→List V→L2.St→Hp→Prop)(h0:Pv 0 [] (σ++List.replicate k none) (upd H1 D (.lst [])))
  (hl:∀i ys σ H,Pv i ys σ H→SqL K H a xs)
  (hs:∀i x ys σ H,xs[i]? = some x→Pv i ys σ H→g x σ H fun σ4 H4=>te σ4 H4 fun y H6=>H6 D=some (.lst ys)∧ys.length<sizeLine∧Pv (i+1) (ys++[y]) σ4 (upd H6 D (.lst (ys++[y]))))
  (hd:∀ys σ H,Pv xs.length ys σ H→Q (.ref D) H):Zet (Itl K a) D k σ H1 g Zix te Q:=by
 refine⟨fun i m ys σ H=>m=xs.length-i∧i≤xs.length∧Pv i ys σ H,⟨xs.length,by simp,Qn _,h0⟩,?_⟩
 rintro i m ys σ H ⟨rfl,hi,p⟩
 have q1:=hl i ys σ H p
 by_cases hlt:i<xs.length
 ·refine .inr ⟨⟨xs,xs[i],q1,Qb hlt⟩,Pv (i+1),fun ys' σ' H' p'=>⟨xs.length-(i+1),by omega,rfl,hlt,p'⟩,fun x H' y=>?_⟩
  obtain⟨rfl,e⟩:=y
  simp only[Zix,↓reduceIte]
  exact hs i x ys σ _ (e xs q1) p
 ·have e:i=xs.length:=by omega
  exact .inl ⟨⟨xs,q1,by omega⟩,hd ys σ H (e ▸ p)⟩
theorem Zk5:∀x y:List Nat,x<y↔ZD x y<0
 | [],[]=>by unfold ZD;exact⟨fun h=>absurd h (by simp),fun h=>absurd h (by omega)⟩
 | [],_::_=>by unfold ZD;exact⟨fun _=>by omega,fun _=>List.nil_lt_cons _ _⟩
 | _::_,[]=>by unfold ZD;exact⟨fun h=>absurd h (List.not_lt_nil _),fun h=>absurd h (by omega)⟩
 | a::r,b::s=>by
  have ih:=Zk5 r s
  unfold ZD
  rw[List.cons_lt_cons_iff]
  by_cases e:a=b
  ·rw[if_pos e,← ih]
   exact⟨fun h=>h.elim (fun z=>by omega) (fun z=>z.2),fun h=>.inr ⟨e,h⟩⟩
  ·rw[if_neg e]
   by_cases l:a<b
   ·rw[if_pos l];exact⟨fun _=>by omega,fun _=>.inl l⟩
   ·rw[if_neg l];exact⟨fun h=>h.elim (fun z=>absurd z l) (fun z=>absurd z.1 e),fun h=>absurd h (by omega)⟩
theorem AtT.mono{H H':Hp}{ts:Zcx}(h:AtT H ts)(s:Zz H H'):AtT H' ts:=fun x hx=>s _ _ (h x hx)
theorem ZhL{H:Hp}{D:Addr}{ys:List V}(h:H D=some (.lst ys))(o:HO):∀a xs,H a=some (.tup xs)→(upd H D o) a=some (.tup xs):=fun a xs e=>by
 have nb:a≠D:=by intro z;rw[z,h]at e;cases e
 rw[Zc nb];exact e
abbrev Hd:=Int→Option (List Nat)
def Btr(x:List Nat)(a:Int)(y:List Nat)(b:Int):Prop:=ZD x y<0∨(ZD x y=0∧a<b)
def Win(hd:Hd)(N:List Int):Option Int→Prop
 | none=>∀n∈N,hd n=none
 | some a=>a∈N∧∃x,hd a=some x∧∀b∈N,∀y,hd b=some y→b=a∨Btr x a y b
theorem Btr.asym{x y:List Nat}{a b:Int}(h:Btr x a y b)(g:Btr y b x a):False:=by
 have e:=Za3 x y
 rcases h with h|⟨h,h2⟩<;>rcases g with g|⟨g,g2⟩<;>omega
theorem Btr.total{x y:List Nat}{a b:Int}(h:a≠b):Btr x a y b∨Btr y b x a:=by
 have e:=Za3 x y
 unfold Btr
 omega
theorem Btr.trans{x y z:List Nat}{a b c:Int}(h:Btr x a y b)(g:Btr y b z c):Btr x a z c:=by
 have t1:=ZcL x y z
 have t2:=ZcL z x y
 have t3:=ZcL y z x
 have e1:=Za3 x y
 have e2:=Za3 y z
 have e3:=Za3 x z
 unfold Btr at *
 omega
theorem Win.one{hd:Hd}{N:List Int}{v w:Option Int}(h:Win hd N v)(g:Win hd N w):v=w:=by
 cases v with
 | none =>
  cases w with
  | none=>rfl
  | some b=>obtain⟨hb,y,hy,_⟩:=g;rw[h b hb]at hy;cases hy
 | some a =>
  obtain⟨ha,x,hx,h2⟩:=h
  cases w with
  | none=>rw[g a ha]at hx;cases hx
  | some b =>
   obtain⟨hb,y,hy,g2⟩:=g
   rcases h2 b hb y hy with e|e
   ·rw[e]
   ·rcases g2 a ha x hx with e'|e'
    ·rw[e']
    ·exact(e.asym e').elim
theorem Win.nil(hd:Hd):Win hd [] none:=fun n h=>by cases h
theorem Win.sing{hd:Hd}{n:Int}:Win hd [n] (if (hd n).isSome then some n else none):=by
 cases h:hd n with
 | none=>intro m hm;rw[Ql.mp hm];exact h
 | some x=>exact⟨by simp,x,h,fun b hb y hy=>.inl (Ql.mp hb)⟩
theorem Win.both{hd:Hd}{A B:List Int}{a b:Int}{x y:List Nat}(ha:Win hd A (some a))(hb:Win hd B (some b))(hx:hd a=some x)(hy:hd b=some y)(h:Btr x a y b):Win hd (A++B) (some a):=by
 obtain⟨a1,x',hx',a2⟩:=ha
 obtain⟨b1,y',hy',b2⟩:=hb
 rw[hx]at hx';cases hx'
 rw[hy]at hy';cases hy'
 refine⟨QL _ a1,x,hx,fun c hc z hz=>?_⟩
 rcases Qk.mp hc with hc|hc
 ·exact a2 c hc z hz
 ·rcases b2 c hc z hz with e|e
  ·subst e;rw[hy]at hz;cases hz;exact .inr h
  ·exact .inr (h.trans e)
theorem Win.both'{hd:Hd}{A B:List Int}{a b:Int}{x y:List Nat}(ha:Win hd A (some a))(hb:Win hd B (some b))(hx:hd a=some x)(hy:hd b=some y)(h:Btr y b x a):Win hd (A++B) (some b):=by
 have:=Win.both hb ha hy hx h
 obtain⟨h1,z,h2,h3⟩:=this
 exact⟨by rcases Qk.mp h1 with h|h<;>simp[h],z,h2,fun c hc=>h3 c (by rcases Qk.mp hc with h|h<;>simp[h])⟩
theorem Win.left{hd:Hd}{A B:List Int}{w:Option Int}(ha:Win hd A w)(hb:Win hd B none):Win hd (A++B) w:=by
 cases w with
 | none=>intro n hn;rcases Qk.mp hn with h|h;exact ha n h;exact hb n h
 | some a =>
  obtain⟨a1,x,hx,a2⟩:=ha
  refine⟨QL _ a1,x,hx,fun c hc z hz=>?_⟩
  rcases Qk.mp hc with hc|hc
  ·exact a2 c hc z hz
  ·rw[hb c hc]at hz;cases hz
theorem Win.right{hd:Hd}{A B:List Int}{w:Option Int}(ha:Win hd A none)(hb:Win hd B w):Win hd (A++B) w:=by
 cases w with
 | none=>intro n hn;rcases Qk.mp hn with h|h;exact ha n h;exact hb n h
 | some a =>
  obtain⟨a1,x,hx,a2⟩:=hb
  refine⟨Qr _ a1,x,hx,fun c hc z hz=>?_⟩
  rcases Qk.mp hc with hc|hc
  ·rw[ha c hc]at hz;cases hz
  ·exact a2 c hc z hz
theorem Win.ex(hd:Hd):∀N:List Int,N.Nodup→∃w,Win hd N w
 | [],_=>⟨none,Win.nil hd⟩
 | n::N,hn=>by
  obtain⟨n1,n2⟩:=QK.mp hn
  obtain⟨w,hw⟩:=Win.ex hd N n2
  have hs:Win hd [n] (if (hd n).isSome then some n else none):=Win.sing
  cases h:hd n with
  | none =>
   rw[h]at hs
   exact⟨w,Win.right (A:=[n]) hs hw⟩
  | some x =>
   rw[h]at hs
   cases w with
   | none=>exact⟨some n,Win.left (A:=[n]) hs hw⟩
   | some b =>
    obtain⟨b1,y,hy,b2⟩:=id hw
    have hne:n≠b:=fun e=>n1 (e ▸ b1)
    rcases Btr.total (x:=x) (y:=y) hne with e|e
    ·exact⟨some n,Win.both (A:=[n]) hs hw h hy e⟩
    ·exact⟨some b,Win.both' (A:=[n]) hs hw h hy e⟩
theorem Win.congr{hd hd':Hd}{N:List Int}(h:∀n∈N,hd' n=hd n){w:Option Int}(hw:Win hd N w):Win hd' N w:=by
 cases w with
 | none=>intro n hn;rw[h n hn];exact hw n hn
 | some a =>
  obtain⟨a1,x,hx,a2⟩:=hw
  exact⟨a1,x,by rw[h a a1];exact hx,fun b hb y hy=>a2 b hb y (by rw[← h b hb];exact hy)⟩
def lo(N:List Int):List Int:=N.take (mid N)
def up(N:List Int):List Int:=N.drop (mid N)
theorem ZbS(N:List Int):lo N++up N=N:=List.take_append_drop _ _
theorem Zda{N:List Int}(h:2≤N.length):(lo N).length<N.length∧1≤(lo N).length:=by
 unfold lo mid
 rw[Qy]
 omega
theorem ZdQ{N:List Int}(h:2≤N.length):(up N).length<N.length∧1≤(up N).length:=by
 unfold up mid
 rw[QU]
 omega
def ZL(N:List Int):Int×Int:=(N.headD 0,N.getLastD 0)
abbrev StL:=List ((Int×Int)×Option (Addr×Int×Int))
def stV:Option (Addr×Int×Int)→V
 | none=>.non
 | some t=>.ref t.1
def kvS(s:StL):List (List Key×V):=s.map fun e=>([.inl e.1.1,.inl e.1.2],stV e.2)
def AtS(H:Hp)(s:StL):Prop:=∀e∈s,∀t,e.2=some t→H t.1=some (.tup [.int t.2.1,.int t.2.2])
def ZP(s:StL)(k:Int×Int):Option (Option (Addr×Int×Int)):=(s.find? fun e=>decide (e.1=k)).map (·.2)
def Zcs(s:StL)(k:Int×Int)(v:Option (Addr×Int×Int)):StL:=if s.any (fun e=>decide (e.1=k)) then s.map (fun e=>if e.1=k then (e.1,v) else e) else s++[(k,v)]
theorem AtS.mono{H H':Hp}{s:StL}(h:AtS H s)(k:∀a xs,H a=some (.tup xs)→H' a=some (.tup xs)):AtS H' s:=fun e he t ht=>k _ _ (h e he t ht)
theorem ZiO{a b:Int×Int}(h:([.inl a.1,.inl a.2]:List Key)=[.inl b.1,.inl b.2]):a=b:=by
 obtain⟨a1,a2⟩:=a
 obtain⟨b1,b2⟩:=b
 injection h with h1 h2
 injection h2 with h2 _
 have e1:=Sum.inl.inj h1
 have e2:=Sum.inl.inj h2
 simp only at e1 e2
 rw[e1,e2]
theorem Zhi(k:Int×Int):∀s:StL,Z6 (kvS s) [.inl k.1,.inl k.2]=(ZP s k).map stV
 | []=>rfl
 | e::s=>by
  have ih:=Zhi k s
  by_cases h:e.1=k
  ·unfold kvS ZP
   rw[Qe,Zcn (by rw[h])]
   simp[List.find?_cons,h]
  ·unfold kvS at ih ⊢
   rw[Qe,Zcl (fun z=>h (ZiO z)),ih]
   unfold ZP
   simp[List.find?_cons,h]
theorem Zm2(k:Int×Int)(s:StL):((kvS s).any fun kv=>decide (kv.1=([.inl k.1,.inl k.2]:List Key)))=s.any fun e=>decide (e.1=k):=by
 unfold kvS
 rw[List.any_map]
 congr 1
 funext e
 simp only[Function.comp]
 by_cases h:e.1=k
 ·rw[decide_eq_true h,decide_eq_true (by rw[h])]
 ·rw[decide_eq_false h,decide_eq_false (fun z=>h (ZiO z))]
theorem Ze0(s:StL)(k:Int×Int)(v:Option (Addr×Int×Int)):Za1 (kvS s) [.inl k.1,.inl k.2] (stV v)=kvS (Zcs s k v):=by
 unfold Za1 Zcs
 rw[Zm2]
 split
 ·unfold kvS
  rw[Qt,Qt]
  congr 1
  funext e
  simp only[Function.comp]
  by_cases h:e.1=k
  ·rw[if_pos h,if_pos (by rw[h])]
  ·rw[if_neg h,if_neg (fun z=>h (ZiO z))]
 ·unfold kvS;rw[Qh];rfl
theorem Zk7(s:StL)(k:Int×Int)(v:Option (Addr×Int×Int)):(Zcs s k v).length≤s.length+1:=by
 unfold Zcs
 split
 ·rw[Qa];omega
 ·rw[Qs];exact Qg _
theorem ZaO(s:StL)(k j:Int×Int)(v:Option (Addr×Int×Int)):ZP (Zcs s k v) j=if j=k then some v else ZP s j:=by
 unfold Zcs
 split
 ·rename_i h
  induction s with
  | nil=>simp at h
  | cons e s ih =>
   unfold ZP at ih ⊢
   by_cases hek:e.1=k
   ·by_cases hj:j=k
    ·subst hj;simp[List.find?_cons,hek]
    ·have hj':¬ k=j:=fun z=>hj z.symm
     rw[Qe,if_pos hek,Q9 (by simp[hek,hj']),Q9 (by simp[hek,hj']),if_neg hj]
     by_cases ha:s.any (fun e=>decide (e.1=k))=true
     ·have:=ih ha;rw[if_neg hj]at this;exact this
     ·have:s.map (fun e=>if e.1=k then (e.1,v) else e)=s:=by
       rw[List.map_eq_iff]
       intro i
       cases hi:s[i]? with
       | none=>rfl
       | some x =>
        have hx:¬ x.1=k:=fun z=>ha (QaB.mpr ⟨x,Qq hi,by simpa using z⟩)
        simp[hx]
      rw[this]
   ·have ha:s.any (fun e=>decide (e.1=k))=true:=by simpa [hek] using h
    rw[Qe,if_neg hek]
    by_cases hj:e.1=j
    ·have:¬ j=k:=fun z=>hek (hj.trans z)
     rw[List.find?_cons_of_pos (by simpa using hj),List.find?_cons_of_pos (by simpa using hj),if_neg this]
    ·rw[Q9 (by simpa using hj),Q9 (by simpa using hj)]
     exact ih ha
 ·rename_i h
  unfold ZP
  rw[List.find?_append]
  by_cases hj:j=k
  ·subst hj
   have:s.find? (fun e=>decide (e.1=j))=none:=by
    rw[List.find?_eq_none]
    intro x hx z
    exact h (QaB.mpr ⟨x,hx,z⟩)
   rw[this];simp
  ·have hj':¬ k=j:=fun z=>hj z.symm
   rw[if_neg hj]
   simp[hj']
theorem AtS.put{H:Hp}{s:StL}{k:Int×Int}{v:Option (Addr×Int×Int)}(h:AtS H s)(hv:∀t,v=some t→H t.1=some (.tup [.int t.2.1,.int t.2.2])):AtS H (Zcs s k v):=by
 unfold Zcs
 split
 ·intro e he t ht
  obtain⟨x,hx,rfl⟩:=Qp.mp he
  split at ht
  ·exact hv t ht
  ·exact h x hx t ht
 ·intro e he t ht
  rcases Qk.mp he with he|he
  ·exact h e he t ht
  ·rw[Ql.mp he]at ht;exact hv t ht
theorem Zgp{s:StL}{k:Int×Int}{v:Option (Addr×Int×Int)}(h:ZP s k=some v):(k,v)∈s:=by
 unfold ZP at h
 obtain⟨e,he,rfl⟩:=Qav.mp h
 have h1:=List.find?_some he
 have:e.1=k:=by simpa using h1
 rw[← this];exact List.mem_of_find?_eq_some he
def ZqF(hd:Hd)(s:StL)(N:List Int):Prop :=
 (∀a b x y,Win hd (lo N) (some a)→Win hd (up N) (some b)→hd a=some x→hd b=some y→∃t,ZP s (ZL N)=some (some (t,if ZD x y<0∨(ZD x y=0∧a<b) then b else a,((lcp x y:Nat):Int)))) ∧
 ((Win hd (lo N) none∨Win hd (up N) none)→ZP s (ZL N)=none∨ZP s (ZL N)=some none)
def ZcY(hd:Hd)(s:StL):Nat→List Int→Prop
 | 0,_=>True
 | n+1,N=>2≤N.length→ZcY hd s n (lo N)∧ZcY hd s n (up N)∧ZqF hd s N
def Zee:Nat→List Int→Int×Int→Prop
 | 0,_,_=>False
 | n+1,N,k=>2≤N.length∧(Zee n (lo N) k∨Zee n (up N) k∨k=ZL N)
abbrev Z9(N:List Int):Prop:=N.Pairwise (·<·)
theorem Zdt{N:List Int}(h:Z9 N):Z9 (lo N):=h.sublist (List.take_sublist _ _)
theorem Zdq{N:List Int}(h:Z9 N):Z9 (up N):=h.sublist (List.drop_sublist _ _)
theorem Zdy{N:List Int}(h:Z9 N):N.Nodup:=h.imp fun {a b} hab e=>by omega
theorem ZH{N:List Int}(h:Z9 N){a b:Int}(ha:a∈lo N)(hb:b∈up N):a<b:=by
 have:Z9 (lo N++up N):=by rw[ZbS];exact h
 exact(List.pairwise_append.mp this).2.2 a ha b hb
theorem ZbN{N:List Int}(h:N≠[]):N.headD 0∈N:=by
 cases N with
 | nil=>exact absurd rfl h
 | cons a r=>simp
theorem ZbL{N:List Int}(h:N≠[]):N.getLastD 0∈N:=by
 rw[Q4,Qal h]
 exact List.getLast_mem h
theorem Z3{N:List Int}(h:1≤N.length):N≠[]:=fun z=>by rw[z]at h;simp at h
theorem Zer{N:List Int}(h:2≤N.length):(ZL N).2=(up N).getLastD 0:=by
 have hu:=Z3 (ZdQ h).2
 show N.getLastD 0=_
 rw[Q4,Q4]
 conv=>lhs;rw[← ZbS N]
 rw[List.getLast?_append,Qal hu];rfl
theorem ZeL{N:List Int}(h:2≤N.length):(ZL N).1=(lo N).headD 0:=by
 have hl:=Z3 (Zda h).2
 show N.headD 0=_
 conv=>lhs;rw[← ZbS N]
 cases hc:lo N with
 | nil=>exact absurd hc hl
 | cons a r=>rfl
theorem ZdA:∀ (n:Nat) (N:List Int) (k:Int×Int),Zee n N k→k.1∈N∧k.2∈N
 | 0,_,_,h=>h.elim
 | n+1,N,k,⟨h2,h⟩=>by
  rcases h with h|h|rfl
  ·have:=ZdA n _ k h
   rw[← ZbS N]
   exact⟨QL _ this.1,QL _ this.2⟩
  ·have:=ZdA n _ k h
   rw[← ZbS N]
   exact⟨Qr _ this.1,Qr _ this.2⟩
  ·have hn:N≠[]:=Z3 (by omega)
   exact⟨ZbN hn,ZbL hn⟩
theorem Zg2{N:List Int}(hr:Z9 N)(h2:2≤N.length){n:Nat}{k:Int×Int}(h:Zee n (lo N) k):k≠ZL N∧∀m,¬ Zee m (up N) k:=by
 have:=ZdA n _ k h
 refine⟨fun z=>?_,fun m hm=>?_⟩
 ·have h1:=Zer h2
  rw[z,h1]at this
  have:=ZH hr this.2 (ZbL (Z3 (ZdQ h2).2))
  omega
 ·have:=ZH hr this.1 (ZdA m _ k hm).1
  omega
theorem ZgJ{N:List Int}(hr:Z9 N)(h2:2≤N.length){n:Nat}{k:Int×Int}(h:Zee n (up N) k):k≠ZL N∧∀m,¬ Zee m (lo N) k:=by
 have:=ZdA n _ k h
 refine⟨fun z=>?_,fun m hm=>?_⟩
 ·have h1:=ZeL h2
  rw[z,h1]at this
  have:=ZH hr (ZbN (Z3 (Zda h2).2)) this.1
  omega
 ·have:=ZH hr (ZdA m _ k hm).1 this.1
  omega
theorem ZcY.congr{hd hd':Hd}{s s':StL}:∀ (n:Nat) (N:List Int),(∀m∈N,hd' m=hd m)→(∀k,Zee n N k→ZP s' k=ZP s k)→ZcY hd s n N→ZcY hd' s' n N
 | 0,_,_,_,_=>True.intro
 | n+1,N,hh,hk,h=>fun h2=>by
  obtain⟨a,b,c1,c2⟩:=h h2
  have hl:∀m∈lo N,hd' m=hd m:=fun m hm=>hh m (by rw[← ZbS N];exact QL _ hm)
  have hu:∀m∈up N,hd' m=hd m:=fun m hm=>hh m (by rw[← ZbS N];exact Qr _ hm)
  have hl':∀m∈lo N,hd m=hd' m:=fun m hm=>(hl m hm).symm
  have hu':∀m∈up N,hd m=hd' m:=fun m hm=>(hu m hm).symm
  refine⟨ZcY.congr n _ hl (fun k hkk=>hk k ⟨h2,.inl hkk⟩) a,ZcY.congr n _ hu (fun k hkk=>hk k ⟨h2,.inr (.inl hkk)⟩) b,fun a b x y ha hb hx hy=>?_,fun hw=>?_⟩
  ·rw[hk _ ⟨h2,.inr (.inr rfl)⟩]
   exact c1 a b x y (Win.congr hl' ha) (Win.congr hu' hb) (by rw[← hl a ha.1];exact hx) (by rw[← hu b hb.1];exact hy)
  ·rw[hk _ ⟨h2,.inr (.inr rfl)⟩]
   refine c2 ?_
   rcases hw with hw|hw
   ·exact .inl (Win.congr hl' hw)
   ·exact .inr (Win.congr hu' hw)
inductive Zc1 (hd:Hd):Nat→List Int→Int→Int→Prop
 | few {n:Nat} {N:List Int}:N.length<2→Zc1 hd n N 0 0
 | none {n:Nat} {N:List Int} {k l k' l':Int}:2≤N.length→Zc1 hd n (lo N) k l→Zc1 hd n (up N) k' l'→(Win hd (lo N) none∨Win hd (up N) none)→Zc1 hd (n+1) N (k+k') (l+l')
 | both {n:Nat} {N:List Int} {k l k' l':Int} {a b:Int} {x y:List Nat}:2≤N.length→Zc1 hd n (lo N) k l→Zc1 hd n (up N) k' l'→Win hd (lo N) (some a)→Win hd (up N) (some b)→hd a=some x→hd b=some y→Zc1 hd (n+1) N (k+k'+1) (l+l'+(lcp x y:Nat)+1)
def kk(e:Str×Int):List Key:=[.inr e.1,.inl e.2]
def oV:Option Str→V
 | none=>.non
 | some s=>.str s
def Zbq:Option Int→V
 | none=>.non
 | some a=>.int a
def kvH(E:List (Int×Option Str)):List (Key×V):=E.map fun e=>(.inl e.1,oV e.2)
def lk(E:List (Int×Option Str))(n:Int):Option Str:=(E.find? fun e=>decide (e.1=n)).bind (·.2)
def hdE(E:List (Int×Option Str)):Hd:=fun n=>(lk E n).map cds
def prs(E:List (Int×Option Str))(N:List Int):List (Str×Int):=N.filterMap fun n=>(lk E n).map fun s=>(s,n)
def Zqn:Key→PyData
 | .inl i=>.int i
 | .inr s=>.str s
def tD(k:List Key):PyData:=.tuple (k.map Zqn)
structure Hds (H:Hp) (D:Addr) (E:List (Int×Option Str)):Prop where
 at':H D=some (.dK (kvH E))
 nd:(E.map (·.1)).Nodup
 ok:∀e∈E,∀s,e.2=some s→s.length≤1000∧AZ s
def spLeast(K:PySem.W.Frag):Sp:=fun vs H Q _=>∃ (D l:Addr) (E:List (Int×Option Str)) (N:List Int),vs=[.ref D,.ref l]∧Hds H D E∧SqL K H l (N.map V.int)∧N.length≤60∧(∀n∈N,n∈E.map (·.1)) ∧
 ∀ (v:Option Int) (H':Hp),Win (hdE E) N v→Zz H H'→Q (Zbq v) H'
theorem Zoo(N:List Int):ZdD N=lo N:=rfl
theorem Zob(N:List Int):ZfT N=up N:=rfl
def spFP(K:PySem.W.Frag)(n:Nat):Sp:=fun vs H Q _=>∃ (D l:Addr) (E:List (Int×Option Str)) (N:List Int),vs=[.ref D,.ref l]∧Hds H D E∧SqL K H l (N.map V.int)∧N.length≤60∧0<n∧N.length≤2 ^ (n-1)∧(∀m∈N,m∈E.map (·.1)) ∧
 ∀ (t:Addr) (k q:Int) (H':Hp),Zc1 (hdE E) n N k q→H t=none→H' t=some (.tup [.int k,.int q])→Zz H H'→Q (.ref t) H'
abbrev ZaQ:=Int×Addr×List Str×Nat
def kvR(L:List ZaQ):List (Key×V):=L.map fun e=>(.inl e.1,.ref e.2.1)
def kvG(L:List ZaQ):List (Key×V):=L.map fun e=>(.inl e.1,.int (e.2.2.2:Int))
def ZqA(ra ga:Addr)(nb li lo:Int):List (Key×V):=[(.inr "rows",.ref ra),(.inr "gone",.ref ga),(.inr "number",.int nb),(.inr "likenings",.int li),(.inr "looks",.int lo)]
structure Own (H:Hp) (o ra ga:Addr) (L:List ZaQ) (nb li lo:Int):Prop where
 at':H o=some (.dK (ZqA ra ga nb li lo))
 rows:H ra=some (.dK (kvR L))
 gone:H ga=some (.dK (kvG L))
 nd:(L.map (·.1)).Nodup
 few:L.length≤60
 lst:∀e∈L,H e.2.1=some (.lst (e.2.2.1.map V.str))∧e.2.2.1.length≤100∧e.2.2.2≤e.2.2.1.length∧∀s∈e.2.2.1,s.length≤1000∧AZ s
theorem Zid{ns:List Int}(h:ns.Nodup):(ns.map (Sum.inl:Int→Key)).Nodup:=List.Pairwise.map _ (fun a b hab z=>hab (Sum.inl.inj z)) h
theorem Za7.k'{H:Hp}{a:Addr}{kvs:List (Key×V)}{k:Key}{r:Option V}(e:H a=some (.dK kvs))(h:Z6 kvs k=r):Za7 H a (kV k) r:=by rw[← h];exact Za7.k e
structure Zqd (L:List ZaQ) (E:List (Int×Option Str)):Prop where
 per:(E.map (·.1)).Perm (L.map (·.1))
 up:(E.map (·.1)).Pairwise (·<·)
 hd:∀e∈L,(e.1,e.2.2.1[e.2.2.2]?)∈E
def spHeads:Sp:=fun vs H Q _=>∃ (o ra ga:Addr) (L:List ZaQ) (nb li lo:Int),vs=[.ref o]∧Own H o ra ga L nb li lo ∧
 ∀ (D:Addr) (E:List (Int×Option Str)) (H':Hp),H D=none→Hds H' D E→Zqd L E→Zz H H'→Q (.ref D) H'
def hdL(L:List ZaQ):Hd:=fun n=>((L.find? fun e=>decide (e.1=n)).bind fun e=>e.2.2.1[e.2.2.2]?).map cds
theorem ZiE:∀ {L:List ZaQ},(L.map (·.1)).Nodup→∀ {e:ZaQ},e∈L→hdL L e.1=(e.2.2.1[e.2.2.2]?).map cds
 | [],_,_,h=>by cases h
 | x::r,nd,e,h=>by
  rw[Qe,QK]at nd
  unfold hdL
  rw[Qam]
  rcases QG.mp h with rfl|h
  ·rw[decide_eq_true rfl];rfl
  ·rw[decide_eq_false (fun z:x.1=e.1=>nd.1 (by rw[z];exact Qf (f:=fun x:ZaQ=>x.1) h))]
   exact ZiE nd.2 h
theorem Win.perm{hd:Hd}{N M:List Int}{v:Option Int}(h:Win hd N v)(p:N.Perm M):Win hd M v:=by
 cases v with
 | none=>exact fun n hn=>h n (p.mem_iff.mpr hn)
 | some a=>obtain⟨ha,x,hx,hb⟩:=h;exact⟨p.mem_iff.mp ha,x,hx,fun b hbm=>hb b (p.mem_iff.mpr hbm)⟩
def ZnP(L:List ZaQ)(H:Hp)(x:V):Prop:=(x=.non∧Win (hdL L) (L.map (·.1)) none)∨∃ (t:Addr) (e:ZaQ) (z:Str),x=.ref t∧e∈L∧e.2.2.1[e.2.2.2]? = some z∧H t=some (.tup [.int e.1,.int (e.2.2.2:Int),.str z])∧Win (hdL L) (L.map (·.1)) (some e.1)
def spLCom:Sp:=fun vs H Q _=>∃ (o ra ga:Addr) (L:List ZaQ) (nb li lo:Int),vs=[.ref o]∧Own H o ra ga L nb li lo∧∀ (x:V) (H':Hp),ZnP L H' x→Zz H H'→Q x H'
def spLPlay:Sp:=fun vs H Q _=>∃ (o ra ga:Addr) (L:List ZaQ) (nb li lo:Int),vs=[.ref o]∧Own H o ra ga L nb li lo∧(L.map (·.1)).Pairwise (·<·)∧(∀e∈L,e.2.1≠o) ∧
 ∀ (k q':Int) (H':Hp),Zc1 (hdL L) 8 (L.map (·.1)) k q'→Own H' o ra ga L nb (li+k) (lo+q')→But o H H'→Q .non H'
def Zdh(L:List ZaQ):List Int:=L.map fun e=>(e.2.2.1.length:Int)-(e.2.2.2:Int)
def spLLeft:Sp:=fun vs H Q _=>∃ (o ra ga:Addr) (L:List ZaQ) (nb li lo:Int),vs=[.ref o]∧Own H o ra ga L nb li lo∧∀H':Hp,Zz H H'→Q (.int (Zdh L).sum) H'
structure Zeo (H:Hp) (r:Addr) (rs:List (Addr×List Str)):Prop where
 at':H r=some (.lst (rs.map fun x=>V.ref x.1))
 few:rs.length≤60
 lst:∀x∈rs,H x.1=some (.lst (x.2.map V.str))∧x.2.length≤100∧∀s∈x.2,s.length≤1000∧AZ s
theorem Zeo.same{H H':Hp}{r:Addr}{rs:List (Addr×List Str)}(h:Zeo H r rs)(s:Zz H H'):Zeo H' r rs:=⟨s _ _ h.at',h.few,fun x hx=>let ⟨a,b⟩:=h.lst x hx;⟨s _ _ a,b⟩⟩
def ZqI(L:List ZaQ)(rs:List (Addr×List Str)):Prop:=L.map (·.1)=Zek 0 rs.length∧L.map (fun e=>e.2.2)=rs.map fun x=>(x.2,0)
theorem Zl3(n:Nat):(Zek 0 n).Pairwise (·<·):=by
 unfold Zek
 exact List.Pairwise.map _ (fun a b h=>by omega) (List.pairwise_lt_range)
def spLWorld:Sp:=fun vs H Q _=>∃ (r:Addr) (rs:List (Addr×List Str)),vs=[.ref r]∧Zeo H r rs ∧
 ∀ (o ra ga:Addr) (L:List ZaQ) (k q':Int) (H':Hp),H o=none→H ra=none→H ga=none→ga≠ra→(∀e∈L,H e.2.1=none∧e.2.1≠o)→ZqI L rs→Own H' o ra ga L (rs.length:Int) k q'→Zc1 (hdL L) 8 (L.map (·.1)) k q'→Zz H H'→Q (.ref o) H'
def Zio:Sp:=fun vs H Q _=>∃ (p l:Addr) (c most:Int) (ss:List Str),vs=[.ref p,.ref l,.int most]∧Zap H p c∧c<2 ^ 40∧0≤most∧most≤60∧H l=some (.lst (ss.map V.str))∧1≤ss.length∧ss.length≤4∧(∀s∈ss,s.length≤24∧AZ s) ∧
 ∀ (r:Addr) (ts:List Str) (c':Int) (H':Hp),H r=none→H' r=some (.lst (ts.map V.str))→(ts.length:Int)≤most→sortedS ts=true→(∀s∈ts,s.length≤28∧AZ s)→Zap H' p c'→c≤c'→c'≤c+600→But p H H'→Q (.ref r) H'
theorem ZmJ(T:Zao K mg cRow cMerge)(f_l_keys:Df P w K mg base 4 "_law_keys" ["_law_left_here", "_law_stems_here", "_law_most"] Zij):Df P w K mg base 5 "_law_row" ["_law_left_here", "_law_stems_here", "_law_most"] Zio:=by
 refine T.t_l_row.df Zl1 (fun vs H Q E h=>?_) (fun cdv f A outer s H vs Q E hr h=>?_)
 ·obtain⟨p,l,c,most,ss,rfl,_⟩:=h
  rfl
 obtain⟨p,l,c,most,ss,rfl,hL,hc,h0,h60,hl,h1,h4,h24,q⟩:=h
 refine⟨_,#[Zi,#[Zq,#[Zu,(Zqx K),T.b.n_sorted,boot_sorted,#[Za,#[ZC,f_l_keys,hr,#[Za,‹0›,#[Za,‹1›,#[Za,‹2›,#[Zg]]]],(by rfl)],#[Zg]]]]],?_⟩
 refine⟨_,rfl,_,rfl,_,rfl,p,l,c,most,ss,rfl,hL,hc,h0,h60,hl,h1,h4,h24,fun r ts c' H1 hr0 hr1 hts h28 L1 a1 a2 B1=>?_⟩
 refine⟨r,ts,rfl,SqL.of hr1,by omega,fun l2 ts' hl2 hper hsrt=>?_⟩
 obtain⟨ob,hob⟩:=hL.here
 have hl20:H l2=none:=by
  cases e:H l2 with
  | none=>rfl
  | some x =>
   by_cases z:l2=p
   ·obtain⟨o1,ho1⟩:=L1.here;rw[z,ho1]at hl2;cases hl2
   ·have:=B1 l2 x e z;rw[this]at hl2;cases hl2
 exact q l2 ts' c' _ hl20 Zf (by rw[hper.length_eq];exact hts) hsrt (fun s hs=>h28 s (hper.mem_iff.mp hs)) (L1.new hl2) a1 a2 (B1.trans (But.same (Zl hl2 _)))
def Zi7:Sp:=fun vs H Q _=>∃ (p:Addr) (c:Int),vs=[.ref p]∧Zap H p c∧c<2 ^ 30 ∧
 ∀ (r:Addr) (rs:List (Addr×List Str)) (c':Int) (H':Hp),H r=none→Zeo H' r rs→(∀x∈rs,H x.1=none∧x.1≠r∧x.1≠p∧sortedS x.2=true∧x.2.length≤20∧∀s∈x.2,s.length≤28)→rs.length≤12→Zap H' p c'→c≤c'→c'≤c+10000→But p H H'→Q (.ref r) H'
theorem ZkC(T:Zao K mg cRow cMerge)(f_l_pick:Df P w K mg base 2 "_law_pick" ["_law_left_here", "_law_many_here"] ZdV)(f_l_stems:Df P w K mg base 3 "_law_stems" ["_law_left_here"] ZgB)(f_l_many:Df P w K mg base 3 "_law_many" ["_law_left_here"] Zih)(f_l_row:Df P w K mg base 5 "_law_row" ["_law_left_here", "_law_stems_here", "_law_most"] Zio):Df P w K mg base 6 "_law_rows" ["_law_left_here"] Zi7:=by
 refine T.t_l_rows.df ZeF (fun vs H Q E h=>?_) (fun cdv f A outer s H vs Q E hr h=>?_)
 ·obtain⟨p,c,rfl,_⟩:=h
  rfl
 obtain⟨p,c,rfl,hL,c1,q⟩:=h
 refine⟨_,#[Zd,#[Zx,1,ZeF.nd,(Or.inr rfl),#[ZC,f_l_stems,hr,#[Za,#[pv,0,(Or.inr (Or.inl rfl))],#[Zg]],(by rfl)]],#[Zd,#[Zx,2,ZeF.nd,(Or.inr rfl),#[ZF,(ixL K),#[ZbU,#[Za,#[Zh],#[Za,#[Zh],#[Za,#[Zh],#[Za,#[Zh],#[Za,#[Zh],#[Za,#[Zh],#[Za,#[Zh],#[Za,#[Zh],#[Zg]]]]]]]]]],#[ZC,f_l_pick,hr,#[Za,#[pv,0,(Or.inr (Or.inl rfl))],#[Za,#[Zh],#[Zg]]],(by rfl)]]],#[Zi,#[Zq,#[ZbH,ZjI,#[Zcu,T.b.n_range,#[Za,#[ZC,f_l_many,hr,#[Za,#[pv,0,(Or.inr (Or.inl rfl))],#[Zg]],(by rfl)],#[Zg]]],(fun _ _ _ _=>#[cg,3,ZjI]),(fun _ _ _ _=>(@ZcH _)),(fun _ _ _ _=>#[ZC,f_l_row,hr,#[Za,#[cv,0,ZjI],#[Za,#[cv,1,ZjI],#[Za,#[cv,2,ZjI],#[Zg]]]],(Zcj ZjI rfl (by ac_rfl))])]]]]],?_⟩
 have c0:=hL.ge
 refine⟨_,rfl,p,c,rfl,hL,by omega,fun l ss c2 H1 hl0 hl1 n1 n4 h24 L1 a1 a2 B1=>?_⟩
 have npl:p≠l:=by obtain⟨o,ho⟩:=hL.here;exact Zb ho hl0
 refine⟨(by show 8≤sizeLine;decide),fun e he=>?_⟩
 have npe:p≠e:=by obtain⟨o,ho⟩:=L1.here;exact Zb ho he
 refine⟨_,rfl,p,c2,_,rfl,L1.new he,by omega,by decide,by decide,fun i H2 i0 i1 L2 B2=>?_⟩
 obtain⟨m,hm,hat⟩:=Zi1 (ns:=[5,5,4,6,3,7,5,20]) i0 i1
 have he2:H2 e=some (.lst (([5,5,4,6,3,7,5,20]:List Int).map V.int)):=B2 e _ Zf npe.symm
 have hm1:0≤m∧m≤20:=by
  simp only[List.mem_cons,List.not_mem_nil,or_false]at hm
  omega
 have hl2:H2 l=some (.lst (ss.map V.str)):=B2 l _ (Zl he _ _ _ hl1) npl.symm
 have B02:But p H H2:=(B1.trans (But.same (Zl he _))).trans B2
 refine⟨e,_,_,_,rfl,rfl,SqL.of he2,hat,?_⟩
 refine⟨_,rfl,p,_,rfl,L2,by omega,fun mn c3 H3 m0 m12 L3 a3 a4 B3=>?_⟩
 have hl3:=B3 l _ hl2 npl.symm
 have B03:=B02.trans B3
 refine⟨_,rfl,by omega,by omega,fun D hD=>?_⟩
 have hD0:H D=none:=by
  cases e':H D with
  | none=>rfl
  | some x =>
   by_cases z:D=p
   ·obtain⟨o1,ho1⟩:=L3.here;rw[z,ho1]at hD;cases hD
   ·have:=B03 D x e' z;rw[this]at hD;cases hD
 have npD:p≠D:=by obtain⟨o,ho⟩:=L3.here;exact Zb ho hD
 have nlD:l≠D:=Zb hl3 hD
 refine ZdR (fun i zs σ H4=>(∃v:Option V,σ=[some (.ref p),some (.ref l),some (.int m),v])∧(∃rs:List (Addr×List Str),zs=rs.map (fun x=>V.ref x.1)∧rs.length=i∧∀x∈rs,H4 x.1=some (.lst (x.2.map V.str))∧H x.1=none∧x.1≠D∧x.1≠p∧sortedS x.2=true∧x.2.length≤20∧∀s∈x.2,s.length≤28∧AZ s)∧H4 D=some (.lst zs)∧(∃c4:Int,Zap H4 p c4∧c3≤c4∧c4≤c3+600*i)∧But p H3 H4) ?_ ?_ ?_
 ·exact⟨⟨none,rfl⟩,⟨[],rfl,rfl,(fun x h=>by cases h)⟩,Zf,⟨c3,L3.new hD,by omega,by omega⟩,But.same (Zl hD _)⟩
 ·rintro i zs σ H4 hi ⟨⟨v,rfl⟩,⟨rs,rfl,hrl,hrs⟩,hD4,⟨c4,L4,b1,b2⟩,B4⟩
  have hi12:i<12:=by omega
  refine⟨_,rfl,_,rfl,_,rfl,p,l,c4,m,ss,rfl,L4,by omega,hm1.1,by omega,B4 l _ hl3 npl.symm,n1,n4,h24,fun r ts c5 H5 hr0 hr5 hts hsrt h28 L5 d1 d2 B5=>?_⟩
  have hD5:=B5 D _ hD4 npD.symm
  have nDr:D≠r:=Zb hD4 hr0
  have npr:p≠r:=by obtain⟨o,ho⟩:=L4.here;exact Zb ho hr0
  have hr00:H r=none:=by
   cases e':H r with
   | none=>rfl
   | some x=>have:=B4 r x (B03 r x e' npr.symm) npr.symm;rw[this]at hr0;cases hr0
  refine⟨hD5,(by rw[Qa];exact ZE (by omega)),⟨_,rfl⟩,⟨rs++[(r,ts)],by rw[Qh];rfl,by rw[Qs,QF];omega,fun x hx=>?_⟩,Zf,⟨c5,L5.at npD,by omega,by omega⟩,fun b x hb nb=>?_⟩
  ·rcases Qk.mp hx with hx|hx
   ·obtain⟨g1,g2,g3,g4,g5⟩:=hrs x hx
    exact⟨by rw[Zc g3];exact B5 _ _ g1 g4,g2,g3,g4,g5⟩
   ·rw[Ql.mp hx]
    exact⟨by rw[Zc nDr.symm];exact hr5,hr00,nDr.symm,npr.symm,hsrt,by show ts.length≤20;omega,h28⟩
  ·rw[Zc (Zb hb hD)];exact B5 b x (B4 b x hb nb) nb
 rintro zs σ H4 ⟨⟨v,rfl⟩,⟨rs,rfl,hrl,hrs⟩,hD4,⟨c4,L4,b1,b2⟩,B4⟩
 refine q D rs c4 H4 hD0 ⟨hD4,by omega,fun x hx=>?_⟩ (fun x hx=>?_) (by omega) L4 (by omega) (by omega) (B03.trans B4)
 ·obtain⟨g1,_,_,_,_,g6,g7⟩:=hrs x hx
  exact⟨g1,by omega,fun s hs=>⟨by have:=(g7 s hs).1;omega,(g7 s hs).2⟩⟩
 ·obtain⟨_,g2,g3,g4,g5,g6,g7⟩:=hrs x hx
  exact⟨g2,g3,g4,g5,g6,fun s hs=>(g7 s hs).1⟩
def Zd6(K:PySem.W.Frag):Sp:=fun vs H Q _=>∃ (n:Int) (a:Addr) (ss:List Str),vs=[.int n,.ref a]∧SqL K H a (ss.map V.str)∧ss.length≤200∧(∀s∈ss,s.length≤1000)∧Zg8 ss .non∧∀H',Zz H H'→Q .non H'
theorem Zkq(T:Zao K mg cRow cMerge)(f_first_break:Df P w K mg base 4 "first_break" ["keys"] (Zk2 K)):Df P w K mg base 5 "refuse_break" ["number", "keys"] (Zd6 K):=by
 refine T.t_refuse_break.df ZcV (fun vs H Q E h=>?_) (fun cdv f A outer s H vs Q E hr h=>?_)
 ·obtain⟨n,a,ss,rfl,_⟩:=h
  rfl
 obtain⟨n,a,ss,rfl,hS,h200,h1000,hnon,q⟩:=h
 refine⟨_,#[Zd,#[Zx,2,ZcV.nd,(Or.inl rfl),#[ZC,f_first_break,hr,#[Za,‹1›,#[Zg]],(by rfl)]],#[Zi,#[Zac,#[Zk,ZcI,‹2›,#[ZS],(Zo _)],#[Zi,(@ZgI _ _)],#[ZG]]]],?_⟩
 refine⟨_,rfl,a,ss,rfl,hS,h200,h1000,fun v H1 hb s1=>?_⟩
 have e:=Znu hb hnon
 subst e
 exact⟨_,rfl,rfl,_,rfl,Zbb (q H1 s1)⟩
structure Zr where
 n:Int
 p:Addr
 k:Addr
 f:Addr
 ss:List Str
 g:Nat
def toL(e:Zr):ZaQ:=(e.n,e.p,e.ss,e.g)
def hdM(L:List Zr):Hd:=hdL (L.map toL)
def Zw(L:List Zr):List Int:=L.map (·.n)
theorem Zby(L:List Zr):(L.map toL).map (·.1)=Zw L:=by rw[Qt];rfl
def kvM(L:List Zr):List (Key×V):=L.map fun e=>(.inl e.n,.ref e.p)
theorem Zb6{L:List Zr}(nd:(Zw L).Nodup){e:Zr}(he:e∈L):hdM L e.n=(e.ss[e.g]?).map cds :=
 ZiE (L:=L.map toL) (by rw[Zby];exact nd) (Qf (f:=toL) he)
theorem ZkO(L:List Zr):(kvM L).map (·.1)=(Zw L).map (Sum.inl:Int→Key):=by unfold kvM Zw;rw[Qt,Qt];rfl
theorem Zdn{L:List Zr}(nd:(Zw L).Nodup){e:Zr}(he:e∈L):Z6 (kvM L) (.inl e.n)=some (.ref e.p):=ZeQ (by rw[ZkO];exact Zid nd) (Qf (f:=fun e:Zr=>((.inl e.n:Key),V.ref e.p)) he)
theorem Zc8{L:List Zr}{n:Int}(h:n∈Zw L):∃e∈L,e.n=n:=Qp.mp h
def mgF(rd:Addr)(nb li lo:Int)(sd:Addr)(best:V):List (Str×V):=[("rows",.ref rd),("next_number",.int nb),("likened",.int li),("looked",.int lo),("stays",.ref sd),("best",best)]
theorem ZoD:¬ (("rows" : Str) = "next_number"):=by ac_rfl
theorem Zom:¬ (("rows" : Str) = "likened"):=by ac_rfl
theorem Zn0:¬ (("rows" : Str) = "looked"):=by ac_rfl
theorem ZoH:¬ (("rows" : Str) = "stays"):=by ac_rfl
theorem ZnT:¬ (("rows" : Str) = "best"):=by ac_rfl
theorem ZnU:¬ (("next_number" : Str) = "likened"):=by ac_rfl
theorem Zoz:¬ (("next_number" : Str) = "looked"):=by ac_rfl
theorem Zog:¬ (("next_number" : Str) = "stays"):=by ac_rfl
theorem Zn6:¬ (("next_number" : Str) = "best"):=by ac_rfl
theorem ZoF:¬ (("likened" : Str) = "looked"):=by ac_rfl
theorem Zn8:¬ (("likened" : Str) = "stays"):=by ac_rfl
theorem Zou:¬ (("likened" : Str) = "best"):=by ac_rfl
theorem ZoC:¬ (("looked" : Str) = "stays"):=by ac_rfl
theorem ZoL:¬ (("looked" : Str) = "best"):=by ac_rfl
theorem ZoB:¬ (("stays" : Str) = "best"):=by ac_rfl
theorem Zcw(f:Str)(v x:V)(r:List (Str×V)):Zn f v ((f,x)::r)=(f,v)::r:=by unfold Zn;rw[if_pos rfl]
theorem Zt{f g:Str}(h:¬ g=f)(v x:V)(r:List (Str×V)):Zn f v ((g,x)::r)=(g,x)::Zn f v r:=by
 show (if g=f then (g,v)::r else (g,x)::Zn f v r)=_
 rw[if_neg h]
theorem Zbe(f:Str)(v:V):Zn f v []=[(f,v)]:=rfl
theorem Zba(rd:Addr)(nb li lo:Int)(sd:Addr)(best:V):mgF rd nb li lo sd best=Zn "best" best (Zn "stays" (.ref sd) (Zn "looked" (.int lo) (Zn "likened" (.int li) (Zn "next_number" (.int nb) (Zn "rows" (.ref rd) []))))):=by
 rw[Zbe,Zt ZoD,Zbe,Zt Zom,Zt ZnU,Zbe,Zt Zn0,Zt Zoz,Zt ZoF,Zbe,Zt ZoH,Zt Zog,Zt Zn8,Zt ZoC,Zbe,Zt ZnT,Zt Zn6,Zt Zou,Zt ZoL,Zt ZoB,Zbe]
 rfl
section
variable (rd:Addr) (nb li lo:Int) (sd:Addr) (best:V)
theorem Zak:(mgF rd nb li lo sd best).lookup ("rows" : Str)=some (.ref rd):=by
 rw[Zba,Zj,if_neg ZnT,Zj,if_neg ZoH,Zj,if_neg Zn0,Zj,if_neg Zom,Zj,if_neg ZoD,Zj,if_pos rfl]
theorem ZfH:(mgF rd nb li lo sd best).lookup ("next_number" : Str)=some (.int nb):=by
 rw[Zba,Zj,if_neg Zn6,Zj,if_neg Zog,Zj,if_neg Zoz,Zj,if_neg ZnU,Zj,if_pos rfl]
theorem ZeN:(mgF rd nb li lo sd best).lookup ("likened" : Str)=some (.int li):=by
 rw[Zba,Zj,if_neg Zou,Zj,if_neg Zn8,Zj,if_neg ZoF,Zj,if_pos rfl]
theorem ZiU:(mgF rd nb li lo sd best).lookup ("looked" : Str)=some (.int lo):=by
 rw[Zba,Zj,if_neg ZoL,Zj,if_neg ZoC,Zj,if_pos rfl]
theorem Zct:(mgF rd nb li lo sd best).lookup ("stays" : Str)=some (.ref sd):=by
 rw[Zba,Zj,if_neg ZoB,Zj,if_pos rfl]
theorem Zd9:(mgF rd nb li lo sd best).lookup ("best" : Str)=some best:=by
 rw[Zba,Zj,if_pos rfl]
theorem Zbo{m:Str}(h1:¬ m = "rows")(h2:¬ m = "next_number")(h3:¬ m = "likened")(h4:¬ m = "looked")(h5:¬ m = "stays")(h6:¬ m = "best"):(mgF rd nb li lo sd best).lookup m=none:=by
 rw[Zba,Zj,if_neg h6,Zj,if_neg h5,Zj,if_neg h4,Zj,if_neg h3,Zj,if_neg h2,Zj,if_neg h1]
 rfl
theorem ZfL(v:Int):Zn "next_number" (.int v) (mgF rd nb li lo sd best)=mgF rd v li lo sd best:=by unfold mgF;rw[Zt ZoD,Zcw]
theorem ZcT(v:Int):Zn "likened" (.int v) (mgF rd nb li lo sd best)=mgF rd nb v lo sd best:=by unfold mgF;rw[Zt Zom,Zt ZnU,Zcw]
theorem Zfq(v:Int):Zn "looked" (.int v) (mgF rd nb li lo sd best)=mgF rd nb li v sd best:=by unfold mgF;rw[Zt Zn0,Zt Zoz,Zt ZoF,Zcw]
theorem ZfU(x:Addr):Zn "stays" (.ref x) (mgF rd nb li lo sd best)=mgF rd nb li lo x best:=by unfold mgF;rw[Zt ZoH,Zt Zog,Zt Zn8,Zt ZoC,Zcw]
theorem ZbG(x:V):Zn "best" x (mgF rd nb li lo sd best)=mgF rd nb li lo sd x:=by unfold mgF;rw[Zt ZnT,Zt Zn6,Zt Zou,Zt ZoL,Zt ZoB,Zcw]
theorem ZbI:(mgF rd nb li lo sd best).length<1000:=by show 6<1000;decide
end
structure ZcW (C:Addr) (H:Hp) (e:Zr):Prop where
 at':Zgq C H e.p e.k e.f e.ss e.g
 le:e.g≤e.ss.length
 len:e.ss.length≤100
 srt:sortedS e.ss=true
 str:∀s∈e.ss,s.length≤1000∧AZ s
structure ZQ (cR cM:Addr) (H:Hp) (m rd sd:Addr) (L:List Zr) (s:StL) (nb li lo:Int) (best:V):Prop where
 ob:∃dx,H m=some (.ins cM dx (mgF rd nb li lo sd best))
 rows:H rd=some (.dK (kvM L))
 stays:H sd=some (.dT (kvS s))
 ats:AtS H s
 each:∀e∈L,ZcW cR H e
 up:Z9 (Zw L)
 pd:(L.map (·.p)).Nodup
 few:L.length≤60
 sfew:s.length≤100
def Fp(m rd sd:Addr)(L:List Zr)(b:Addr):Prop:=b=m∨b=rd∨b=sd∨∃e∈L,b=e.p∨b=e.k∨b=e.f
theorem ZcW.keep{C:Addr}{H H':Hp}{e:Zr}(h:ZcW C H e)(hp:H' e.p=H e.p)(hk:H' e.k=H e.k)(hf:H' e.f=H e.f):ZcW C H' e :=
 ⟨⟨by rw[hp];exact h.at'.ob,by rw[hk];exact h.at'.ks,by rw[hf];exact h.at'.fs⟩,h.le,h.len,h.srt,h.str⟩
section
variable {cR cM:Addr} {H H':Hp} {m rd sd:Addr} {L:List Zr} {s:StL} {nb li lo:Int} {best:V}
theorem ZQ.nd(h:ZQ cR cM H m rd sd L s nb li lo best):(Zw L).Nodup:=Zdy h.up
theorem ZQ.keep(h:ZQ cR cM H m rd sd L s nb li lo best)(k:∀b o,H b=some o→Fp m rd sd L b∨(∃xs,o=.tup xs)→H' b=some o):ZQ cR cM H' m rd sd L s nb li lo best:=by
 refine⟨?_,k _ _ h.rows (.inl (.inr (.inl rfl))),k _ _ h.stays (.inl (.inr (.inr (.inl rfl)))),fun e he t ht=>k _ _ (h.ats e he t ht) (.inr ⟨_,rfl⟩),fun e he=>?_,h.up,h.pd,h.few,h.sfew⟩
 ·obtain⟨dx,hd⟩:=h.ob
  exact⟨dx,k _ _ hd (.inl (.inl rfl))⟩
 ·have r:=h.each e he
  obtain⟨dx,hd⟩:=r.at'.ob
  exact⟨⟨⟨dx,k _ _ hd (.inl (.inr (.inr (.inr ⟨e,he,.inl rfl⟩))))⟩,k _ _ r.at'.ks (.inl (.inr (.inr (.inr ⟨e,he,.inr (.inl rfl)⟩)))),k _ _ r.at'.fs (.inl (.inr (.inr (.inr ⟨e,he,.inr (.inr rfl)⟩))))⟩,r.le,r.len,r.srt,r.str⟩
theorem ZQ.same(h:ZQ cR cM H m rd sd L s nb li lo best)(k:Zz H H'):ZQ cR cM H' m rd sd L s nb li lo best:=h.keep fun b o hb _=>k b o hb
theorem ZQ.ne_p(h:ZQ cR cM H m rd sd L s nb li lo best){e:Zr}(he:e∈L):m≠e.p∧m≠e.k∧m≠e.f:=by
 obtain⟨dx,hd⟩:=h.ob
 have r:=h.each e he
 obtain⟨dy,hy⟩:=r.at'.ob
 refine⟨fun z=>?_,fun z=>?_,fun z=>?_⟩
 ·rw[z,hy]at hd
  injection hd with hd
  injection hd with _ _ hd
  have a:=Zes e.k e.f (e.g:Int)
  rw[hd,Zbo _ _ _ _ _ _ (by ac_rfl) (by ac_rfl) (by ac_rfl) (by ac_rfl) (by ac_rfl) (by ac_rfl)]at a
  cases a
 ·rw[z,r.at'.ks]at hd;cases hd
 ·rw[z,r.at'.fs]at hd;cases hd
theorem ZQ.ne_m(h:ZQ cR cM H m rd sd L s nb li lo best):m≠rd∧m≠sd∧rd≠sd:=by
 obtain⟨dx,hd⟩:=h.ob
 refine⟨fun z=>?_,fun z=>?_,fun z=>?_⟩
 ·rw[z,h.rows]at hd;cases hd
 ·rw[z,h.stays]at hd;cases hd
 ·have:=h.rows;rw[z,h.stays]at this;cases this
theorem ZQ.ne_sd(h:ZQ cR cM H m rd sd L s nb li lo best){e:Zr}(he:e∈L):sd≠e.p∧sd≠e.k∧sd≠e.f∧rd≠e.p∧rd≠e.k∧rd≠e.f:=by
 have r:=h.each e he
 obtain⟨dy,hy⟩:=r.at'.ob
 have a:=h.stays
 have b:=h.rows
 refine⟨fun z=>?_,fun z=>?_,fun z=>?_,fun z=>?_,fun z=>?_,fun z=>?_⟩
 ·rw[z,hy]at a;cases a
 ·rw[z,r.at'.ks]at a;cases a
 ·rw[z,r.at'.fs]at a;cases a
 ·rw[z,hy]at b;cases b
 ·rw[z,r.at'.ks]at b;cases b
 ·rw[z,r.at'.fs]at b;cases b
theorem ZQ.obj(h:ZQ cR cM H m rd sd L s nb li lo best){nb' li' lo':Int}{best':V}{dx:Addr}:ZQ cR cM (upd H m (.ins cM dx (mgF rd nb' li' lo' sd best'))) m rd sd L s nb' li' lo' best':=by
 obtain⟨n1,n2,n3⟩:=h.ne_m
 obtain⟨dy,hd⟩:=h.ob
 refine⟨⟨dx,Zf⟩,by rw[Zc n1.symm];exact h.rows,by rw[Zc n2.symm];exact h.stays,fun e he t ht=>?_,fun e he=>?_,h.up,h.pd,h.few,h.sfew⟩
 ·have:=h.ats e he t ht
  rw[Zc (fun z=>by rw[z,hd]at this;cases this)];exact this
 ·obtain⟨a,b,c⟩:=h.ne_p he
  exact(h.each e he).keep (Zc a.symm) (Zc b.symm) (Zc c.symm)
theorem ZQ.put(h:ZQ cR cM H m rd sd L s nb li lo best){k:Int×Int}{v:Option (Addr×Int×Int)}(hv:∀t,v=some t→H t.1=some (.tup [.int t.2.1,.int t.2.2]))(hs:(Zcs s k v).length≤100):ZQ cR cM (upd H sd (.dT (kvS (Zcs s k v)))) m rd sd L (Zcs s k v) nb li lo best:=by
 obtain⟨n1,n2,n3⟩:=h.ne_m
 obtain⟨dy,hd⟩:=h.ob
 have tup:∀a xs,H a=some (.tup xs)→(upd H sd (.dT (kvS (Zcs s k v)))) a=some (.tup xs):=fun a xs ha=>by rw[Zc (fun z=>by rw[z,h.stays]at ha;cases ha)];exact ha
 refine⟨⟨dy,by rw[Zc n2];exact hd⟩,by rw[Zc n3];exact h.rows,Zf,(h.ats.put hv).mono tup,fun e he=>?_,h.up,h.pd,h.few,hs⟩
 obtain⟨a,b,c,_⟩:=h.ne_sd he
 exact(h.each e he).keep (Zc a.symm) (Zc b.symm) (Zc c.symm)
end
def Zic(cR cM:Addr):Sp:=fun vs H Q _=>∃ (m rd sd:Addr) (L:List Zr) (s:StL) (nb li lo:Int) (best:V) (a b:Zr) (x y:Str) (far:Nat),vs=[.ref m,.int a.n,.int b.n,.int (far:Int)]∧ZQ cR cM H m rd sd L s nb li lo best∧a∈L∧b∈L∧a.ss[a.g]? = some x∧b.ss[b.g]? = some y∧far≤lcp (cds x) (cds y) ∧
 ∀ (t:Addr) (wi lz:Int) (H':Hp),(Btr (cds x) a.n (cds y) b.n∧wi=a.n∧lz=b.n∨¬ Btr (cds x) a.n (cds y) b.n∧wi=b.n∧lz=a.n)→H t=none→H' t=some (.tup [.int wi,.int lz,.int ((lcp (cds x) (cds y):Nat):Int)]) →
  ZQ cR cM H' m rd sd L s nb (li+1) (lo+((lcp (cds x) (cds y):Nat)-(far:Int)+1)) best→(∀b o,H b=some o→b≠m→H' b=some o)→Q (.ref t) H'
theorem Zeh{ss:List Str}{g:Nat}{x:Str}(h:ss[g]? = some x):Zd2 ss g=.str x:=by unfold Zd2;rw[h]
theorem Za9(k f:Addr)(g:Int):(ZbX k f g).lookup ("head" : Str)=none:=ZeX _ _ _ (by ac_rfl) (by ac_rfl) (by ac_rfl)
theorem ZmM(T:Zao K mg cRow cMerge)(f_Row_head:Mf P w K mg base 2 cRow "head" ["self"] (ZeD cRow))(f_liken_from:Df P w K mg base 2 "liken_from" ["one", "other", "far"] Zb2):Mf P w K mg base 3 cMerge "meet" ["self", "one", "other", "far"] (Zic cRow cMerge):=by
 refine T.t_Merge_meet.mf Zbw (fun vs H Q E h=>?_) (fun cdv f A outer s H vs Q E hr h=>?_)
 ·obtain⟨m,rd,sd,L,s,nb,li,lo,best,a,b,x,y,far,rfl,_⟩:=h
  rfl
 obtain⟨m,rd,sd,L,s,nb,li,lo,best,a,b,x,y,far,rfl,M,ha,hb,hx,hy,hf,q⟩:=h
 refine⟨_,#[Zd,#[ZaX,#[ZC,f_liken_from,hr,#[Za,#[ZaA,f_Row_head,T.cl_Row,hr,#[ZF,(ixG hr),#[ZN,‹0›],‹1›]],#[Za,#[ZaA,f_Row_head,T.cl_Row,hr,#[ZF,(ixG hr),#[ZN,‹0›],‹2›]],#[Za,‹3›,#[Zg]]]],(by rfl)],#[gT,K,3,#[Zv,#[ZJ,4,Zbw.nd],#[Zv,#[ZJ,5,Zbw.nd],#[Zv,#[ZJ,6,Zbw.nd],(@Zas _)]]]]],#[Zd,#[ZcE,‹0›,#[Zh],Zfp],#[Zd,#[ZcE,‹0›,‹6›,Zfp],#[Zd,#[Zac,(@PW.pt _ _ _ #[Zd7,#[Zk,Zef,‹4›,#[Zh],(Zo _)],(@ZdP _ _ _ _ (@PW.pt _ _ _ #[Zca,#[Zk,Zbh,‹4›,#[Zh],(Zo _)],#[Zb0,#[Zk,Zef,‹1›,‹2›,(Zo _)]]]))]),#[Zi,#[Zq,#[Zbf,#[Za,‹1›,#[Za,‹2›,#[Za,‹5›,#[Zg]]]]]]],#[ZG]],#[Zi,#[Zq,#[Zbf,#[Za,‹2›,#[Za,‹1›,#[Za,‹5›,#[Zg]]]]]]]]]]],?_⟩
 obtain⟨dx,hm⟩:=M.ob
 have Ra:=M.each a ha
 have Rb:=M.each b hb
 obtain⟨da,hpa⟩:=Ra.at'.ob
 obtain⟨db,hpb⟩:=Rb.at'.ob
 have lx:=(Ra.str x (Qq hx)).1
 have ly:=(Rb.str y (Qq hy)).1
 refine⟨_,rfl,m,cMerge,dx,_,_,rfl,hm,T.cl_Merge,T.na_Merge_rows,Zak ..,_,rfl,rd,_,rfl,Za7.k' (k:=.inl a.n) M.rows (Zdn M.nd ha),a.p,da,_,rfl,hpa,Za9 ..,a.p,a.k,a.f,a.ss,a.g,rfl,Ra.at',?_⟩
 refine⟨_,rfl,m,cMerge,dx,_,_,rfl,hm,T.cl_Merge,T.na_Merge_rows,Zak ..,_,rfl,rd,_,rfl,Za7.k' (k:=.inl b.n) M.rows (Zdn M.nd hb),b.p,db,_,rfl,hpb,Za9 ..,b.p,b.k,b.f,b.ss,b.g,rfl,Rb.at',?_⟩
 rw[Zeh hx,Zeh hy]
 refine⟨_,rfl,x,y,far,rfl,lx,ly,hf,fun t ht=>?_⟩
 have s1:=Zl ht (.tup [.int (ZD (cds x) (cds y)),.int (lcp (cds x) (cds y):Nat),.int ((lcp (cds x) (cds y):Nat)-(far:Int)+1)])
 have ht1:(upd H t (.tup [.int (ZD (cds x) (cds y)),.int (lcp (cds x) (cds y):Nat),.int ((lcp (cds x) (cds y):Nat)-(far:Int)+1)])) t=some (.tup [.int (ZD (cds x) (cds y)),.int (lcp (cds x) (cds y):Nat),.int ((lcp (cds x) (cds y):Nat)-(far:Int)+1)]):=Zf
 generalize upd H t (.tup [.int (ZD (cds x) (cds y)),.int (lcp (cds x) (cds y):Nat),.int ((lcp (cds x) (cds y):Nat)-(far:Int)+1)])=H1 at s1 ht1 ⊢
 have M1:=M.same s1
 refine⟨t,_,rfl,SqT.of ht1,rfl,_,_,rfl,_,_,rfl,_,_,rfl,rfl,?_⟩
 have hm1:=s1 _ _ hm
 refine⟨_,rfl,m,cMerge,dx,_,_,rfl,hm1,T.cl_Merge,T.na_Merge_likened,ZeN ..,_,_,rfl,rfl,dx,_,hm1,ZbI ..,?_⟩
 rw[ZcT]
 have M2:=M1.obj (nb':=nb) (li':=li+1) (lo':=lo) (best':=best) (dx:=dx)
 have k2:∀b o,H b=some o→b≠m→(upd H1 m (.ins cMerge dx (mgF rd nb (li+1) lo sd best))) b=some o:=fun b o hb n=>by rw[Zc n];exact s1 b o hb
 have hm2:(upd H1 m (.ins cMerge dx (mgF rd nb (li+1) lo sd best))) m=some (.ins cMerge dx (mgF rd nb (li+1) lo sd best)):=Zf
 generalize upd H1 m (.ins cMerge dx (mgF rd nb (li+1) lo sd best))=H2 at M2 k2 hm2 ⊢
 refine⟨_,rfl,m,cMerge,dx,_,_,rfl,hm2,T.cl_Merge,T.na_Merge_looked,ZiU ..,_,rfl,_,_,rfl,rfl,dx,_,hm2,ZbI ..,?_⟩
 rw[Zfq]
 have M3:=M2.obj (nb':=nb) (li':=li+1) (lo':=lo+((lcp (cds x) (cds y):Nat)-(far:Int)+1)) (best':=best) (dx:=dx)
 have k3:∀b o,H b=some o→b≠m→(upd H2 m (.ins cMerge dx (mgF rd nb (li+1) (lo+((lcp (cds x) (cds y):Nat)-(far:Int)+1)) sd best))) b=some o:=fun b o hb n=>by rw[Zc n];exact k2 b o hb n
 generalize upd H2 m (.ins cMerge dx (mgF rd nb (li+1) (lo+((lcp (cds x) (cds y):Nat)-(far:Int)+1)) sd best))=H3 at M3 k3 ⊢
 have fin:∀wi lz:Int,(Btr (cds x) a.n (cds y) b.n∧wi=a.n∧lz=b.n∨¬ Btr (cds x) a.n (cds y) b.n∧wi=b.n∧lz=a.n)→∀t2,H3 t2=none→Q (.ref t2) (upd H3 t2 (.tup [.int wi,.int lz,.int ((lcp (cds x) (cds y):Nat):Int)])):=fun wi lz hw t2 ht2=>by
  have hfree:H t2=none:=by
   cases e:H t2 with
   | none=>rfl
   | some o =>
    by_cases z:t2=m
    ·obtain⟨dz,hz⟩:=M3.ob;rw[z,hz]at ht2;cases ht2
    ·rw[k3 t2 o e z]at ht2;cases ht2
  exact q t2 wi lz _ hw hfree Zf (M3.same (Zl ht2 _)) (fun b o hb n=>Zl ht2 _ _ _ (k3 b o hb n))
 have sz3:3≤sizeLine:=by decide
 refine⟨_,rfl,_,_,rfl,rfl,_,rfl,ZbJ (fun d=>?_) (fun d=>?_)⟩
 ·have d':ZD (cds x) (cds y)<0:=of_decide_eq_true d
  exact Zbp ⟨_,rfl,_,rfl,_,rfl,sz3,fun t2 ht2=>fin _ _ (.inl ⟨.inl d',rfl,rfl⟩) t2 ht2⟩
 have d1:¬ ZD (cds x) (cds y)<0:=fun z=>d (decide_eq_true z)
 refine⟨_,rfl,rfl,_,rfl,ZbJ (fun e=>?_) (fun e=>?_)⟩
 ·have e':ZD (cds x) (cds y)=0:=by have:=of_decide_eq_true e;injection this
  refine⟨_,rfl,_,rfl,_,_,rfl,rfl,_,rfl,ZbJ (fun g=>?_) (fun g=>?_)⟩
  ·have g':a.n<b.n:=of_decide_eq_true g
   exact⟨_,rfl,_,rfl,_,rfl,sz3,fun t2 ht2=>fin _ _ (.inl ⟨.inr ⟨e',g'⟩,rfl,rfl⟩) t2 ht2⟩
  ·have g':¬ a.n<b.n:=fun z=>g (decide_eq_true z)
   exact⟨_,rfl,_,rfl,_,rfl,sz3,fun t2 ht2=>fin _ _ (.inr ⟨fun z=>by rcases z with z|z;exact d1 z;exact g' z.2,rfl,rfl⟩) t2 ht2⟩
 ·have e':ZD (cds x) (cds y)≠0:=fun z=>e (decide_eq_true (by rw[z]))
  exact Zbb ⟨_,rfl,_,rfl,_,rfl,sz3,fun t2 ht2=>fin _ _ (.inr ⟨fun z=>by rcases z with z|z;exact d1 z;exact e' z.1,rfl,rfl⟩) t2 ht2⟩
theorem ZQ.cast{cR cM:Addr}{H:Hp}{m rd sd:Addr}{L:List Zr}{s:StL}{nb li lo li' lo':Int}{best:V}(h:ZQ cR cM H m rd sd L s nb li lo best)(e1:li=li')(e2:lo=lo'):ZQ cR cM H m rd sd L s nb li' lo' best:=by subst e1;subst e2;exact h
theorem Zh1{N:List Int}(h:N≠[]):atI (N.map V.int) (-1)=some (.int (N.getLastD 0)):=by
 have e:N=N.dropLast++[N.getLast h]:=(List.dropLast_concat_getLast h).symm
 have:=ZlK (N.dropLast.map V.int) (V.int (N.getLast h))
 rw[Q4,Qal h]
 conv=>lhs;rw[e,Qh]
 exact this
theorem Zhw{N:List Int}(h:N≠[]):atI (N.map V.int) 0=some (.int (N.headD 0)):=by
 cases N with
 | nil=>exact absurd rfl h
 | cons a r=>exact Zay (j:=0) rfl
theorem ZdY(rd:Addr)(nb li lo:Int)(sd:Addr)(best:V):(mgF rd nb li lo sd best).lookup ("play" : Str)=none:=Zbo _ _ _ _ _ _ (by ac_rfl) (by ac_rfl) (by ac_rfl) (by ac_rfl) (by ac_rfl) (by ac_rfl)
theorem Zfn(rd:Addr)(nb li lo:Int)(sd:Addr)(best:V):(mgF rd nb li lo sd best).lookup ("meet" : Str)=none:=Zbo _ _ _ _ _ _ (by ac_rfl) (by ac_rfl) (by ac_rfl) (by ac_rfl) (by ac_rfl) (by ac_rfl)
def ZlI(K:PySem.W.Frag)(cR cM:Addr)(n:Nat):Sp:=fun vs H Q _=>∃ (m rd sd:Addr) (L:List Zr) (s:StL) (nb li lo:Int) (best:V) (l:Addr) (N:List Int),vs=[.ref m,.ref l]∧ZQ cR cM H m rd sd L s nb li lo best∧H l=some (.lst (N.map V.int))∧1≤N.length∧N.length≤60∧0<n∧N.length≤2 ^ (n-1)∧(∀x∈N,x∈Zw L)∧Z9 N∧(∀k,Zee n N k→ZP s k=none)∧s.length+N.length≤100 ∧
 ∀ (w:Option Int) (s':StL) (k q:Int) (H':Hp),Win (hdM L) N w→ZcY (hdM L) s' n N→Zc1 (hdM L) n N k q→(∀j,¬ Zee n N j→ZP s' j=ZP s j)→s'.length+1≤s.length+N.length→ZQ cR cM H' m rd sd L s' nb (li+k) (lo+q) best→(∀b o,H b=some o→b≠m→b≠sd→H' b=some o)→Q (Zbq w) H'
theorem Zjy(T:Zao K mg cRow cMerge)(f_Row_head:Mf P w K mg base 2 cRow "head" ["self"] (ZeD cRow))(f_halves:Df P w K mg base 1 "halves" ["numbers"] (Zd1 K true))(f_Merge_meet:Mf P w K mg base 3 cMerge "meet" ["self", "one", "other", "far"] (Zic cRow cMerge)) :
  ∀n:Nat,Mf P w K mg base (n+4) cMerge "play" ["self", "numbers"] (ZlI K cRow cMerge n)
 | 0=>by
  refine T.t_Merge_play.mf Z7 (fun vs H Q E h=>?_) (fun cdv f A outer s H vs Q E hr h=>?_)
  ·obtain⟨m,rd,sd,L,s,nb,li,lo,best,l,N,rfl,_⟩:=h
   rfl
  obtain⟨m,rd,sd,L,s,nb,li,lo,best,l,N,rfl,_,_,_,_,z,_⟩:=h
  exact absurd z (by omega)
 | n+1=>by
  have f_Merge_play:=Zjy T f_Row_head f_halves f_Merge_meet n
  refine T.t_Merge_play.mf Z7 (fun vs H Q E h=>?_) (fun cdv f A outer s H vs Q E hr h=>?_)
  ·obtain⟨m,rd,sd,L,s,nb,li,lo,best,l,N,rfl,_⟩:=h
   rfl
  obtain⟨m,rd,sd,L,s,nb,li,lo',best,l,N,rfl,M,hl,h1,h60,_,hp2,hmem,hup,hfree,hsz,q⟩:=h
  rw[Qaa]at hp2
  refine⟨_,#[Zd,#[Zac,#[Zk,Zbh,#[Zu,(ZdO K),T.b.n_len,Qw,#[Za,‹1›,#[Zg]]],#[Zh],(Zo _)],#[Zi,#[Zq,#[Zbj,#[Zk,Zbs,#[ZaA,f_Row_head,T.cl_Row,hr,#[ZF,(ixG hr),#[ZN,‹0›],#[ZF,(ixL K),‹1›,#[Zh]]]],#[ZS],(Zo _)],#[ZS],#[ZF,(ixL K),‹1›,#[Zh]]]]],#[ZG]],#[Zd,#[ZaX,#[ZC,f_halves,hr,#[Za,‹1›,#[Zg]],(by rfl)],#[gT,K,2,#[Zv,#[ZJ,2,Z7.nd],#[Zv,#[ZJ,3,Z7.nd],(@Zas _)]]]],#[Zd,#[Zx,4,Z7.nd,(Or.inl rfl),#[ZdG,f_Merge_play,T.cl_Merge,hr,‹0›,#[Za,‹2›,#[Zg]]]],#[Zd,#[Zx,5,Z7.nd,(Or.inl rfl),#[ZdG,f_Merge_play,T.cl_Merge,hr,‹0›,#[Za,‹3›,#[Zg]]]],#[Zd,#[Zac,#[Zk,Zbs,‹4›,#[ZS],(Zo _)],#[Zi,#[Zq,‹5›]],#[ZG]],#[Zd,#[Zac,#[Zk,Zbs,‹5›,#[ZS],(Zo _)],#[Zi,#[Zq,‹4›]],#[ZG]],#[Zd,#[ZaX,#[ZdG,f_Merge_meet,T.cl_Merge,hr,‹0›,#[Za,‹4›,#[Za,‹5›,#[Za,#[Zh],#[Zg]]]]],#[gT,K,3,#[Zv,#[ZJ,6,Z7.nd],#[Zv,#[ZJ,7,Z7.nd],#[Zv,#[ZJ,8,Z7.nd],(@Zas _)]]]]],#[Zd,#[ZaX,#[Zbf,#[Za,‹7›,#[Za,‹8›,#[Zg]]]],#[ZcK,#[ZN,‹0›],#[Zbf,#[Za,#[ZF,(ixL K),‹1›,#[Zh]],#[Za,#[ZF,(ixL K),‹1›,(@Zjb _ _ _ _ _ _ ZgN #[Zh])],#[Zg]]]],(ZiL hr)]],#[Zi,#[Zq,‹6›]]]]]]]]]],?_⟩
  obtain⟨dx,hm⟩:=M.ob
  have hN:N≠[]:=Z3 h1
  have nml:l≠m:=fun z=>by rw[z,hm]at hl;cases hl
  have nsl:l≠sd:=fun z=>by rw[z,M.stays]at hl;cases hl
  have hll:(((N.map V.int).length:Nat):Int)=(N.length:Int):=by rw[Qa]
  refine⟨_,rfl,l,_,rfl,.inl (SqL.of hl),rfl,_,rfl,ZbJ (fun d=>?_) (fun d=>?_)⟩
  ·have hone:N.length=1:=by have:=of_decide_eq_true d;injection this with this;rw[hll]at this;omega
   obtain⟨n0,rfl⟩:∃n0,N=[n0]:=Qaw.mp hone
   obtain⟨e,he,rfl⟩:=Zc8 (hmem n0 (by simp))
   have R:=M.each e he
   obtain⟨dp,hp⟩:=R.at'.ob
   have hat:atI (([e.n]:List Int).map V.int) 0=some (.int e.n):=Zay (j:=0) rfl
   refine⟨_,rfl,m,cMerge,dx,_,_,rfl,hm,T.cl_Merge,T.na_Merge_rows,Zak ..,_,rfl,l,_,_,_,rfl,rfl,SqL.of hl,hat,rd,_,rfl,Za7.k' (k:=.inl e.n) M.rows (Zdn M.nd he),e.p,dp,_,rfl,hp,Za9 ..,e.p,e.k,e.f,e.ss,e.g,rfl,R.at',rfl,_,rfl,?_⟩
   have hst:ZcY (hdM L) s (n+1) [e.n]:=fun h2=>by simp at h2
   have hpl:Zc1 (hdM L) (n+1) [e.n] 0 0:=.few (by show 1<2;decide)
   have hwin:=Win.sing (hd:=hdM L) (n:=e.n)
   have hd:=Zb6 M.nd he
   have M':=M.cast (li':=li+0) (lo':=lo'+0) (by omega) (by omega)
   cases hx:e.ss[e.g]? with
   | none =>
    rw[show Zd2 e.ss e.g=.non by unfold Zd2;rw[hx]]
    rw[hd,hx]at hwin
    exact Zcm rfl (q none s 0 0 H hwin hst hpl (fun _ _=>rfl) (Qg _) M' (fun b o h _ _=>h))
   | some x =>
    rw[Zeh hx]
    rw[hd,hx]at hwin
    exact ZbC (fun z=>nomatch z) ⟨_,rfl,l,_,_,_,rfl,rfl,SqL.of hl,hat,q (some e.n) s 0 0 H hwin hst hpl (fun _ _=>rfl) (Qg _) M' (fun b o h _ _=>h)⟩
  have hge:2≤N.length:=by
   have:¬ ((N.length:Int)=1):=fun z=>d (decide_eq_true (by rw[hll,z]))
   omega
  have hn1:1≤n:=by
   cases n with
   | zero=>simp at hp2;omega
   | succ m=>omega
  have hpow:2 ^ n=2*2 ^ (n-1):=by
   obtain⟨m,rfl⟩:∃m,n=m+1:=⟨n-1,by omega⟩
   rw[Nat.pow_succ,Qaa];omega
  have hlo:(lo N).length≤2 ^ (n-1)∧(lo N).length≤60:=by unfold lo mid;rw[Qy];omega
  have hupl:(up N).length≤2 ^ (n-1)∧(up N).length≤60:=by unfold up mid;rw[QU];omega
  have hsum:(lo N).length+(up N).length=N.length:=by rw[← Qs,ZbS]
  have hmlo:∀x∈lo N,x∈Zw L:=fun x hx=>hmem x (List.mem_of_mem_take hx)
  have hmup:∀x∈up N,x∈Zw L:=fun x hx=>hmem x (List.mem_of_mem_drop hx)
  refine⟨_,rfl,l,N,rfl,SqL.of hl,by omega,fun t f r H2 ht hf hr' nfr ht2 hf2 hr2 s2 ntf ntr=>?_⟩
  rw[if_pos rfl]at ht2
  rw[Zoo]at hf2
  rw[Zob]at hr2
  refine⟨t,_,rfl,SqT.of ht2,rfl,_,_,rfl,_,_,rfl,rfl,?_⟩
  have M2:=M.same s2
  have hm2:=s2 _ _ hm
  have nfm:r≠m:=(Zb hm hr').symm
  have nfs:r≠sd:=(Zb M.stays hr').symm
  refine⟨_,rfl,m,dx,_,rfl,hm2,ZdY ..,_,rfl,m,rd,sd,L,s,nb,li,lo',best,f,lo N,rfl,M2,hf2,(Zda hge).2,hlo.2,hn1,hlo.1,hmlo,Zdt hup,fun k hk=>hfree k ⟨hge,.inl hk⟩,by omega,fun w1 s1 k1 q1 H3 W1 S1 P1 o1 l1 M3 b3=>?_⟩
  have hr3:=b3 _ _ hr2 nfm nfs
  obtain⟨dx3,hm3⟩:=M3.ob
  refine⟨_,rfl,m,dx3,_,rfl,hm3,ZdY ..,_,rfl,m,rd,sd,L,s1,nb,_,_,best,r,up N,rfl,M3,hr3,(ZdQ hge).2,hupl.2,hn1,hupl.1,hmup,Zdq hup,fun k hk=>?_,by omega,fun w2 s2' k2 q2 H4 W2 S2 P2 o2 l2 M4 b4=>?_⟩
  ·rw[o1 k ((ZgJ hup hge hk).2 n)]
   exact hfree k ⟨hge,.inr (.inl hk)⟩
  have key_n:¬ Zee n (lo N) (ZL N)∧¬ Zee n (up N) (ZL N):=⟨fun z=>(Zg2 hup hge z).1 rfl,fun z=>(ZgJ hup hge z).1 rfl⟩
  have S1':ZcY (hdM L) s2' n (lo N):=S1.congr n _ (fun _ _=>rfl) (fun k hk=>o2 k ((Zg2 hup hge hk).2 n))
  have hk2:ZP s2' (ZL N)=none:=by rw[o2 _ key_n.2,o1 _ key_n.1];exact hfree _ ⟨hge,.inr (.inr rfl)⟩
  have oth:∀j,¬ Zee (n+1) N j→ZP s2' j=ZP s j:=fun j hj=>by
   rw[o2 j (fun z=>hj ⟨hge,.inr (.inl z)⟩),o1 j (fun z=>hj ⟨hge,.inl z⟩)]
  have b04:∀b o,H b=some o→b≠m→b≠sd→H4 b=some o:=fun b o hb n1 n2=>b4 b o (b3 b o (s2 b o hb) n1 n2) n1 n2
  have none':∀wn,Win (hdM L) N wn→(Win (hdM L) (lo N) none∨Win (hdM L) (up N) none)→Q (Zbq wn) H4:=fun wn hw hno=>by
   refine q wn s2' (k1+k2) (q1+q2) H4 hw (fun _=>⟨S1',S2,fun a b x y wa wb _ _=>?_,fun _=>.inl hk2⟩) (.none hge P1 P2 hno) oth (by omega) (M4.cast (by omega) (by omega)) b04
   rcases hno with z|z
   ·exact nomatch z.one wa
   ·exact nomatch z.one wb
  cases w1 with
  | none=>exact⟨_,rfl,rfl,_,rfl,Zcm rfl ⟨_,rfl,none' w2 (by have:=Win.right W1 W2;rwa [ZbS]at this) (.inl W1)⟩⟩
  | some a =>
  refine⟨_,rfl,rfl,_,rfl,ZbC (fun z=>nomatch z) ?_⟩
  cases w2 with
  | none=>exact⟨_,rfl,rfl,_,rfl,Zcm rfl ⟨_,rfl,none' (some a) (by have:=Win.left W1 W2;rwa [ZbS]at this) (.inr W2)⟩⟩
  | some b =>
  refine⟨_,rfl,rfl,_,rfl,ZbC (fun z=>nomatch z) ?_⟩
  obtain⟨ea,hea,ea'⟩:=Zc8 (hmlo a W1.1)
  obtain⟨eb,heb,eb'⟩:=Zc8 (hmup b W2.1)
  subst ea'
  subst eb'
  have hda:=Zb6 M.nd hea
  have hdb:=Zb6 M.nd heb
  cases hx:ea.ss[ea.g]? with
  | none=>obtain⟨_,z,hz,_⟩:=W1;rw[hda,hx]at hz;cases hz
  | some x =>
  cases hy:eb.ss[eb.g]? with
  | none=>obtain⟨_,z,hz,_⟩:=W2;rw[hdb,hy]at hz;cases hz
  | some y =>
  rw[hx]at hda
  rw[hy]at hdb
  obtain⟨dx4,hm4⟩:=M4.ob
  refine⟨_,rfl,m,dx4,_,rfl,hm4,Zfn ..,_,rfl,_,rfl,m,rd,sd,L,s2',nb,_,_,best,ea,eb,x,y,0,rfl,M4,hea,heb,hx,hy,Qn _,fun t5 wi lz H5 hw ht5 ht5' M5 b5=>?_⟩
  refine⟨t5,_,rfl,SqT.of ht5',rfl,_,_,rfl,_,_,rfl,_,_,rfl,rfl,?_⟩
  have sz2:2≤sizeLine:=by decide
  refine⟨_,rfl,_,rfl,sz2,fun t6 ht6=>?_⟩
  have s6:=Zl ht6 (.tup [.int lz,.int ((lcp (cds x) (cds y):Nat):Int)])
  have ht66:(upd H5 t6 (.tup [.int lz,.int ((lcp (cds x) (cds y):Nat):Int)])) t6=some (.tup [.int lz,.int ((lcp (cds x) (cds y):Nat):Int)]):=Zf
  have M6:=M5.same s6
  generalize upd H5 t6 (.tup [.int lz,.int ((lcp (cds x) (cds y):Nat):Int)])=H6 at s6 ht66 M6 ⊢
  obtain⟨dx6,hm6⟩:=M6.ob
  have hl6:H6 l=some (.lst (N.map V.int)):=s6 _ _ (b5 _ _ (b04 _ _ hl nml nsl) nml)
  refine⟨_,rfl,m,cMerge,dx6,_,_,rfl,hm6,T.cl_Merge,T.na_Merge_stays,Zct ..,_,rfl,l,_,_,_,rfl,rfl,SqL.of hl6,Zhw hN,_,rfl,_,rfl,l,_,_,_,rfl,rfl,SqL.of hl6,Zh1 hN,sz2,fun t7 ht7=>?_⟩
  have s7:=Zl ht7 (.tup [.int (N.headD 0),.int (N.getLastD 0)])
  have ht77:(upd H6 t7 (.tup [.int (N.headD 0),.int (N.getLastD 0)])) t7=some (.tup ([.inl (ZL N).1,.inl (ZL N).2].map kV)):=Zf
  have M7:=M6.same s7
  generalize upd H6 t7 (.tup [.int (N.headD 0),.int (N.getLastD 0)])=H7 at s7 ht77 M7 ⊢
  have hsl:(kvS s2').length<sizeLine:=by unfold kvS;rw[Qa];exact ZE (by omega)
  refine⟨sd,_,rfl,ZdW.t (k:=[.inl (ZL N).1,.inl (ZL N).2]) M7.stays ht77 hsl,?_⟩
  rw[show V.ref t6=stV (some (t6,lz,((lcp (cds x) (cds y):Nat):Int))) from rfl,Ze0]
  have hpl:=Zk7 s2' (ZL N) (some (t6,lz,((lcp (cds x) (cds y):Nat):Int)))
  have l1':=(Zda hge).2
  have M8:=M7.put (k:=ZL N) (v:=some (t6,lz,((lcp (cds x) (cds y):Nat):Int))) (fun t ht=>by injection ht with ht;rw[← ht];exact s7 _ _ ht66) (by omega)
  have hne:ea.n≠eb.n:=fun z=>by have:=ZH hup W1.1 W2.1;omega
  have b08:∀b o,H b=some o→b≠m→b≠sd→(upd H7 sd (.dT (kvS (Zcs s2' (ZL N) (some (t6,lz,((lcp (cds x) (cds y):Nat):Int))))))) b=some o:=fun b o hb n1 n2=>by
   rw[Zc n2];exact s7 _ _ (s6 _ _ (b5 _ _ (b04 _ _ hb n1 n2) n1))
  have hwin:Win (hdM L) N (some wi):=by
   rcases hw with⟨w0,rfl,_⟩|⟨w0,rfl,_⟩
   ·have:=Win.both W1 W2 hda hdb w0;rwa [ZbS]at this
   ·have:=Win.both' W1 W2 hda hdb ((Btr.total hne).resolve_left w0);rwa [ZbS]at this
  have hlz:lz=if ZD (cds x) (cds y)<0∨(ZD (cds x) (cds y)=0∧ea.n<eb.n) then eb.n else ea.n:=by
   rcases hw with⟨w0,_,rfl⟩|⟨w0,_,rfl⟩
   ·exact(if_pos (show ZD (cds x) (cds y)<0∨(ZD (cds x) (cds y)=0∧ea.n<eb.n) from w0)).symm
   ·exact(if_neg (show ¬ (ZD (cds x) (cds y)<0∨(ZD (cds x) (cds y)=0∧ea.n<eb.n)) from w0)).symm
  refine⟨_,rfl,q (some wi) _ (k1+k2+1) (q1+q2+(lcp (cds x) (cds y):Nat)+1) _ hwin (fun _=>⟨?_,?_,?_,fun hno=>?_⟩) (.both hge P1 P2 W1 W2 hda hdb) (fun j hj=>?_) (by omega) (M8.cast (by omega) (by omega)) b08⟩
  ·exact S1'.congr n _ (fun _ _=>rfl) (fun k hk=>by rw[ZaO,if_neg (Zg2 hup hge hk).1])
  ·exact S2.congr n _ (fun _ _=>rfl) (fun k hk=>by rw[ZaO,if_neg (ZgJ hup hge hk).1])
  ·intro a' b' x' y' wa wb hxa hyb
   have e1:=Qo (wa.one W1)
   have e2:=Qo (wb.one W2)
   subst e1
   subst e2
   have e3:=Qo (hxa.symm.trans hda)
   have e4:=Qo (hyb.symm.trans hdb)
   subst e3
   subst e4
   exact⟨t6,by rw[ZaO,if_pos rfl,hlz]⟩
  ·rcases hno with z|z
   ·exact nomatch z.one W1
   ·exact nomatch z.one W2
  ·rw[ZaO,if_neg (fun z=>hj ⟨hge,.inr (.inr z)⟩)]
   exact oth j hj
theorem ZcW.mono{C:Addr}{H H':Hp}{e:Zr}(h:ZcW C H e)(k:∀b o,H b=some o→b=e.p∨b=e.k∨b=e.f→H' b=some o):ZcW C H' e:=by
 obtain⟨dx,hd⟩:=h.at'.ob
 exact⟨⟨⟨dx,k _ _ hd (.inl rfl)⟩,k _ _ h.at'.ks (.inr (.inl rfl)),k _ _ h.at'.fs (.inr (.inr rfl))⟩,h.le,h.len,h.srt,h.str⟩
theorem ZlC(L:List Zr):(kvM L).map (fun kv=>kV kv.1)=(Zw L).map V.int:=by unfold kvM Zw;rw[Qt,Qt];rfl
theorem ZlY{n:Nat}{N:List Int}{k:Int×Int}(_:Zee n N k):ZP [] k=none:=rfl
def Zds(cR cM:Addr):Sp:=fun vs H Q _=>∃ (m rd sd:Addr) (L:List Zr) (s:StL) (nb li lo:Int) (best:V),vs=[.ref m]∧ZQ cR cM H m rd sd L s nb li lo best ∧
 ∀ (sd':Addr) (s':StL) (w:Option Int) (k q:Int) (H':Hp),H sd'=none→Win (hdM L) (Zw L) w→ZcY (hdM L) s' 8 (Zw L)→Zc1 (hdM L) 8 (Zw L) k q→ZQ cR cM H' m rd sd' L s' nb (li+k) (lo+q) (Zbq w)→(∀b o,H b=some o→b≠m→H' b=some o)→Q .non H'
theorem Zh4(T:Zao K mg cRow cMerge)(f_Merge_play:Mf P w K mg base 12 cMerge "play" ["self", "numbers"] (ZlI K cRow cMerge 8)):Mf P w K mg base 13 cMerge "play_all" ["self"] (Zds cRow cMerge):=by
 refine T.t_Merge_play_all.mf Zen (fun vs H Q E h=>?_) (fun cdv f A outer s H vs Q E hr h=>?_)
 ·obtain⟨m,rd,sd,L,s,nb,li,lo,best,rfl,_⟩:=h
  rfl
 obtain⟨m,rd,sd,L,s,nb,li,lo',best,rfl,M,q⟩:=h
 refine⟨_,#[Zd,#[ZbD,‹0›,(@Zjj _ _)],#[Zi,#[ZbD,‹0›,#[Zbj,#[Zk,Zgk,#[Zu,ZlH,T.b.n_len,Qw,#[Za,#[ZN,‹0›],#[Zg]]],#[Zh],(Zo _)],#[ZdG,f_Merge_play,T.cl_Merge,hr,‹0›,#[Za,#[ZcG,Zpz,T.b.n_list,boot_list,#[Za,#[ZN,‹0›],#[Zg]]],#[Zg]]],#[ZS]]]]],?_⟩
 refine fun sd' hsd=>?_
 obtain⟨dx,hm⟩:=M.ob
 have s1:=Zl hsd (.dT [])
 have hs1:(upd H sd' (.dT [])) sd'=some (.dT (kvS [])):=Zf
 have M1:=M.same s1
 have hm1:=s1 _ _ hm
 have nms:m≠sd':=Zb hm hsd
 have nrs:rd≠sd':=Zb M.rows hsd
 generalize upd H sd' (.dT [])=H1 at s1 hs1 M1 hm1 ⊢
 refine⟨_,rfl,m,cMerge,dx,_,rfl,hm1,T.cl_Merge,T.na_Merge_stays,ZbI ..,?_⟩
 rw[ZfU]
 obtain⟨n1,n2,n3⟩:=M.ne_m
 have M2:ZQ cRow cMerge (upd H1 m (.ins cMerge dx (mgF rd nb li lo' sd' best))) m rd sd' L [] nb li lo' best:=by
  refine⟨⟨dx,Zf⟩,by rw[Zc n1.symm];exact M1.rows,by rw[Zc nms.symm];exact hs1,(fun e he=>by cases he),fun e he=>?_,M.up,M.pd,M.few,by decide⟩
  obtain⟨a,b,c⟩:=M1.ne_p he
  exact(M1.each e he).keep (Zc a.symm) (Zc b.symm) (Zc c.symm)
 have k2:∀b o,H b=some o→b≠m→(upd H1 m (.ins cMerge dx (mgF rd nb li lo' sd' best))) b=some o:=fun b o hb n=>by rw[Zc n];exact s1 b o hb
 generalize upd H1 m (.ins cMerge dx (mgF rd nb li lo' sd' best))=H2 at M2 k2 ⊢
 obtain⟨dx2,hm2⟩:=M2.ob
 have hlen:(((kvM L).length:Nat):Int)=(L.length:Int):=by unfold kvM;rw[Qa]
 have hnl:(Zw L).length=L.length:=by unfold Zw;rw[Qa]
 have hfew:=M.few
 refine⟨_,rfl,m,cMerge,dx2,_,_,rfl,hm2,T.cl_Merge,T.na_Merge_rows,Zak ..,rd,_,rfl,M2.rows,_,_,rfl,rfl,_,rfl,ZbJ (fun d=>?_) (fun d=>?_)⟩
 ·have hpos:0<L.length:=by have:(0:Int)<(((kvM L).length:Nat):Int):=of_decide_eq_true d;omega
  refine⟨_,rfl,m,dx2,_,rfl,hm2,ZdY ..,_,rfl,m,cMerge,dx2,_,_,rfl,hm2,T.cl_Merge,T.na_Merge_rows,Zak ..,rd,_,rfl,M2.rows,fun l hl=>?_⟩
  rw[ZlC]
  have s3:=Zl hl (.lst ((Zw L).map V.int))
  have hl3:(upd H2 l (.lst ((Zw L).map V.int))) l=some (.lst ((Zw L).map V.int)):=Zf
  have M3:=M2.same s3
  generalize upd H2 l (.lst ((Zw L).map V.int))=H3 at s3 hl3 M3 ⊢
  refine⟨m,rd,sd',L,[],nb,li,lo',best,l,Zw L,rfl,M3,hl3,by omega,by omega,by decide,QH (by omega:(Zw L).length≤60) (by decide),fun x hx=>hx,M.up,fun k hk=>ZlY hk,by show 0+_≤_;omega,fun w1 s' k q' H4 W S Pl _ _ M4 b4=>?_⟩
  obtain⟨dx4,hm4⟩:=M4.ob
  refine⟨_,rfl,m,cMerge,dx4,_,rfl,hm4,T.cl_Merge,T.na_Merge_best,ZbI ..,?_⟩
  rw[ZbG]
  exact q sd' s' w1 k q' _ hsd W S Pl M4.obj (fun b o hb n=>by rw[Zc n];exact b4 b o (s3 b o (k2 b o hb n)) n (Zb hb hsd))
 ·have hnil:L=[]:=by
   cases L with
   | nil=>rfl
   | cons e r=>exact absurd (decide_eq_true (show (0:Int)<(((kvM (e::r)).length:Nat):Int) by rw[hlen];simp only[List.length_cons];omega)) d
  subst hnil
  refine⟨_,rfl,m,cMerge,dx2,_,rfl,hm2,T.cl_Merge,T.na_Merge_best,ZbI ..,?_⟩
  rw[ZbG]
  exact q sd' [] none 0 0 _ hsd (Win.nil _) (fun h2=>absurd h2 (by decide)) (.few (by decide)) (M2.obj.cast (by omega) (by omega)) (fun b o hb n=>by rw[Zc n];exact k2 b o hb n)
def Zn1(L:List Zr)(rs:List (Addr×List Str)):Prop:=Zw L=Zek 0 rs.length∧L.map (fun e=>(e.ss,e.g))=rs.map fun x=>(x.2,0)
def Zhm(cR cM:Addr):Sp:=fun vs H Q _=>∃ (m dx r:Addr) (rs:List (Addr×List Str)),vs=[.ref m,.ref r]∧H m=some (.ins cM dx [])∧Zeo H r rs∧(∀x∈rs,sortedS x.2=true) ∧
 ∀ (rd sd:Addr) (L:List Zr) (s:StL) (w:Option Int) (k q:Int) (H':Hp),ZQ cR cM H' m rd sd L s (rs.length:Int) k q (Zbq w)→Zn1 L rs→Win (hdM L) (Zw L) w→ZcY (hdM L) s 8 (Zw L)→Zc1 (hdM L) 8 (Zw L) k q→(∀b,Fp m rd sd L b→b=m∨H b=none)→(∀b o,H b=some o→b≠m→H' b=some o)→Q .non H'
theorem ZbT(rd:Addr)(nb li lo:Int)(sd:Addr)(best:V):(mgF rd nb li lo sd best).lookup ("play_all" : Str)=none:=Zbo _ _ _ _ _ _ (by ac_rfl) (by ac_rfl) (by ac_rfl) (by ac_rfl) (by ac_rfl) (by ac_rfl)
theorem Zjl{ss:List Str}(h:sortedS ss=true):Zg8 ss .non:=by
 refine .inl ⟨rfl,fun i x y hx hy=>?_⟩
 have:=Zf6 h i y x hy hx
 have:=Za3 (cds y) (cds x)
 omega
theorem ZfW(T:Zao K mg cRow cMerge)(f_refuse_break:Df P w K mg base 5 "refuse_break" ["number", "keys"] (Zd6 K))(f_Row_init:Cf P w K mg base 4 cRow "Row" ["self", "keys"] (Zey cRow))(f_Merge_play_all:Mf P w K mg base 13 cMerge "play_all" ["self"] (Zds cRow cMerge)):Cf P w K mg base 14 cMerge "Merge" ["self", "rows"] (Zhm cRow cMerge):=by
 refine T.t_Merge_init.cf Zb8 (fun vs H Q E h=>?_) (fun cdv f A outer s H vs Q E hr h=>?_)
 ·obtain⟨m,dx,r,rs,rfl,_⟩:=h
  rfl
 obtain⟨m,dx,r,rs,rfl,hm,hrs,hsrt,q⟩:=h
 refine⟨_,#[Zd,#[ZbD,‹0›,(@ZlM _ _)],#[Zd,#[Zdf,PassesOwn.never,(@iE _ K _ _ _ _ _ _ _ T.b.n_enumerate #[Za,‹1›,#[Zg]] (by rfl) (by rfl) (by rfl)),#[gT,K,2,#[Zv,#[ZJ,2,Zb8.nd],#[Zv,#[ZJ,3,Zb8.nd],(@Zas _)]]],#[Zd,#[Zaz,#[ZC,f_refuse_break,hr,#[Za,‹2›,#[Za,‹3›,#[Zg]]],(by rfl)]],#[Zi,#[ZaX,#[Zl7,f_Row_init,hr,#[Za,‹3›,#[Zg]]],#[ZcK,#[ZN,‹0›],‹2›,(ZiL hr)]]]]],#[Zd,#[ZbD,‹0›,#[Zu,(ZdO K),T.b.n_len,Qw,#[Za,‹1›,#[Zg]]]],#[Zd,#[ZbD,‹0›,#[Zh]],#[Zd,#[ZbD,‹0›,#[Zh]],#[Zd,#[ZbD,‹0›,(@Zjj _ _)],#[Zd,#[ZbD,‹0›,#[ZS]],#[Zi,#[Zaz,#[ZaA,f_Merge_play_all,T.cl_Merge,hr,‹0›]]]]]]]]]],?_⟩
 refine fun rd hrd=>?_
 have nmr:m≠rd:=Zb hm hrd
 have s1:=Zl hrd (.dK [])
 have hr1:(upd H rd (.dK [])) rd=some (.dK (kvM [])):=Zf
 have hm1:=s1 _ _ hm
 generalize upd H rd (.dK [])=H1 at s1 hr1 hm1 ⊢
 refine⟨_,rfl,m,cMerge,dx,_,rfl,hm1,T.cl_Merge,T.na_Merge_rows,(by show 0<1000;decide),?_⟩
 have nrm:r≠m:=fun z=>by have:=hrs.at';rw[z,hm]at this;cases this
 have k2:∀b o,H b=some o→b≠m→(upd H1 m (.ins cMerge dx (Zn "rows" (.ref rd) []))) b=some o:=fun b o hb n=>by rw[Zc n];exact s1 b o hb
 have hm2:(upd H1 m (.ins cMerge dx (Zn "rows" (.ref rd) []))) m=some (.ins cMerge dx (Zn "rows" (.ref rd) [])):=Zf
 have hr2:(upd H1 m (.ins cMerge dx (Zn "rows" (.ref rd) []))) rd=some (.dK (kvM [])):=by rw[Zc nmr.symm];exact hr1
 generalize upd H1 m (.ins cMerge dx (Zn "rows" (.ref rd) []))=H2 at k2 hm2 hr2 ⊢
 have hfew:=hrs.few
 have lkr:(Zn "rows" (.ref rd) []).lookup ("rows" : Str)=some (V.ref rd):=by rw[Zj,if_pos rfl]
 refine⟨_,rfl,r,_,rfl,SqL.of (k2 _ _ hrs.at' nrm),?_⟩
 refine Zhg (K:=K) (a:=r) (xs:=rs.map fun x=>V.ref x.1) (fun i σ H5=>∃ (L:List Zr) (v2 v3:Option V),σ=[some (.ref m),some (.ref r),v2,v3]∧H5 m=some (.ins cMerge dx (Zn "rows" (.ref rd) []))∧H5 rd=some (.dK (kvM L))∧(∀e∈L,ZcW cRow H5 e)∧Zn1 L (rs.take i)∧(L.map (·.p)).Nodup∧(∀e∈L,H e.p=none∧H e.k=none∧H e.f=none)∧(∀b o,H b=some o→b≠m→H5 b=some o)) ⟨[],_,_,rfl,hm2,hr2,(fun e h=>by cases h),⟨rfl,rfl⟩,List.nodup_nil,(fun e h=>by cases h),k2⟩ (fun i σ H5 hq=>by obtain⟨_,_,_,_,_,_,_,_,_,_,k5⟩:=hq;exact SqL.of (k5 _ _ hrs.at' nrm)) ?_ ?_
 ·rintro i y σ H5 p hy ⟨L,v2,v3,rfl,hm5,hr5,each,⟨n1,n2⟩,pd,hfr,k5⟩ hp
  rw[Qv]at hy
  cases hz:rs[i]? with
  | none=>rw[hz]at hy;cases hy
  | some x =>
  rw[hz]at hy
  cases hy
  have hil:i<rs.length:=(Qc.mp hz).1
  have hxm:=Qq hz
  obtain⟨lx,l100,laz⟩:=hrs.lst x hxm
  have nxm:x.1≠m:=fun z=>by rw[z,hm]at lx;cases lx
  have hLl:L.length=i:=by have:=congrArg List.length n1;unfold Zw at this;rw[Qa,Zeb,Qy]at this;omega
  have hlt:∀e∈L,e.n≠(i:Int):=fun e he z=>by
   have h1:e.n∈Zek 0 (rs.take i).length:=by rw[← n1];exact Qf (f:=fun e:Zr=>e.n) he
   unfold Zek at h1
   obtain⟨j,hj,ej⟩:=Qp.mp h1
   have:=Qae.mp hj
   rw[Qy]at this
   omega
  have sp:=Zl hp (.tup [.int (i:Int),.ref x.1])
  have hp6:(upd H5 p (.tup [.int (i:Int),.ref x.1])) p=some (.tup [.int (i:Int),.ref x.1]):=Zf
  generalize upd H5 p (.tup [.int (i:Int),.ref x.1])=H6 at sp hp6 ⊢
  refine⟨p,_,rfl,SqT.of hp6,rfl,_,_,rfl,_,_,rfl,rfl,?_⟩
  have lx6:H6 x.1=some (.lst (x.2.map V.str)):=sp _ _ (k5 _ _ lx nxm)
  refine⟨_,rfl,_,rfl,(i:Int),x.1,x.2,rfl,SqL.of lx6,by omega,fun s hs=>(laz s hs).1,Zjl (hsrt x hxm),fun H7 s7=>?_⟩
  have s57:=sp.trans s7
  refine⟨_,rfl,fun u dy hu hdy ndu=>?_⟩
  have hu5:H5 u=none:=s57.free hu
  have lx8:(upd (upd H7 dy (.own u)) u (.ins cRow dy [])) x.1=some (.lst (x.2.map V.str)):=by
   have:=s7 _ _ lx6
   rw[Zc (Zb this hu),Zc (Zb this hdy)];exact this
  have s8:∀b o,H5 b=some o→(upd (upd H7 dy (.own u)) u (.ins cRow dy [])) b=some o:=fun b o hb=>by
   have:=s57 _ _ hb
   rw[Zc (Zb this hu),Zc (Zb this hdy)];exact this
  have hu8:(upd (upd H7 dy (.own u)) u (.ins cRow dy [])) u=some (.ins cRow dy []):=Zf
  generalize upd (upd H7 dy (.own u)) u (.ins cRow dy [])=H8 at lx8 s8 hu8 ⊢
  refine⟨u,dy,x.1,x.2,rfl,hu8,lx8,l100,fun s hs=>(laz s hs).1,fun k f H9 hk hf nkf R k9=>⟨rfl,?_⟩⟩
  have s9:∀b o,H5 b=some o→H9 b=some o:=fun b o hb=>k9 b o (s8 b o hb) (Zb hb hu5)
  have free5:∀b,H8 b=none→H5 b=none:=fun b hb=>by
   cases e:H5 b with
   | none=>rfl
   | some o=>rw[s8 b o e]at hb;cases hb
  have free0:∀b,b≠m→H5 b=none→H b=none:=fun b nb hb=>by
   cases e:H b with
   | none=>rfl
   | some o=>rw[k5 b o e nb]at hb;cases hb
  have num:u≠m:=fun z=>by rw[z,hm5]at hu5;cases hu5
  have nkm:k≠m:=fun z=>by have:=free5 k hk;rw[z,hm5]at this;cases this
  have nfm:f≠m:=fun z=>by have:=free5 f hf;rw[z,hm5]at this;cases this
  have nrd:rd≠u∧rd≠k∧rd≠f:=⟨Zb hr5 hu5,Zb hr5 (free5 k hk),Zb hr5 (free5 f hf)⟩
  have hsz:(kvM L).length<sizeLine:=by unfold kvM;rw[Qa];exact ZE (by omega)
  have hn1:Z6 (kvM L) (.inl (i:Int))=none:=by
   cases hv:Z6 (kvM L) (.inl (i:Int)) with
   | none=>rfl
   | some v=>obtain⟨e,he,z⟩:=Qp.mp (ZfF hv);injection z with z _;exact absurd (Sum.inl.inj z) (hlt e he)
  refine⟨_,rfl,m,cMerge,dx,_,_,rfl,s9 _ _ hm5,T.cl_Merge,T.na_Merge_rows,lkr,_,rfl,rd,_,rfl,ZdW.k (k:=.inl (i:Int)) (s9 _ _ hr5) hsz,?_⟩
  rw[Zcr _ hn1,show kvM L++[((.inl (i:Int):Key),V.ref u)]=kvM (L++[⟨(i:Int),u,k,f,x.2,0⟩]) by unfold kvM;rw[Qh];rfl]
  refine⟨L++[⟨(i:Int),u,k,f,x.2,0⟩],_,_,rfl,by rw[Zc nmr];exact s9 _ _ hm5,Zf,fun e he=>?_,⟨?_,?_⟩,?_,fun e he=>?_,fun b o hb n=>?_⟩
  ·rcases Qk.mp he with he|he
   ·have re:=each e he
    obtain⟨de,hde⟩:=re.at'.ob
    refine re.mono fun b o hb hor=>?_
    have nb:b≠rd:=fun z=>by
     rw[z,hr5]at hb
     injection hb with hb
     subst hb
     rcases hor with z2|z2|z2
     ·rw[← z2,z,hr5]at hde;cases hde
     ·have:=re.at'.ks;rw[← z2,z,hr5]at this;cases this
     ·have:=re.at'.fs;rw[← z2,z,hr5]at this;cases this
    rw[Zc nb];exact s9 b o hb
   ·rw[Ql.mp he]
    refine ZcW.keep (H:=H9) ⟨R,Qn _,l100,hsrt x hxm,laz⟩ (Zc nrd.1.symm) (Zc nrd.2.1.symm) (Zc nrd.2.2.symm)
  ·unfold Zw at n1 ⊢
   rw[Qh,n1,Qy,Qy,Nat.min_eq_left (by omega),Nat.min_eq_left (by omega)]
   unfold Zek
   rw[List.range_succ,Qh]
   simp
  ·rw[Qh,n2,QI,hz,Qh];rfl
  ·rw[Qh]
   refine List.nodup_append.mpr ⟨pd,by simp,fun a ha b hb=>?_⟩
   obtain⟨e,he,rfl⟩:=Qp.mp ha
   have:b=u:=by simpa using hb
   rw[this]
   obtain⟨de,hde⟩:=(each e he).at'.ob
   exact Zb hde hu5
  ·rcases Qk.mp he with he|he
   ·exact hfr e he
   ·rw[Ql.mp he]
    exact⟨free0 u num hu5,free0 k nkm (free5 k hk),free0 f nfm (free5 f hf)⟩
  ·rw[Zc (Zb hb hrd)];exact s9 b o (k5 b o hb n)
 ·rintro σ H5 ⟨L,v2,v3,rfl,hm5,hr5,each,hnew,pd,hfr,k5⟩
  rw[Qa,Qx (Qg _)]at hnew
  have p1:=ZbB "rows" (V.ref rd) []
  have p2:=ZbB "next_number" (V.int (rs.length:Int)) (Zn "rows" (.ref rd) [])
  have p3:=ZbB "likened" (V.int 0) (Zn "next_number" (.int (rs.length:Int)) (Zn "rows" (.ref rd) []))
  have p4:=ZbB "looked" (V.int 0) (Zn "likened" (.int 0) (Zn "next_number" (.int (rs.length:Int)) (Zn "rows" (.ref rd) [])))
  have p0:([]:List (Str×V)).length=0:=rfl
  refine⟨_,rfl,r,_,rfl,.inl (SqL.of (k5 _ _ hrs.at' nrm)),_,rfl,m,cMerge,dx,_,rfl,hm5,T.cl_Merge,T.na_Merge_next_number,by omega,?_⟩
  rw[Qa]
  refine⟨_,rfl,m,cMerge,dx,_,rfl,Zf,T.cl_Merge,T.na_Merge_likened,by omega,?_⟩
  refine⟨_,rfl,m,cMerge,dx,_,rfl,Zf,T.cl_Merge,T.na_Merge_looked,by omega,?_⟩
  have k8:∀b,b≠m→(upd (upd (upd H5 m (.ins cMerge dx (Zn "next_number" (.int (rs.length:Int)) (Zn "rows" (.ref rd) [])))) m (.ins cMerge dx (Zn "likened" (.int 0) (Zn "next_number" (.int (rs.length:Int)) (Zn "rows" (.ref rd) []))))) m (.ins cMerge dx (Zn "looked" (.int 0) (Zn "likened" (.int 0) (Zn "next_number" (.int (rs.length:Int)) (Zn "rows" (.ref rd) [])))))) b=H5 b:=fun b n=>by rw[Zc n,Zc n,Zc n]
  have hm8:(upd (upd (upd H5 m (.ins cMerge dx (Zn "next_number" (.int (rs.length:Int)) (Zn "rows" (.ref rd) [])))) m (.ins cMerge dx (Zn "likened" (.int 0) (Zn "next_number" (.int (rs.length:Int)) (Zn "rows" (.ref rd) []))))) m (.ins cMerge dx (Zn "looked" (.int 0) (Zn "likened" (.int 0) (Zn "next_number" (.int (rs.length:Int)) (Zn "rows" (.ref rd) [])))))) m=some (.ins cMerge dx (Zn "looked" (.int 0) (Zn "likened" (.int 0) (Zn "next_number" (.int (rs.length:Int)) (Zn "rows" (.ref rd) []))))):=Zf
  generalize (upd (upd (upd H5 m (.ins cMerge dx (Zn "next_number" (.int (rs.length:Int)) (Zn "rows" (.ref rd) [])))) m (.ins cMerge dx (Zn "likened" (.int 0) (Zn "next_number" (.int (rs.length:Int)) (Zn "rows" (.ref rd) []))))) m (.ins cMerge dx (Zn "looked" (.int 0) (Zn "likened" (.int 0) (Zn "next_number" (.int (rs.length:Int)) (Zn "rows" (.ref rd) []))))))=H8 at k8 hm8 ⊢
  refine fun sd hsd=>?_
  have nms:m≠sd:=Zb hm8 hsd
  have p5:=ZbB "stays" (V.ref sd) (Zn "looked" (.int 0) (Zn "likened" (.int 0) (Zn "next_number" (.int (rs.length:Int)) (Zn "rows" (.ref rd) []))))
  refine⟨_,rfl,m,cMerge,dx,_,rfl,by rw[Zc nms];exact hm8,T.cl_Merge,T.na_Merge_stays,by omega,?_⟩
  refine⟨_,rfl,m,cMerge,dx,_,rfl,Zf,T.cl_Merge,T.na_Merge_best,by omega,?_⟩
  have hsd5:H5 sd=none:=by rw[← k8 sd nms.symm];exact hsd
  have hm9:(upd (upd (upd H8 sd (.dT [])) m (.ins cMerge dx (Zn "stays" (.ref sd) (Zn "looked" (.int 0) (Zn "likened" (.int 0) (Zn "next_number" (.int (rs.length:Int)) (Zn "rows" (.ref rd) []))))))) m (.ins cMerge dx (Zn "best" .non (Zn "stays" (.ref sd) (Zn "looked" (.int 0) (Zn "likened" (.int 0) (Zn "next_number" (.int (rs.length:Int)) (Zn "rows" (.ref rd) [])))))))) m=some (.ins cMerge dx (mgF rd (rs.length:Int) 0 0 sd .non)):=by rw[Zba];exact Zf
  have hs9:(upd (upd (upd H8 sd (.dT [])) m (.ins cMerge dx (Zn "stays" (.ref sd) (Zn "looked" (.int 0) (Zn "likened" (.int 0) (Zn "next_number" (.int (rs.length:Int)) (Zn "rows" (.ref rd) []))))))) m (.ins cMerge dx (Zn "best" .non (Zn "stays" (.ref sd) (Zn "looked" (.int 0) (Zn "likened" (.int 0) (Zn "next_number" (.int (rs.length:Int)) (Zn "rows" (.ref rd) [])))))))) sd=some (.dT (kvS [])):=by rw[Zc nms.symm,Zc nms.symm];exact Zf
  have k9:∀b o,H5 b=some o→b≠m→(upd (upd (upd H8 sd (.dT [])) m (.ins cMerge dx (Zn "stays" (.ref sd) (Zn "looked" (.int 0) (Zn "likened" (.int 0) (Zn "next_number" (.int (rs.length:Int)) (Zn "rows" (.ref rd) []))))))) m (.ins cMerge dx (Zn "best" .non (Zn "stays" (.ref sd) (Zn "looked" (.int 0) (Zn "likened" (.int 0) (Zn "next_number" (.int (rs.length:Int)) (Zn "rows" (.ref rd) [])))))))) b=some o:=fun b o hb n=>by rw[Zc n,Zc n,Zc (Zb hb hsd5),k8 b n];exact hb
  generalize (upd (upd (upd H8 sd (.dT [])) m (.ins cMerge dx (Zn "stays" (.ref sd) (Zn "looked" (.int 0) (Zn "likened" (.int 0) (Zn "next_number" (.int (rs.length:Int)) (Zn "rows" (.ref rd) []))))))) m (.ins cMerge dx (Zn "best" .non (Zn "stays" (.ref sd) (Zn "looked" (.int 0) (Zn "likened" (.int 0) (Zn "next_number" (.int (rs.length:Int)) (Zn "rows" (.ref rd) []))))))))=H9 at hm9 hs9 k9 ⊢
  have hLl:L.length=rs.length:=by have:=congrArg List.length hnew.1;unfold Zw at this;rw[Qa,Zeb]at this;exact this
  have M9:ZQ cRow cMerge H9 m rd sd L [] (rs.length:Int) 0 0 .non:=by
   refine⟨⟨dx,hm9⟩,k9 _ _ hr5 nmr.symm,hs9,(fun e he=>by cases he),fun e he=>?_,by rw[hnew.1];exact Zl3 _,pd,by omega,by decide⟩
   have re:=each e he
   obtain⟨de,hde⟩:=re.at'.ob
   refine re.mono fun b o hb hor=>k9 b o hb fun z=>?_
   have hf:=hfr e he
   have hm':=hm
   rw[← z]at hm'
   rcases hor with z2|z2|z2
   ·rw[z2,hf.1]at hm';cases hm'
   ·rw[z2,hf.2.1]at hm';cases hm'
   ·rw[z2,hf.2.2]at hm';cases hm'
  refine⟨_,rfl,m,dx,_,rfl,hm9,ZbT ..,m,rd,sd,L,[],_,0,0,.non,rfl,M9,fun sd' s' w1 k q' H10 hsd' W S Pl M10 b10=>?_⟩
  have free0:∀b,b≠m→H9 b=none→H b=none:=fun b nb hb=>by
   cases e:H b with
   | none=>rfl
   | some o=>rw[k9 b o (k5 b o e nb) nb]at hb;cases hb
  refine q rd sd' L s' w1 k q' H10 (M10.cast (by omega) (by omega)) hnew W S Pl (fun b hb=>?_) (fun b o hb n=>b10 b o (k9 b o (k5 b o hb n) n) n)
  rcases hb with rfl|rfl|rfl|⟨e,he,hb⟩
  ·exact .inl rfl
  ·exact .inr hrd
  ·exact .inr (free0 _ (fun z=>by rw[z,hm9]at hsd';cases hsd') hsd')
  ·have hf:=hfr e he
   rcases hb with rfl|rfl|rfl
   ·exact .inr hf.1
   ·exact .inr hf.2.1
   ·exact .inr hf.2.2
def spLik(cR cM:Addr):Sp:=fun vs H Q _=>∃ (m rd sd:Addr) (L:List Zr) (s:StL) (nb li lo:Int) (best:V),vs=[.ref m]∧ZQ cR cM H m rd sd L s nb li lo best∧Q (.int li) H
def spLks(cR cM:Addr):Sp:=fun vs H Q _=>∃ (m rd sd:Addr) (L:List Zr) (s:StL) (nb li lo:Int) (best:V),vs=[.ref m]∧ZQ cR cM H m rd sd L s nb li lo best∧Q (.int lo) H
def Zfl(cR cM:Addr):Sp:=fun vs H Q _=>∃ (m rd sd:Addr) (L:List Zr) (s:StL) (nb li lo:Int) (w:Option Int),vs=[.ref m]∧ZQ cR cM H m rd sd L s nb li lo (Zbq w)∧Win (hdM L) (Zw L) w∧∀ (x:V) (H':Hp),ZnP (L.map toL) H' x→Zz H H'→Q x H'
theorem Zj3(T:Zao K mg cRow cMerge)(f_Row_head:Mf P w K mg base 2 cRow "head" ["self"] (ZeD cRow)):Mf P w K mg base 3 cMerge "coming" ["self"] (Zfl cRow cMerge):=by
 refine T.t_Merge_coming.mf ZcX (fun vs H Q E h=>?_) (fun cdv f A outer s H vs Q E hr h=>?_)
 ·obtain⟨m,rd,sd,L,s,nb,li,lo,w,rfl,_⟩:=h
  rfl
 obtain⟨m,rd,sd,L,s,nb,li,lo,w,rfl,M,W,q⟩:=h
 refine⟨_,#[Zd,#[Zac,#[Zk,Zbs,#[ZN,‹0›],#[ZS],(Zo _)],#[Zi,#[Zq,#[ZS]]],#[ZG]],#[Zd,#[Zx,1,ZcX.nd,(Or.inl rfl),#[ZF,(ixG hr),#[ZN,‹0›],#[ZN,‹0›]]],#[Zi,#[Zq,#[Zbf,#[Za,#[ZN,‹0›],#[Za,#[ZN,‹1›],#[Za,#[ZaA,f_Row_head,T.cl_Row,hr,‹1›],#[Zg]]]]]]]]],?_⟩
 obtain⟨dx,hm⟩:=M.ob
 refine⟨_,rfl,m,cMerge,dx,_,_,rfl,hm,T.cl_Merge,T.na_Merge_best,Zd9 ..,rfl,_,rfl,?_⟩
 have W':Win (hdL (L.map toL)) ((L.map toL).map (·.1)) w:=by rw[Zby];exact W
 cases w with
 | none=>exact Zcm rfl (q _ H (.inl ⟨rfl,W'⟩) (Zz.refl H))
 | some a =>
  obtain⟨e,he,rfl⟩:=Zc8 W.1
  have R:=M.each e he
  obtain⟨dp,hp⟩:=R.at'.ob
  have hd:=Zb6 M.nd he
  cases hx:e.ss[e.g]? with
  | none=>obtain⟨_,z,hz,_⟩:=W;rw[hd,hx]at hz;cases hz
  | some x =>
  refine ZbC (fun z=>nomatch z) ?_
  refine⟨_,rfl,m,cMerge,dx,_,_,rfl,hm,T.cl_Merge,T.na_Merge_rows,Zak ..,_,rfl,m,cMerge,dx,_,_,rfl,hm,T.cl_Merge,T.na_Merge_best,Zd9 ..,rd,_,rfl,Za7.k' (k:=.inl e.n) M.rows (Zdn M.nd he),?_⟩
  refine⟨_,rfl,m,cMerge,dx,_,_,rfl,hm,T.cl_Merge,T.na_Merge_best,Zd9 ..,_,rfl,e.p,cRow,dp,_,_,rfl,hp,T.cl_Row,T.na_Row_gone,Zcc ..,_,rfl,e.p,dp,_,rfl,hp,Za9 ..,e.p,e.k,e.f,e.ss,e.g,rfl,R.at',(by show 3≤sizeLine;decide),fun t ht=>?_⟩
  rw[Zeh hx]
  exact q _ _ (.inr ⟨t,toL e,x,rfl,Qf he,hx,Zf,W'⟩) (Zl ht _)
def Zmz(cR cM:Addr):Sp:=fun vs H Q _=>∃ (m rd sd:Addr) (L:List Zr) (s:StL) (nb li lo:Int) (best:V),vs=[.ref m]∧ZQ cR cM H m rd sd L s nb li lo best∧∀H':Hp,Zz H H'→Q (.int (Zdh (L.map toL)).sum) H'
theorem ZgP(k f:Addr)(g:Int):(ZbX k f g).lookup ("to_go" : Str)=none:=ZeX _ _ _ (by ac_rfl) (by ac_rfl) (by ac_rfl)
theorem Zl6(T:Zao K mg cRow cMerge)(f_Row_to_go:Mf P w K mg base 1 cRow "to_go" ["self"] (ZgT cRow)):Mf P w K mg base 2 cMerge "left" ["self"] (Zmz cRow cMerge):=by
 refine T.t_Merge_left.mf ZfS (fun vs H Q E h=>?_) (fun cdv f A outer s H vs Q E hr h=>?_)
 ·obtain⟨m,rd,sd,L,s,nb,li,lo,best,rfl,_⟩:=h
  rfl
 obtain⟨m,rd,sd,L,s,nb,li,lo,best,rfl,M,q⟩:=h
 refine⟨_,#[Zi,#[Zq,#[Zu,(ZpK K),T.b.n_sum,boot_sum,#[Za,(@Zi2 _ _ _ #[ZbH,Zn2,(@ZmU _ _ _ _ _ _ #[ZN,‹0›] (by rfl) (by rfl)),(fun _ _ _ _=>#[cg,1,Zn2]),(fun _ _ _ _=>(@ZcH _)),(fun _ _ _ _=>#[ZaA,f_Row_to_go,T.cl_Row,hr,#[cw,1,Zn2]])]),#[Zg]]]]],?_⟩
 obtain⟨dx,hm⟩:=M.ob
 have hfew:=M.few
 refine⟨rd,_,M.rows,True.intro,_,rfl,m,cMerge,dx,_,_,rfl,hm,T.cl_Merge,T.na_Merge_rows,Zak ..,rd,_,rfl,M.rows,fun ob B hB=>?_⟩
 have hfz:(upd H rd (.frz ob (.dK (kvM L)))) rd=some (.frz ob (.dK (kvM L))):=Zf
 have k1:∀b x,H b=some x→b≠rd→(upd H rd (.frz ob (.dK (kvM L)))) b=some x:=fun b x h n=>by rw[Zc n];exact h
 generalize upd H rd (.frz ob (.dK (kvM L)))=H1 at hfz k1 hB ⊢
 refine Znj (d:=rd) (o:=ob) (kvs:=kvM L) (fun i zs σ H2=>(∃v:Option V,σ=[some (.ref m),v])∧zs=(Zdh ((L.take i).map toL)).map V.int∧i≤L.length∧H2 B=some (.lst zs)∧Zz H1 H2) ?_ (fun _ _ _ _ h=>h.2.2.2.2 _ _ hfz) ?_ ?_
 ·exact⟨⟨none,rfl⟩,rfl,Qn _,Zf,Zl hB _⟩
 ·rintro i k x zs σ H2 hkx ⟨⟨v,rfl⟩,rfl,hi,hB2,s2⟩
  unfold kvM at hkx
  rw[Qv]at hkx
  cases hu:L[i]? with
  | none=>rw[hu]at hkx;cases hkx
  | some e =>
  rw[hu]at hkx
  cases hkx
  have hil:i<L.length:=(Qc.mp hu).1
  have he:=Qq hu
  have R:=M.each e he
  obtain⟨_,_,_,n1,n2,n3⟩:=M.ne_sd he
  have R2:ZcW cRow H2 e:=R.mono fun b o hb hor=>s2 _ _ (k1 b o hb (by rcases hor with z|z|z<;>rw[z];exact n1.symm;exact n2.symm;exact n3.symm))
  obtain⟨dp,hp⟩:=R2.at'.ob
  refine⟨_,rfl,e.p,dp,_,rfl,hp,ZgP ..,e.p,e.k,e.f,e.ss,e.g,rfl,R2.at',hB2,(by unfold Zdh;rw[Qa,Qa,Qa,Qy];exact ZE (by omega)),⟨_,rfl⟩,?_,hil,Zf,fun b x hb=>?_⟩
  ·rw[QI,hu,Qh]
   unfold Zdh
   rw[Qh,Qh];rfl
  ·rw[Zc (Zb hb hB)];exact s2 b x hb
 rintro zs σ H2 ⟨⟨v,rfl⟩,rfl,_,hB2,s2⟩
 have hkl:(kvM L).length=L.length:=by unfold kvM;rw[Qa]
 rw[hkl,Qx (Qg _)]at hB2
 refine⟨ob,s2 _ _ hfz,?_⟩
 have hB3:(upd H2 rd (.dK (kvM L))) B=some (.lst ((Zdh (L.map toL)).map V.int)):=by rw[Zc (Zb hfz hB).symm];exact hB2
 have s3:Zz H (upd H2 rd (.dK (kvM L))):=fun b x hb=>by
  by_cases e:b=rd
  ·rw[e,M.rows]at hb;rw[e,Zf];exact hb
  ·rw[Zc e];exact s2 _ _ (k1 b x hb e)
 generalize upd H2 rd (.dK (kvM L))=H3 at hB3 s3 ⊢
 refine⟨B,Zdh (L.map toL),rfl,SqL.of hB3,(by unfold Zdh;rw[Qa,Qa];omega),fun n hn=>?_,q H3 s3⟩
 unfold Zdh at hn
 obtain⟨e',he',rfl⟩:=Qp.mp hn
 obtain⟨e,he,rfl⟩:=Qp.mp he'
 have R:=M.each e he
 have a1:=R.le
 have a2:=R.len
 show 0≤((e.ss.length:Int)-(e.g:Int))∧((e.ss.length:Int)-(e.g:Int))≤_
 omega
def Zj6(L:List ZaQ):List (Int×Option Str):=L.map fun e=>(e.1,e.2.2.1[e.2.2.2]?)
def Zjr(H:Hp)(l:Addr)(E:List (Int×Option Str)):Prop:=∃ts:List (Addr×Int×Option Str),ts.map (·.2)=E∧H l=some (.lst (ts.map fun t=>V.ref t.1))∧∀t∈ts,H t.1=some (.tup [.int t.2.1,oV t.2.2])
theorem ZhK(ss:List Str)(g:Nat):Zd2 ss g=oV ss[g]?:=by unfold Zd2 oV;cases ss[g]?<;>rfl
def ZhD(cR cM:Addr):Sp:=fun vs H Q _=>∃ (m rd sd:Addr) (L:List Zr) (s:StL) (nb li lo:Int) (best:V),vs=[.ref m]∧ZQ cR cM H m rd sd L s nb li lo best∧∀ (l:Addr) (H':Hp),H l=none→Zjr H' l (Zj6 (L.map toL))→Zz H H'→Q (.ref l) H'
theorem ZjK(T:Zao K mg cRow cMerge)(f_Row_head:Mf P w K mg base 2 cRow "head" ["self"] (ZeD cRow)):Mf P w K mg base 3 cMerge "heads" ["self"] (ZhD cRow cMerge):=by
 refine T.t_Merge_heads.mf Zfv (fun vs H Q E h=>?_) (fun cdv f A outer s H vs Q E hr h=>?_)
 ·obtain⟨m,rd,sd,L,s,nb,li,lo,best,rfl,_⟩:=h
  rfl
 obtain⟨m,rd,sd,L,s,nb,li,lo,best,rfl,M,q⟩:=h
 refine⟨_,#[Zi,#[Zq,(@Zi2 _ _ _ #[ZbH,ZlX,(@ZlV _ _ _ _ _ _ _ _ #[ZN,‹0›] (by rfl) (by rfl)),(fun _ _ _ _=>#[gT,K,2,#[Zv,#[cg,1,ZlX],#[Zv,#[cg,2,ZlX],(@Zas _)]]]),(fun _ _ _ _=>(@ZcH _)),(fun _ _ _ _=>#[Zbf,#[Za,#[cw,1,ZlX],#[Za,#[ZaA,f_Row_head,T.cl_Row,hr,#[cw,2,ZlX]],#[Zg]]]])])]],?_⟩
 obtain⟨dx,hm⟩:=M.ob
 have hfew:=M.few
 refine⟨rd,_,M.rows,True.intro,_,rfl,m,cMerge,dx,_,_,rfl,hm,T.cl_Merge,T.na_Merge_rows,Zak ..,rd,_,rfl,M.rows,fun ob B hB=>?_⟩
 have hfz:(upd H rd (.frz ob (.dK (kvM L)))) rd=some (.frz ob (.dK (kvM L))):=Zf
 have k1:∀b x,H b=some x→b≠rd→(upd H rd (.frz ob (.dK (kvM L)))) b=some x:=fun b x h n=>by rw[Zc n];exact h
 have hB0:H B=none:=by
  cases e:H B with
  | none=>rfl
  | some o =>
   by_cases z:B=rd
   ·rw[z]at hB;rw[show (upd H rd (.frz ob (.dK (kvM L)))) rd=some (.frz ob (.dK (kvM L))) from Zf]at hB;cases hB
   ·rw[k1 B o e z]at hB;cases hB
 generalize upd H rd (.frz ob (.dK (kvM L)))=H1 at hfz k1 hB ⊢
 refine Zm8 (d:=rd) (o:=ob) (kvs:=kvM L) (fun i zs σ H2=>(∃v1 v2:Option V,σ=[some (.ref m),v1,v2])∧(∃ts:List (Addr×Int×Option Str),ts.map (·.2)=Zj6 ((L.take i).map toL)∧zs=(ts.map fun t=>V.ref t.1)∧∀t∈ts,H2 t.1=some (.tup [.int t.2.1,oV t.2.2])∧t.1≠B∧t.1≠rd)∧i≤L.length∧H2 B=some (.lst zs)∧Zz H1 H2) ?_ (fun _ _ _ _ h=>h.2.2.2.2 _ _ hfz) ?_ ?_
 ·exact⟨⟨none,none,rfl⟩,⟨[],rfl,rfl,(fun t h=>by cases h)⟩,Qn _,Zf,Zl hB _⟩
 ·rintro i k x zs σ H2 p hkx ⟨⟨v1,v2,rfl⟩,⟨ts,hts,rfl,hall⟩,hi,hB2,s2⟩ hp0
  unfold kvM at hkx
  rw[Qv]at hkx
  cases hu:L[i]? with
  | none=>rw[hu]at hkx;cases hkx
  | some e =>
  rw[hu]at hkx
  cases hkx
  have hil:i<L.length:=(Qc.mp hu).1
  have he:=Qq hu
  have R:=M.each e he
  obtain⟨_,_,_,n1,n2,n3⟩:=M.ne_sd he
  have s3:=Zl hp0 (.tup [kV (.inl e.n),.ref e.p])
  have hp3:(upd H2 p (.tup [kV (.inl e.n),.ref e.p])) p=some (.tup [.int e.n,.ref e.p]):=Zf
  generalize upd H2 p (.tup [kV (.inl e.n),.ref e.p])=H3 at s3 hp3 ⊢
  have R2:ZcW cRow H3 e:=R.mono fun b o hb hor=>s3 _ _ (s2 _ _ (k1 b o hb (by rcases hor with z|z|z<;>rw[z];exact n1.symm;exact n2.symm;exact n3.symm)))
  obtain⟨dp,hp⟩:=R2.at'.ob
  have hB3:=s3 _ _ hB2
  have hf3:=s3 _ _ (s2 _ _ hfz)
  have hlen:ts.length=i:=by have:=congrArg List.length hts;unfold Zj6 at this;rw[Qa,Qa,Qa,Qy]at this;omega
  refine⟨p,_,rfl,SqT.of hp3,rfl,_,_,rfl,_,_,rfl,rfl,_,rfl,_,rfl,e.p,dp,_,rfl,hp,Za9 ..,e.p,e.k,e.f,e.ss,e.g,rfl,R2.at',(by show 2≤sizeLine;decide),fun t ht=>?_⟩
  rw[ZhK]
  have nBt:B≠t:=Zb hB3 ht
  have nrt:rd≠t:=Zb hf3 ht
  refine⟨by rw[Zc nBt];exact hB3,(by rw[Qa];exact ZE (by omega)),⟨_,_,rfl⟩,⟨ts++[(t,e.n,e.ss[e.g]?)],?_,by rw[Qh];rfl,fun u hu'=>?_⟩,hil,Zf,fun b x hb=>?_⟩
  ·rw[Qh,hts,QI,hu,Qh]
   unfold Zj6
   rw[Qh];rfl
  ·rcases Qk.mp hu' with hu'|hu'
   ·obtain⟨g1,g2,g3⟩:=hall u hu'
    have:=s3 _ _ g1
    exact⟨by rw[Zc g2,Zc (Zb this ht)];exact this,g2,g3⟩
   ·rw[Ql.mp hu']
    exact⟨by rw[Zc nBt.symm];exact Zf,nBt.symm,nrt.symm⟩
  ·have:=s3 b x (s2 b x hb)
   rw[Zc (Zb hb hB),Zc (Zb this ht)];exact this
 rintro zs σ H2 ⟨⟨v1,v2,rfl⟩,⟨ts,hts,rfl,hall⟩,_,hB2,s2⟩
 have hkl:(kvM L).length=L.length:=by unfold kvM;rw[Qa]
 rw[hkl,Qx (Qg _)]at hts
 refine⟨ob,s2 _ _ hfz,?_⟩
 have nBr:B≠rd:=(Zb hfz hB).symm
 refine q B _ hB0 ⟨ts,hts,by rw[Zc nBr];exact hB2,fun t ht=>?_⟩ (fun b x hb=>?_)
 ·obtain⟨g1,g2,g3⟩:=hall t ht
  rw[Zc g3];exact g1
 ·by_cases e:b=rd
  ·rw[e,M.rows]at hb;rw[e,Zf];exact hb
  ·rw[Zc e];exact s2 _ _ (k1 b x hb e)
def Agr(Lo:List ZaQ)(L:List Zr):Prop:=Lo.map (fun e=>(e.1,e.2.2))=L.map (fun e=>(e.n,(e.ss,e.g)))
theorem Zjn:∀ (A B:List ZaQ),A.map (fun e=>(e.1,e.2.2))=B.map (fun e=>(e.1,e.2.2))→hdL A=hdL B
 | [],[],_=>rfl
 | [],_::_,h=>by cases h
 | _::_,[],h=>by cases h
 | a::A,b::B,h=>by
  rw[Qe,Qe]at h
  injection h with h1 h2
  injection h1 with h3 h4
  have ih:=Zjn A B h2
  funext n
  have ihn:=congrFun ih n
  unfold hdL at ihn ⊢
  rw[Qam,Qam,h3]
  split
  ·simp only[Option.bind_some];rw[h4]
  ·exact ihn
theorem ZgU{α β:Type}:∀ {P:List (α×β)},(P.map (·.1)).Nodup→∀ {p q:α×β},p∈P→q∈P→p.1=q.1→p=q
 | [],_,_,_,h,_,_=>by cases h
 | x::r,nd,p,q,hp,hq,e=>by
  rw[Qe,QK]at nd
  rcases QG.mp hp with h1|h1
  ·rcases QG.mp hq with h2|h2
   ·rw[h1,h2]
   ·exact absurd (show x.1∈r.map (·.1) by rw[← h1,e];exact Qf (f:=fun x:α×β=>x.1) h2) nd.1
  ·rcases QG.mp hq with h2|h2
   ·exact absurd (show x.1∈r.map (·.1) by rw[← h2,← e];exact Qf (f:=fun x:α×β=>x.1) h1) nd.1
   ·exact ZgU nd.2 h1 h2 e
def FlatV(x:V):Prop:=x=.non∨(∃b,x=.bl b)∨(∃i,x=.int i)∨∃s,x=.str s
structure F2 (R:V→V→Prop) (xs ys:List V):Prop where
 len:xs.length=ys.length
 at':∀ (i:Nat) (x y:V),xs[i]? = some x→ys[i]? = some y→R x y
theorem Zjr.same{H H':Hp}{l:Addr}{E:List (Int×Option Str)}(h:Zjr H l E)(s:Zz H H'):Zjr H' l E:=by
 obtain⟨ts,h1,h2,h3⟩:=h
 exact⟨ts,h1,s _ _ h2,fun t ht=>s _ _ (h3 t ht)⟩
theorem ZcS(rd:Addr)(nb li lo:Int)(sd:Addr)(best:V):(mgF rd nb li lo sd best).lookup ("coming" : Str)=none:=Zbo _ _ _ _ _ _ (by ac_rfl) (by ac_rfl) (by ac_rfl) (by ac_rfl) (by ac_rfl) (by ac_rfl)
theorem Ziy(rd:Addr)(nb li lo:Int)(sd:Addr)(best:V):(mgF rd nb li lo sd best).lookup ("left" : Str)=none:=Zbo _ _ _ _ _ _ (by ac_rfl) (by ac_rfl) (by ac_rfl) (by ac_rfl) (by ac_rfl) (by ac_rfl)
theorem Zdj(rd:Addr)(nb li lo:Int)(sd:Addr)(best:V):(mgF rd nb li lo sd best).lookup ("heads" : Str)=none:=Zbo _ _ _ _ _ _ (by ac_rfl) (by ac_rfl) (by ac_rfl) (by ac_rfl) (by ac_rfl) (by ac_rfl)
def spStands(cR cM:Addr):Sp:=fun vs H Q _=>∃ (m rd sd:Addr) (L:List Zr) (s:StL) (nb li lo:Int) (w:Option Int) (o ra ga:Addr) (Lo:List ZaQ) (nb':Int),vs=[.ref m,.ref o]∧ZQ cR cM H m rd sd L s nb li lo (Zbq w)∧Win (hdM L) (Zw L) w∧Own H o ra ga Lo nb' li lo∧Agr Lo L∧∀H',Zz H H'→Q (.bl true) H'
def rowsD(rs:List (Addr×List Str)):PyData:=.list (rs.map fun x=>.list (x.2.map PyData.str))
def Zab(M:List Int)(n:Int):List Int:=if n∈lo M then lo M else up M
def Zan(M:List Int)(n:Int):List Int:=if n∈lo M then up M else lo M
def ZT:Nat→List Int→Int→List (List Int)
 | 0,_,_=>[]
 | k+1,M,n=>if 2≤M.length then ZT k (Zab M n) n++[M] else []
inductive Sub (N:List Int):List Int→Prop
 | top:Sub N N
 | lo {M:List Int}:Sub N M→2≤M.length→Sub N (lo M)
 | up {M:List Int}:Sub N M→2≤M.length→Sub N (up M)
theorem Sub.trans{A B C:List Int}(h:Sub A B)(k:Sub B C):Sub A C:=by
 induction k with
 | top=>exact h
 | lo _ h2 ih=>exact ih.lo h2
 | up _ h2 ih=>exact ih.up h2
theorem Sub.rise{N M:List Int}(h:Sub N M)(r:Z9 N):Z9 M:=by
 induction h with
 | top=>exact r
 | lo _ _ ih=>exact Zdt ih
 | up _ _ ih=>exact Zdq ih
theorem Sub.mem{N M:List Int}(h:Sub N M){x:Int}(hx:x∈M):x∈N:=by
 induction h with
 | top=>exact hx
 | lo _ _ ih=>exact ih (List.mem_of_mem_take hx)
 | up _ _ ih=>exact ih (List.mem_of_mem_drop hx)
theorem Zhp{M:List Int}(h:2≤M.length)(n:Int):Sub M (Zab M n):=by
 unfold Zab
 split
 ·exact Sub.top.lo h
 ·exact Sub.top.up h
theorem Zdm{M:List Int}{n:Int}(h:n∈M):n∈Zab M n:=by
 unfold Zab
 split
 ·assumption
 ·rename_i hn
  rw[← ZbS M]at h
  exact(Qk.mp h).resolve_left hn
theorem Ze8{M:List Int}(r:Z9 M){n:Int}(hn:n∈Zab M n):n ∉ Zan M n:=by
 intro h
 unfold Zan Zab at *
 split at h
 ·rename_i hl
  have:=ZH r hl h
  omega
 ·rename_i hl;exact hl h
theorem Zew(M:List Int)(n:Int):(Zab M n++Zan M n).Perm M:=by
 unfold Zab Zan
 split
 ·rw[ZbS]
 ·exact List.perm_append_comm.trans (by rw[ZbS])
def Kys(M:List Int)(k:Int×Int):Prop:=∃M',Sub M M'∧2≤M'.length∧k=ZL M'
theorem ZgR{M:List Int}{k:Int×Int}(h:Kys M k):k.1∈M∧k.2∈M:=by
 obtain⟨M',s,h2,rfl⟩:=h
 have hn:M'≠[]:=Z3 (by omega)
 exact⟨s.mem (ZbN hn),s.mem (ZbL hn)⟩
theorem Zlj{M:List Int}(r:Z9 M)(h2:2≤M.length){k:Int×Int}(h:Kys (lo M) k):k≠ZL M∧¬ Kys (up M) k:=by
 have:=ZgR h
 refine⟨fun z=>?_,fun m=>?_⟩
 ·have h1:=Zer h2
  rw[z,h1]at this
  have:=ZH r this.2 (ZbL (Z3 (ZdQ h2).2))
  omega
 ·have:=ZH r this.1 (ZgR m).1
  omega
theorem ZlL{M:List Int}(r:Z9 M)(h2:2≤M.length){k:Int×Int}(h:Kys (up M) k):k≠ZL M∧¬ Kys (lo M) k:=by
 have:=ZgR h
 refine⟨fun z=>?_,fun m=>?_⟩
 ·have h1:=ZeL h2
  rw[z,h1]at this
  have:=ZH r (ZbN (Z3 (Zda h2).2)) this.1
  omega
 ·have:=ZH r (ZgR m).1 this.1
  omega
theorem ZhX{M:List Int}(r:Z9 M)(h2:2≤M.length){n:Int}{k:Int×Int}(h:Kys (Zab M n) k):k≠ZL M∧¬ Kys (Zan M n) k:=by
 unfold Zab at h
 unfold Zan
 split
 ·rename_i hl;rw[if_pos hl]at h;exact Zlj r h2 h
 ·rename_i hl;rw[if_neg hl]at h;exact ZlL r h2 h
theorem Zho{M:List Int}(r:Z9 M)(h2:2≤M.length){n:Int}{k:Int×Int}(h:Kys (Zan M n) k):k≠ZL M∧¬ Kys (Zab M n) k:=by
 unfold Zan at h
 unfold Zab
 split
 ·rename_i hl;rw[if_pos hl]at h;exact ZlL r h2 h
 ·rename_i hl;rw[if_neg hl]at h;exact Zlj r h2 h
theorem Zep{M M':List Int}(h:Sub M M'):M'=M∨(2≤M.length∧(Sub (lo M) M'∨Sub (up M) M')):=by
 induction h with
 | top=>exact .inl rfl
 | lo h h2 ih =>
  rcases ih with rfl|⟨g,ih⟩
  ·exact .inr ⟨h2,.inl .top⟩
  ·exact .inr ⟨g,ih.imp (fun z=>z.lo h2) (fun z=>z.lo h2)⟩
 | up h h2 ih =>
  rcases ih with rfl|⟨g,ih⟩
  ·exact .inr ⟨h2,.inr .top⟩
  ·exact .inr ⟨g,ih.imp (fun z=>z.up h2) (fun z=>z.up h2)⟩
theorem Zlg{M M':List Int}(n:Int)(h:Sub M M'):M'=M∨(2≤M.length∧(Sub (Zab M n) M'∨Sub (Zan M n) M')):=by
 rcases Zep h with h|⟨g,h⟩
 ·exact .inl h
 ·refine .inr ⟨g,?_⟩
  unfold Zab Zan
  split
  ·exact h
  ·exact h.symm
def ZdI(hd:Hd)(s:StL)(A B:List Int)(k:Int×Int):Prop :=
 (∀a b x y,Win hd A (some a)→Win hd B (some b)→hd a=some x→hd b=some y→∃t lz,ZP s k=some (some (t,lz,((lcp x y:Nat):Int)))∧((Btr x a y b∧lz=b)∨(Btr y b x a∧lz=a))) ∧
 ((Win hd A none∨Win hd B none)→ZP s k=none∨ZP s k=some none)
theorem ZdI.swap{hd:Hd}{s:StL}{A B:List Int}{k:Int×Int}(h:ZdI hd s A B k):ZdI hd s B A k:=by
 refine⟨fun a b x y wa wb hx hy=>?_,fun hw=>h.2 hw.symm⟩
 obtain⟨t,lz,e,o⟩:=h.1 b a y x wb wa hy hx
 exact⟨t,lz,by rw[ZbV x y];exact e,o.symm⟩
def ZU(hd:Hd)(s:StL)(N:List Int):Prop:=∀M,Sub N M→2≤M.length→ZdI hd s (lo M) (up M) (ZL M)
theorem ZU.sub{hd:Hd}{s:StL}{N M:List Int}(h:ZU hd s N)(k:Sub N M):ZU hd s M:=fun M' h' h2=>h M' (k.trans h') h2
theorem ZU.at_side{hd:Hd}{s:StL}{M:List Int}(h:ZU hd s M)(h2:2≤M.length)(n:Int):ZdI hd s (Zab M n) (Zan M n) (ZL M):=by
 have:=h M .top h2
 unfold Zab Zan
 split
 ·exact this
 ·exact this.swap
theorem Zfd:∀ (n:Nat) (hd:Hd) (s:StL) (N:List Int),Z9 N→N.length≤2 ^ (n-1)→0<n→ZcY hd s n N→ZU hd s N
 | 0,_,_,_,_,_,h,_=>absurd h (by omega)
 | n+1,hd,s,N,r,hl,_,h=>fun M hM h2=>by
  rw[Qaa]at hl
  rcases Zep hM with rfl|⟨g,hM⟩
  ·obtain⟨_,_,c1,c2⟩:=h h2
   refine⟨fun a b x y wa wb hx hy=>?_,c2⟩
   obtain⟨t,e⟩:=c1 a b x y wa wb hx hy
   have hab:=ZH r wa.1 wb.1
   by_cases hb:ZD x y<0∨(ZD x y=0∧a<b)
   ·rw[if_pos hb]at e;exact⟨t,b,e,.inl ⟨hb,rfl⟩⟩
   ·rw[if_neg hb]at e;exact⟨t,a,e,.inr ⟨(Btr.total (show a≠b by omega)).resolve_left hb,rfl⟩⟩
  ·obtain⟨h1,h3,_⟩:=h g
   have hn:1≤n:=by
    cases n with
    | zero=>simp at hl;omega
    | succ m=>omega
   have hp:2 ^ n=2*2 ^ (n-1):=by
    obtain⟨m,rfl⟩:∃m,n=m+1:=⟨n-1,by omega⟩
    rw[Nat.pow_succ,Qaa];omega
   rcases hM with hM|hM
   ·exact Zfd n hd s (lo N) (Zdt r) (by unfold lo mid;rw[Qy];omega) hn h1 M hM h2
   ·exact Zfd n hd s (up N) (Zdq r) (by unfold up mid;rw[QU];omega) hn h3 M hM h2
theorem ZdI.congr{hd hd':Hd}{s s':StL}{A B:List Int}{k:Int×Int}(h:ZdI hd s A B k)(ha:∀m∈A,hd' m=hd m)(hb:∀m∈B,hd' m=hd m)(hk:ZP s' k=ZP s k):ZdI hd' s' A B k:=by
 refine⟨fun a b x y wa wb hx hy=>?_,fun hw=>?_⟩
 ·rw[hk]
  exact h.1 a b x y (wa.congr fun m hm=>(ha m hm).symm) (wb.congr fun m hm=>(hb m hm).symm) (by rw[← ha a wa.1];exact hx) (by rw[← hb b wb.1];exact hy)
 ·rw[hk]
  exact h.2 (hw.imp (fun w=>w.congr fun m hm=>(ha m hm).symm) (fun w=>w.congr fun m hm=>(hb m hm).symm))
theorem ZU.congr{hd hd':Hd}{s s':StL}{M:List Int}(h:ZU hd s M)(hh:∀m∈M,hd' m=hd m)(hk:∀k,Kys M k→ZP s' k=ZP s k):ZU hd' s' M:=fun M' hM h2 =>
 (h M' hM h2).congr (fun m hm=>hh m (hM.mem (List.mem_of_mem_take hm))) (fun m hm=>hh m (hM.mem (List.mem_of_mem_drop hm))) (hk _ ⟨M',hM,h2,rfl⟩)
theorem Zj9{hd:Hd}{s:StL}{M:List Int}{n:Int}(h1:ZU hd s (Zab M n))(h3:ZU hd s (Zan M n))(h:ZdI hd s (Zab M n) (Zan M n) (ZL M)):ZU hd s M:=fun M' hM h2=>by
 rcases Zlg n hM with rfl|⟨g,hM|hM⟩
 ·unfold Zab Zan at h
  split at h
  ·exact h
  ·exact h.swap
 ·exact h1 M' hM h2
 ·exact h3 M' hM h2
def low(n:Int)(C:List (List Int)):Nat→List Int
 | 0=>[n]
 | i+1=>C.getD i []
theorem Zff:∀ (k:Nat) (M:List Int) (n:Int),n∈M→M.length≤2 ^ k→(∀i X,(ZT k M n)[i]? = some X→Sub M X∧2≤X.length∧n∈X∧Zab X n=low n (ZT k M n) i)∧low n (ZT k M n) (ZT k M n).length=M∧(ZT k M n).length≤k
 | 0,M,n,hn,hl=>by
  refine⟨fun i X h=>by unfold ZT at h;simp at h,?_,Qg _⟩
  have h1:M.length=1:=by
   have:=Qax hn
   simp at hl;omega
  obtain⟨x,rfl⟩:=Qaw.mp h1
  have:n=x:=by simpa using hn
  rw[this];rfl
 | k+1,M,n,hn,hl=>by
  unfold ZT
  by_cases h2:2≤M.length
  ·rw[if_pos h2]
   have hs:(Zab M n).length≤2 ^ k:=by
    rw[Nat.pow_succ]at hl
    unfold Zab
    split
    ·unfold lo mid;rw[Qy];omega
    ·unfold up mid;rw[QU];omega
   obtain⟨a,b,c⟩:=Zff k (Zab M n) n (Zdm hn) hs
   refine⟨fun i X h=>?_,?_,by rw[Qs,QF];omega⟩
   ·have lw:∀j,j≤(ZT k (Zab M n) n).length→low n (ZT k (Zab M n) n++[M]) j=low n (ZT k (Zab M n) n) j:=fun j hj=>by
     cases j with
     | zero=>rfl
     | succ j =>
      show (ZT k (Zab M n) n++[M]).getD j []=(ZT k (Zab M n) n).getD j []
      rw[QC,QC,QP (by omega)]
    by_cases hi:i<(ZT k (Zab M n) n).length
    ·rw[QP hi]at h
     obtain⟨g1,g2,g3,g4⟩:=a i X h
     exact⟨(Zhp h2 n).trans g1,g2,g3,by rw[lw i (by omega)];exact g4⟩
    ·have hi':i=(ZT k (Zab M n) n).length:=by
      have:=(Qc.mp h).1
      rw[Qs,QF]at this
      omega
     subst hi'
     rw[QN (Qg _),Nat.sub_self]at h
     cases h
     exact⟨.top,h2,hn,by rw[lw _ (Qg _),b]⟩
   ·rw[Qs,QF]
    show (ZT k (Zab M n) n++[M]).getD _ []=M
    rw[QC,QN (Qg _),Nat.sub_self];rfl
  ·rw[if_neg h2]
   refine⟨fun i X h=>by simp at h,?_,Qn _⟩
   have h1:M.length=1:=by have:=Qax hn;omega
   obtain⟨x,rfl⟩:=Qaw.mp h1
   have:n=x:=by simpa using hn
   rw[this];rfl
structure Tk (hd hd':Hd) (N:List Int) (n:Int) (z:List Nat):Prop where
 win:Win hd N (some n)
 key:hd n=some z
 oth:∀b,b≠n→hd' b=hd b
 nxt:∀x,hd' n=some x→ZD z x≤0
 up:Z9 N
theorem Tk.ge{hd hd':Hd}{N:List Int}{n:Int}{z:List Nat}(h:Tk hd hd' N n z){b:Int}(hb:b∈N){y:List Nat}(hy:hd' b=some y):ZD z y≤0:=by
 by_cases e:b=n
 ·exact h.nxt y (by rw[← e];exact hy)
 ·obtain⟨_,x,hx,hw⟩:=h.win
  rw[h.key]at hx
  cases hx
  rw[h.oth b e]at hy
  rcases hw b hb y hy with z|z
  ·exact absurd z e
  ·rcases z with z|z<;>omega
inductive Ag (hd:Hd) (z:List Nat):List (List Int×List Int)→Int→Int→Prop
 | nil:Ag hd z [] 0 0
 | no {C:List (List Int×List Int)} {A B:List Int} {k q:Int}:Ag hd z C k q→(Win hd A none∨Win hd B none)→Ag hd z (C++[(A,B)]) k q
 | eq {C:List (List Int×List Int)} {A B:List Int} {k q:Int} {a b:Int} {x y:List Nat}:Ag hd z C k q→Win hd A (some a)→Win hd B (some b)→hd a=some x→hd b=some y→lcp x z=lcp y z→Ag hd z (C++[(A,B)]) (k+1) (q+((lcp x y:Nat)-(lcp x z:Nat)+1))
 | ne {C:List (List Int×List Int)} {A B:List Int} {k q:Int} {a b:Int} {x y:List Nat}:Ag hd z C k q→Win hd A (some a)→Win hd B (some b)→hd a=some x→hd b=some y→lcp x z≠lcp y z→Ag hd z (C++[(A,B)]) (k+1) q
theorem ZiY:∀ (x z y:List Nat),lcp z y<lcp x z→ZD x y=ZD z y
 | [],z,y,h=>by rw[lcp_nil']at h;omega
 | _::_,[],y,h=>by rw[Zdv]at h;omega
 | a::x,b::z,[],h=>by unfold ZD;rfl
 | a::x,b::z,c::y,h=>by
  unfold lcp at h
  by_cases e:a=b
  ·subst e
   rw[if_pos rfl]at h
   by_cases e2:a=c
   ·subst e2
    rw[if_pos rfl]at h
    unfold ZD
    rw[if_pos rfl,if_pos rfl]
    exact ZiY x z y (by omega)
   ·unfold ZD
    rw[if_neg e2,if_neg e2]
  ·rw[if_neg e]at h;omega
theorem ZmA{x z y:List Nat}(h:lcp z y<lcp x z):lcp x y=lcp z y:=by
 have:=ZeJ x y z
 rw[ZbV y z]at this
 omega
theorem ZoR{x z y:List Nat}(h:lcp x z=lcp y z):lcp x z≤lcp x y:=by
 have:=ZeJ x y z
 omega
theorem ZhV{x z y:List Nat}{a b:Int}(h:lcp y z<lcp x z)(hz:ZD z y≤0):Btr x a y b∧lcp x y=lcp y z:=by
 rw[ZbV y z]at h ⊢
 refine⟨.inl ?_,ZmA h⟩
 rw[ZiY x z y h]
 rcases Int.lt_or_eq_of_le hz with g|g
 ·exact g
 ·have e:=ZeM _ _ g
  subst e
  rw[Zhj]at h
  have:=(ZdU x z).2
  omega
abbrev Com:=Option (Int×Int)
def ZhJ(hd:Hd)(z:List Nat)(M:List Int)(c:Com):Prop:=Win hd M (c.map (·.1))∧∀p,c=some p→∃x,hd p.1=some x∧p.2=((lcp x z:Nat):Int)
theorem ZkF{hd hd':Hd}{N M:List Int}{n:Int}{z:List Nat}{s:StL}(T:Tk hd hd' N n z)(hM:Sub N M)(h2:2≤M.length)(hn:n∈M)(ok:ZU hd s N) :
  (Win hd' (Zan M n) none∧(ZP s (ZL M)=none∨ZP s (ZL M)=some none))∨∃t b y,Win hd' (Zan M n) (some b)∧hd' b=some y∧b∈N∧ZP s (ZL M)=some (some (t,b,((lcp y z:Nat):Int))):=by
 have r:=hM.rise T.up
 have nd:=Zdy r
 have hno:=Ze8 r (Zdm hn)
 have nS:=(ok.sub hM).at_side h2 n
 have hoN:∀b∈Zan M n,b∈M:=fun b hb=>(Zew M n).mem_iff.mp (Qr _ hb)
 have hsN:∀b∈Zab M n,b∈M:=fun b hb=>(Zew M n).mem_iff.mp (QL _ hb)
 have wS:Win hd (Zab M n) (some n):=by
  obtain⟨_,x,hx,hw⟩:=T.win
  exact⟨Zdm hn,x,hx,fun b hb y hy=>hw b (hM.mem (hsN b hb)) y hy⟩
 have cO:∀m∈Zan M n,hd' m=hd m:=fun m hm=>T.oth m fun e=>hno (e ▸ hm)
 have ndO:(Zan M n).Nodup:=by unfold Zan;split;exact Zdy (Zdq r);exact Zdy (Zdt r)
 obtain⟨w,hw⟩:=Win.ex hd (Zan M n) ndO
 cases w with
 | none=>exact .inl ⟨hw.congr cO,nS.2 (.inr hw)⟩
 | some b =>
  obtain⟨y,hy⟩:∃y,hd b=some y:=by obtain⟨_,y,hy,_⟩:=hw;exact⟨y,hy⟩
  obtain⟨t,lz,e,o⟩:=nS.1 n b z y wS hw T.key hy
  have hbM:=hoN b hw.1
  have hbn:b≠n:=fun z=>hno (z ▸ hw.1)
  have hB:Btr z n y b:=by
   obtain⟨_,x,hx,hww⟩:=T.win
   rw[T.key]at hx;cases hx
   exact(hww b (hM.mem hbM) y hy).resolve_left hbn
  have el:lz=b:=by
   rcases o with⟨_,e⟩|⟨e,_⟩
   ·exact e
   ·exact(hB.asym e).elim
  subst el
  exact .inr ⟨t,lz,y,hw.congr cO,by rw[cO lz hw.1];exact hy,hM.mem hbM,by rw[ZbV y z];exact e⟩
theorem Zi3(ns:List Int):(ZdD ns).length=(ns.length+1) / 2:=by unfold ZdD mid;rw[Qy];omega
theorem ZiZ(ns:List Int):(ZfT ns).length=ns.length / 2:=by unfold ZfT mid;rw[QU];omega
def ZfY:Nat→List Int→Int→List (List Int)
 | 0,_,_=>[]
 | f+1,ns,n=>if ns.length≤1 then [] else if n∈ZdD ns then ZfT ns::ZfY f (ZdD ns) n else ZdD ns::ZfY f (ZfT ns) n
def ZbE(ns:List Int)(n:Int):List Int:=if n∈ZdD ns then ZdD ns else ZfT ns
def ZcO(ns:List Int)(n:Int):List Int:=if n∈ZdD ns then ZfT ns else ZdD ns
theorem Zeg{ns:List Int}{n:Int}(h:1<ns.length):(ZbE ns n).length<ns.length:=by
 unfold ZbE
 split
 ·rw[Zi3];omega
 ·rw[ZiZ];omega
theorem ZkK{ns:List Int}{n:Int}(h:1<ns.length):0<(ZbE ns n).length:=by
 unfold ZbE
 split
 ·rw[Zi3];omega
 ·rw[ZiZ];omega
theorem ZeG{f:Nat}{ns:List Int}{n:Int}(h:1<ns.length):ZfY (f+1) ns n=ZcO ns n::ZfY f (ZbE ns n) n:=by
 conv=>lhs;unfold ZfY
 rw[if_neg (by omega)]
 unfold ZcO ZbE
 split<;>rfl
theorem ZbR{f:Nat}{ns:List Int}{n:Int}(h:ns.length≤1):ZfY f ns n=[]:=by
 cases f with
 | zero=>rfl
 | succ f=>unfold ZfY;rw[if_pos h]
theorem Zgv:∀ (f g:Nat) (ns:List Int) (n:Int),ns.length≤f+1→ns.length≤g+1→ZfY f ns n=ZfY g ns n
 | 0,g,ns,n,h,_=>by rw[ZbR (by omega),ZbR (by omega)]
 | f+1,0,ns,n,_,h=>by rw[ZbR (by omega),ZbR (by omega)]
 | f+1,g+1,ns,n,h1,h2=>by
  by_cases h:1<ns.length
  ·have:=Zeg (n:=n) h
   rw[ZeG h,ZeG h,Zgv f g _ n (by omega) (by omega)]
  ·rw[ZbR (by omega),ZbR (by omega)]
def way(ns:List Int)(n:Int):List (List Int):=ZfY ns.length ns n
theorem Zhd{ns:List Int}{n:Int}(h:1<ns.length):way ns n=ZcO ns n::way (ZbE ns n) n:=by
 unfold way
 cases e:ns.length with
 | zero=>omega
 | succ f =>
  have:=Zeg (n:=n) h
  rw[ZeG h,Zgv f (ZbE ns n).length _ n (by omega) (by omega)]
theorem ZgG{ns:List Int}{n:Int}(h:ns.length≤1):way ns n=[]:=ZbR h
theorem Zjk(n:Int):∀ns:List Int,inV (.int n) (ns.map V.int)=decide (n∈ns)
 | []=>rfl
 | m::r=>by
  have ih:=Zjk n r
  unfold inV at ih ⊢
  rw[Qe,Qak,ih]
  by_cases h:m=n
  ·subst h;simp[eqV]
  ·have:(m == n)=false:=by simpa using h
   simp[eqV,this,List.mem_cons,Ne.symm h]
theorem Zgf:∀ns:List Int,(ns.map V.int).all Zd3=true
 | []=>rfl
 | _::r=>by rw[Qe,List.all_cons,Zgf r];rfl
def Rd(H:Hp):List Addr→List (List Int)→Prop
 | [],[]=>True
 | l::ls,d::ds=>H l=some (.lst (d.map V.int))∧Rd H ls ds
 | _,_=>False
theorem Rd.len{H:Hp}:∀ {ls:List Addr} {ds:List (List Int)},Rd H ls ds→ls.length=ds.length
 | [],[],_=>rfl
 | [],_::_,h=>h.elim
 | _::_,[],h=>h.elim
 | _::ls,_::ds,h=>by rw[Qu,Qu,Rd.len h.2]
theorem Rd.mono{H H':Hp}:∀ {ls:List Addr} {ds:List (List Int)},(∀l∈ls,∀o,H l=some o→H' l=some o)→Rd H ls ds→Rd H' ls ds
 | [],[],_,_=>trivial
 | [],_::_,_,h=>h.elim
 | _::_,[],_,h=>h.elim
 | l::ls,_::ds,k,h=>⟨k l (by simp) _ h.1,Rd.mono (fun x hx=>k x (Qm _ hx)) h.2⟩
theorem Rd.app{H:Hp}:∀ {ls:List Addr} {ds:List (List Int)} {ms:List Addr} {es:List (List Int)},Rd H ls ds→Rd H ms es→Rd H (ls++ms) (ds++es)
 | [],[],_,_,_,h=>h
 | [],_::_,_,_,h,_=>h.elim
 | _::_,[],_,_,h,_=>h.elim
 | _::ls,_::ds,_,_,h,g=>⟨h.1,Rd.app h.2 g⟩
theorem Rd.rev{H:Hp}:∀ {ls:List Addr} {ds:List (List Int)},Rd H ls ds→Rd H ls.reverse ds.reverse
 | [],[],h=>h
 | [],_::_,h=>h.elim
 | _::_,[],h=>h.elim
 | l::ls,d::ds,h=>by
  rw[Qad,Qad]
  exact Rd.app (Rd.rev h.2) ⟨h.1,trivial⟩
def Zk1:Sp:=fun vs H Q _=>∃ (a:Addr) (ns:List Int) (n:Int),vs=[.ref a,.int n]∧H a=some (.lst (ns.map V.int))∧1≤ns.length∧ns.length≤100 ∧
 ∀ (r:Addr) (ls:List Addr) (H':Hp),H r=none→H' r=some (.lst (ls.map V.ref))→r ∉ ls→(∀l∈ls,H l=none)→Rd H' ls (way ns n).reverse→Zz H H'→Q (.ref r) H'
def Dn(H:Hp)(a o:Addr)(ns:List Int)(n:Int)(b:Addr)(cur:List Int)(ls:List Addr)(H2:Hp):Prop :=
 ∃done:List (List Int),H2 b=some (.lst (cur.map V.int))∧b≠o∧1≤cur.length∧cur.length≤100∧way ns n=done++way cur n∧Rd H2 ls done∧H2 o=some (.lst (ls.map V.ref))∧Zz H H2∧(∀l∈ls,H l=none)∧o ∉ ls∧ls.length+cur.length≤100
theorem Dn.step{H:Hp}{a o:Addr}{ns:List Int}{n:Int}{b:Addr}{cur:List Int}{ls:List Addr}{H2 H3:Hp}(D:Dn H a o ns n b cur ls H2)(hO:H o=none)(h1:1<cur.length)(s:Zz H2 H3){x y:Addr}(hx:H3 x=some (.lst ((ZbE cur n).map V.int)))(hy:H3 y=some (.lst ((ZcO cur n).map V.int)))(nx:H2 x=none)(ny:H2 y=none) :
  Dn H a o ns n x (ZbE cur n) (ls++[y]) (upd H3 o (.lst (ls.map V.ref++[.ref y]))):=by
 obtain⟨done,d1,d2,d3,d4,d5,d6,d7,d8,d9,d10,d11⟩:=D
 have xo:x≠o:=(Zb d7 nx).symm
 have yo:y≠o:=(Zb d7 ny).symm
 have sl:=Zeg (n:=n) h1
 have k:∀l,l≠o→∀u,H3 l=some u→(upd H3 o (.lst (ls.map V.ref++[.ref y]))) l=some u:=fun l hl u hu=>by rw[Zc hl];exact hu
 refine⟨done++[ZcO cur n],k x xo _ hx,xo,ZkK h1,by omega,by rw[d5,Zhd h1,List.append_assoc];rfl,?_,?_,fun c u hu=>?_,?_,?_,?_⟩
 ·refine Rd.app (Rd.mono (fun l hl u hu=>k l (fun e=>d10 (e ▸ hl)) u (s _ _ hu)) d6) ⟨k y yo _ hy,trivial⟩
 ·rw[Zf,Qh];rfl
 ·rw[Zc (Zb hu hO)];exact s _ _ (d8 _ _ hu)
 ·intro l hl
  rcases Qk.mp hl with hl|hl
  ·exact d9 l hl
  ·rw[Ql.mp hl];exact d8.free ny
 ·intro hm
  rcases Qk.mp hm with hl|hl
  ·exact d10 hl
  ·exact yo (Ql.mp hl).symm
 ·rw[Qs,QF];omega
theorem ZnY(T:Zao K mg cRow cMerge)(f_halves:Df P w K mg base 1 "halves" ["numbers"] (Zd1 K true)):Df P w K mg base 2 "way_up" ["numbers", "n"] Zk1:=by
 refine T.t_way_up.df Zbr (fun vs H Q E h=>?_) (fun cdv f A outer s H vs Q E hr h=>?_)
 ·obtain⟨a,ns,n,rfl,_⟩:=h
  rfl
 obtain⟨a,ns,n,rfl,hA,h1,h100,q⟩:=h
 refine⟨_,#[Zd,#[Zx,2,Zbr.nd,(Or.inl rfl),#[ZbU,#[Zg]]],#[Zd,#[Zx,3,Zbr.nd,(Or.inl rfl),‹0›],#[Zd,(@Zfm _ _ _ _ _ _ PassesOwn.never #[Zk,Zgk,#[Zu,(ZdO K),T.b.n_len,Qw,#[Za,‹3›,#[Zg]]],#[Zh],(Zo _)] #[Zd,#[ZaX,#[ZC,f_halves,hr,#[Za,‹3›,#[Zg]],(by rfl)],#[gT,K,2,#[Zv,#[ZJ,4,Zbr.nd],#[Zv,#[ZJ,5,Zbr.nd],(@Zas _)]]]],#[Zi,#[Zac,#[Zk,(inQ K),‹1›,‹4›,(by with_unfolding_all rfl)],#[Zd,#[Zaz,#[ZeS,QT,QV,QW,ZbP,‹2›,#[Za,‹5›,#[Zg]]]],#[Zi,#[Zx,3,Zbr.nd,(Or.inl rfl),‹4›]]],#[Zd,#[Zaz,#[ZeS,QT,QV,QW,ZbP,‹2›,#[Za,‹4›,#[Zg]]]],#[Zi,#[Zx,3,Zbr.nd,(Or.inl rfl),‹5›]]]]]]),#[Zd,#[Zaz,(@Zn7 _ _ _ _ _ _ _ _ _ QT PySem.F.slot_list_reverse PySem.F.type_list_reverse Ziq ‹2› (by rfl) (by rfl))],#[Zi,#[Zq,‹2›]]]]]],?_⟩
 refine⟨(by show 0≤sizeLine;decide),fun o hO=>?_⟩
 have nao:a≠o:=Zb hA hO
 refine⟨_,rfl,?_⟩
 refine⟨fun m σ H2=>∃ (b:Addr) (cur:List Int) (ls:List Addr) (v4 v5:Option V),σ=[some (.ref a),some (.int n),some (.ref o),some (.ref b),v4,v5]∧Dn H a o ns n b cur ls H2∧m=cur.length,⟨_,a,ns,[],none,none,rfl,⟨[],?_,nao,h1,h100,rfl,trivial,Zf,Zl hO _,(fun l hl=>by cases hl),(fun hm=>by cases hm),by simpa using h100⟩,rfl⟩,?_⟩
 ·rw[Zc nao];exact hA
 rintro m σ H2 ⟨b,cur,ls,v4,v5,rfl,D,rfl⟩
 obtain⟨done,d1,d2,d3,d4,d5,d6,d7,d8,d9,d10,d11⟩:=id D
 have hlc:(((cur.map V.int).length:Nat):Int)=(cur.length:Int):=by rw[Qa]
 refine⟨_,rfl,b,_,rfl,.inl (SqL.of d1),_,_,rfl,rfl,_,rfl,?_⟩
 refine ZbJ (fun c1=>?_) (fun c1=>?_)
 ·have c1':(1:Int)<(((cur.map V.int).length:Nat):Int):=of_decide_eq_true c1
  have hc:1<cur.length:=by omega
  refine⟨_,fun σ' H' h=>h,?_⟩
  refine⟨_,rfl,b,cur,rfl,SqL.of d1,d4,fun t x y H3 ht hx hy nxy et ex ey s3 ntx nty=>?_⟩
  refine⟨t,_,rfl,SqT.of et,rfl,_,_,rfl,_,_,rfl,rfl,?_⟩
  have ho3:=s3 _ _ d7
  have hlt:(ls.map V.ref).length<sizeLine:=by rw[Qa];exact ZE (by omega)
  have sl:=Zeg (n:=n) hc
  refine⟨_,rfl,_,rfl,x,_,rfl,.inl (SqL.of ex),rfl,Zgf _,_,rfl,?_⟩
  show if inV (V.int n) ((ZdD cur).map V.int)=true then _ else _
  rw[Zjk]
  refine ZbJ (fun c2=>?_) (fun c2=>?_)
  ·have c2':n∈ZdD cur:=of_decide_eq_true c2
   have e1:ZbE cur n=ZdD cur:=by unfold ZbE;rw[if_pos c2']
   have e2:ZcO cur n=ZfT cur:=by unfold ZcO;rw[if_pos c2']
   refine⟨_,rfl,.inl ⟨rfl,_,SqL.of ho3⟩,_,rfl,o,_,_,rfl,rfl,ho3,hlt,_,rfl,_,?_,x,ZbE cur n,ls++[y],_,_,rfl,D.step hO hc s3 (by rw[e1];exact ex) (by rw[e2];exact ey) hx hy,rfl⟩
   exact sl
  ·have c2':¬ n∈ZdD cur:=fun z=>c2 (decide_eq_true z)
   have e1:ZbE cur n=ZfT cur:=by unfold ZbE;rw[if_neg c2']
   have e2:ZcO cur n=ZdD cur:=by unfold ZcO;rw[if_neg c2']
   refine⟨_,rfl,.inl ⟨rfl,_,SqL.of ho3⟩,_,rfl,o,_,_,rfl,rfl,ho3,hlt,_,rfl,_,?_,y,ZbE cur n,ls++[x],_,_,rfl,D.step hO hc s3 (by rw[e1];exact ey) (by rw[e2];exact ex) hy hx,rfl⟩
   exact sl
 ·have c1':¬ (1:Int)<(((cur.map V.int).length:Nat):Int):=fun z=>c1 (decide_eq_true z)
  have e:way ns n=done:=by rw[d5,ZgG (by omega),Q5]
  refine⟨_,rfl,.inl ⟨rfl,_,SqL.of d7⟩,o,_,rfl,rfl,d7,?_⟩
  refine⟨_,rfl,q o ls.reverse _ hO (by rw[Zf,List.map_reverse]) (fun hm=>d10 (List.mem_reverse.mp hm)) (fun l hl=>d9 l (List.mem_reverse.mp hl)) ?_ fun c u hu=>?_⟩
  ·rw[e]
   refine Rd.mono (fun l hl u hu=>?_) d6.rev
   rw[Zc (fun z=>by subst z;exact d10 (List.mem_reverse.mp hl))]
   exact hu
  ·rw[Zc (Zb hu hO)];exact d8 _ _ hu
theorem Zf9:∀ (k:Nat) (M:List Int) (n:Int),M.length≤2 ^ k→(way M n).reverse=(ZT k M n).map (fun X=>Zan X n)
 | 0,M,n,h=>by
  rw[ZgG (by simpa using h)];rfl
 | k+1,M,n,h=>by
  unfold ZT
  by_cases h2:2≤M.length
  ·rw[if_pos h2,Zhd (by omega),Qad,Qh]
   have hs:(Zab M n).length≤2 ^ k:=by
    rw[Nat.pow_succ]at h
    unfold Zab
    split
    ·unfold lo mid;rw[Qy];omega
    ·unfold up mid;rw[QU];omega
   have e:=Zf9 k (Zab M n) n hs
   rw[← e];rfl
  ·rw[if_neg h2,ZgG (by omega)];rfl
theorem Zlf{M:List Int}(h:2≤M.length)(n:Int):Zan M n≠[]:=by
 unfold Zan
 split
 ·exact Z3 (ZdQ h).2
 ·exact Z3 (Zda h).2
theorem ZiP{M:List Int}(r:Z9 M)(h:2≤M.length)(n:Int):ZL M=(if (Zan M n).headD 0<(Zab M n).headD 0 then (Zan M n).headD 0 else (Zab M n).headD 0,if (Zan M n).getLastD 0>(Zab M n).getLastD 0 then (Zan M n).getLastD 0 else (Zab M n).getLastD 0):=by
 have a:=ZeL h
 have b:=Zer h
 have l1:=ZbN (Z3 (Zda h).2)
 have l2:=ZbL (Z3 (Zda h).2)
 have u1:=ZbN (Z3 (ZdQ h).2)
 have u2:=ZbL (Z3 (ZdQ h).2)
 have c:=ZH r l1 u1
 have d:=ZH r l2 u2
 unfold Zab Zan
 split<;>(refine Prod.ext ?_ ?_<;>dsimp only<;>first|omega|(split<;>omega))
theorem Rd.get{H:Hp}:∀ {ls:List Addr} {ds:List (List Int)},Rd H ls ds→∀ {i:Nat} {l:Addr} {d:List Int},ls[i]? = some l→ds[i]? = some d→H l=some (.lst (d.map V.int))
 | [],[],_,i,l,d,h,_=>by simp at h
 | l::ls,d::ds,⟨h1,h2⟩,0,a,b,e1,e2=>by simp at e1 e2;rw[← e1,← e2];exact h1
 | l::ls,d::ds,⟨h1,h2⟩,i+1,a,b,e1,e2=>Rd.get h2 (by simpa using e1) (by simpa using e2)
def Zgg:Sp:=fun vs H Q _=>∃ (a:Addr) (N:List Int) (n:Int),vs=[.ref a,.int n]∧H a=some (.lst (N.map V.int))∧n∈N∧N.length≤60∧Z9 N ∧
 ∀ (r:Addr) (ts:List Addr) (H':Hp),H r=none→H' r=some (.lst (ts.map V.ref))→ts.length=(ZT 8 N n).length→(∀ (i:Nat) (t:Addr) (X:List Int),ts[i]? = some t→(ZT 8 N n)[i]? = some X→H' t=some (.tup [.int (ZL X).1,.int (ZL X).2]))→Zz H H'→Q (.ref r) H'
theorem ZiK(T:Zao K mg cRow cMerge)(f_way_up:Df P w K mg base 2 "way_up" ["numbers", "n"] Zk1):Df P w K mg base 3 "matches_up" ["numbers", "n"] Zgg:=by
 refine T.t_matches_up.df Zat (fun vs H Q E h=>?_) (fun cdv f A outer s H vs Q E hr h=>?_)
 ·obtain⟨a,N,n,rfl,_⟩:=h
  rfl
 obtain⟨a,N,n,rfl,ha,hn,h60,hup,q⟩:=h
 refine⟨_,#[Zd,#[Zx,2,Zat.nd,(Or.inl rfl),#[ZbU,#[Zg]]],#[Zd,#[Zx,3,Zat.nd,(Or.inl rfl),‹1›],#[Zd,#[Zx,4,Zat.nd,(Or.inl rfl),‹1›],#[Zd,#[Zdf,PassesOwn.never,#[iL,K,#[ZC,f_way_up,hr,#[Za,‹0›,#[Za,‹1›,#[Zg]]],(by rfl)]],#[ZJ,5,Zat.nd],#[Zd,#[Zx,3,Zat.nd,(Or.inl rfl),#[Zu,(Zf2 rfl),T.b.n_min,boot_min,#[Za,‹3›,#[Za,#[ZF,(ixL K),‹5›,#[Zh]],#[Zg]]]]],#[Zd,#[Zx,4,Zat.nd,(Or.inl rfl),#[Zu,(Zf3 rfl),T.b.n_max,boot_max,#[Za,‹4›,#[Za,#[ZF,(ixL K),‹5›,(@Zjb _ _ _ _ _ _ ZgN #[Zh])],#[Zg]]]]],#[Zi,#[Zaz,#[ZeS,QT,QV,QW,ZbP,‹2›,#[Za,#[Zbf,#[Za,‹3›,#[Za,‹4›,#[Zg]]]],#[Zg]]]]]]]],#[Zi,#[Zq,‹2›]]]]]],?_⟩
 have hpos:=Qax hn
 have hpw:N.length≤2 ^ 8:=QH h60 (by decide)
 obtain⟨cok,ctop,clen⟩:=Zff 8 N n hn hpw
 refine⟨(by show 0≤sizeLine;decide),fun r hr0=>?_⟩
 have s1:=Zl hr0 (.lst [])
 have hr1:(upd H r (.lst [])) r=some (.lst []):=Zf
 generalize upd H r (.lst [])=H1 at s1 hr1 ⊢
 refine⟨_,rfl,_,rfl,_,rfl,_,rfl,a,N,n,rfl,s1 _ _ ha,hpos,by omega,fun wy ls H2 hwy hwy2 hnot hfr hrd s2=>?_⟩
 rw[Zf9 8 N n hpw]at hrd
 have hll:=hrd.len
 rw[Qa]at hll
 have s02:=s1.trans s2
 refine⟨wy,rfl,⟨_,SqL.of hwy2⟩,?_⟩
 refine Zfu (K:=K) (a:=wy) (xs:=ls.map V.ref) (fun i σ H3=>∃ (v5:Option V) (ts:List Addr),σ=[some (.ref a),some (.int n),some (.ref r),some (.int ((low n (ZT 8 N n) i).headD 0)),some (.int ((low n (ZT 8 N n) i).getLastD 0)),v5]∧i≤ls.length∧ts.length=i∧H3 r=some (.lst (ts.map V.ref))∧(∀ (j:Nat) (t:Addr) (X:List Int),ts[j]? = some t→(ZT 8 N n)[j]? = some X→H3 t=some (.tup [.int (ZL X).1,.int (ZL X).2]))∧(∀t∈ts,t≠r∧∃xs,H3 t=some (.tup xs))∧(∀b o,H2 b=some o→b≠r→H3 b=some o)) ⟨_,[],rfl,Qn _,rfl,s2 _ _ hr1,(fun j t X h=>by simp at h),(fun t h=>by cases h),fun b o h _=>h⟩ (fun i σ H3 _ hq=>by obtain⟨_,_,_,_,_,_,_,_,k3⟩:=hq;exact SqL.of (k3 _ _ hwy2 (fun z=>by rw[z,hr1]at hwy;cases hwy))) ?_ ?_
 ·rintro i y σ H3 hy ⟨v5,ts,rfl,hi,htl,hr3,hts,htr,k3⟩
  rw[Qv]at hy
  cases hz:ls[i]? with
  | none=>rw[hz]at hy;cases hy
  | some l =>
  rw[hz]at hy
  cases hy
  have hil:i<ls.length:=(Qc.mp hz).1
  cases hX:(ZT 8 N n)[i]? with
  | none=>rw[Qah]at hX;omega
  | some X =>
  obtain⟨x1,x2,x3,x4⟩:=cok i X hX
  have hl2:H2 l=some (.lst ((Zan X n).map V.int)):=hrd.get hz (by rw[Qv,hX];rfl)
  have nlr:l≠r:=fun z=>by rw[z]at hl2;rw[s2 _ _ hr1]at hl2;have:=hfr l (Qq hz);rw[z,hr1]at this;cases this
  have hl3:=k3 _ _ hl2 nlr
  have hne:=Zlf x2 n
  have e2:=ZiP (x1.rise hup) x2 n
  rw[x4]at e2
  have e3:low n (ZT 8 N n) (i+1)=X:=by show (ZT 8 N n).getD i []=X;rw[QC,hX];rfl
  refine⟨_,rfl,_,rfl,l,_,_,_,rfl,rfl,SqL.of hl3,Zhw hne,_,_,rfl,?_⟩
  refine⟨_,rfl,_,rfl,_,rfl,l,_,_,_,rfl,rfl,SqL.of hl3,Zh1 hne,_,_,rfl,?_⟩
  refine⟨_,rfl,.inl ⟨rfl,_,SqL.of hr3⟩,_,rfl,_,rfl,(by show 2≤sizeLine;decide),fun t ht=>?_⟩
  have nrt:r≠t:=Zb hr3 ht
  refine⟨r,_,_,rfl,rfl,by rw[Zc nrt];exact hr3,(by rw[Qa];exact ZE (by omega)),?_⟩
  refine⟨some (.ref l),ts++[t],?_,hil,by rw[Qs,QF];omega,by rw[Zf,Qh];rfl,fun j u Y hu hY=>?_,fun u hu=>?_,fun b o hb nb=>?_⟩
  ·rw[e3]
   have h1:=congrArg Prod.fst e2
   have h2:=congrArg Prod.snd e2
   simp only at h1 h2
   rw[show X.headD 0=(ZL X).1 from rfl,show X.getLastD 0=(ZL X).2 from rfl,h1,h2]
   rfl
  ·have htuple:∀ (u:Addr) (xs:List V),H3 u=some (.tup xs)→(upd (upd H3 t (.tup [.int (if (Zan X n).headD 0<(low n (ZT 8 N n) i).headD 0 then (Zan X n).headD 0 else (low n (ZT 8 N n) i).headD 0),.int (if (Zan X n).getLastD 0>(low n (ZT 8 N n) i).getLastD 0 then (Zan X n).getLastD 0 else (low n (ZT 8 N n) i).getLastD 0)])) r (.lst (ts.map V.ref++[.ref t]))) u=some (.tup xs):=fun u xs hu=>by
    rw[Zc (fun z=>by rw[z,hr3]at hu;cases hu),Zc (Zb hu ht)];exact hu
   by_cases hj:j<ts.length
   ·rw[QP hj]at hu
    exact htuple u _ (hts j u Y hu hY)
   ·have ej:j=ts.length:=by have:=(Qc.mp hu).1;rw[Qs,QF]at this;omega
    subst ej
    rw[QN (Qg _),Nat.sub_self]at hu
    cases hu
    rw[htl,hX]at hY
    cases hY
    rw[Zc nrt.symm,Zf,e2]
  ·rcases Qk.mp hu with hu|hu
   ·obtain⟨g1,xs,g2⟩:=htr u hu
    exact⟨g1,xs,by rw[Zc g1,Zc (Zb g2 ht)];exact g2⟩
   ·rw[Ql.mp hu]
    exact⟨nrt.symm,_,by rw[Zc nrt.symm];exact Zf⟩
  ·have:=k3 b o hb nb
   rw[Zc nb,Zc (Zb this ht)];exact this
 ·rintro σ H3 ⟨v5,ts,rfl,_,htl,hr3,hts,_,k3⟩
  rw[Qa]at htl
  exact⟨_,rfl,q r ts H3 hr0 hr3 (by omega) hts (fun b o hb=>k3 b o (s02 b o hb) (Zb hb hr0))⟩
def CV(H:Hp)(v:V)(c:Com):Prop:=(c=none∧v=.non)∨∃ (t:Addr) (p:Int×Int),c=some p∧v=.ref t∧H t=some (.tup [.int p.1,.int p.2])
theorem CV.keep{H H':Hp}{v:V}{c:Com}(h:CV H v c)(k:∀t xs,H t=some (.tup xs)→H' t=some (.tup xs)):CV H' v c:=by
 rcases h with h|⟨t,p,h1,h2,h3⟩
 ·exact .inl h
 ·exact .inr ⟨t,p,h1,h2,k _ _ h3⟩
theorem ZlS{s:StL}{k:Int×Int}{v0:Option (Addr×Int×Int)}(h:ZP s k=some v0):s.any (fun e=>decide (e.1=k))=true:=QaB.mpr ⟨_,Zgp h,decide_eq_true rfl⟩
theorem ZeK{s:StL}{k:Int×Int}{v0 v:Option (Addr×Int×Int)}(h:ZP s k=some v0):(Zcs s k v).length=s.length:=by
 unfold Zcs
 rw[if_pos (ZlS h),Qa]
def AgS(hd:Hd)(z:List Nat)(A B:List Int)(k q:Int):Prop:=∀C k0 q0,Ag hd z C k0 q0→Ag hd z (C++[(A,B)]) (k0+k) (q0+q)
def Zi0(cR cM:Addr):Sp:=fun vs H Q _=>∃ (m rd sd:Addr) (L:List Zr) (s:StL) (nb li lo:Int) (best:V) (tm:Addr) (v:V) (c:Com) (z:List Nat) (M:List Int) (n:Int),vs=[.ref m,.ref tm,v]∧ZQ cR cM H m rd sd L s nb li lo best∧H tm=some (.tup [.int (ZL M).1,.int (ZL M).2])∧CV H v c∧ZhJ (hdM L) z (Zab M n) c ∧
 ((Win (hdM L) (Zan M n) none∧(ZP s (ZL M)=none∨ZP s (ZL M)=some none))∨∃t b y,Win (hdM L) (Zan M n) (some b)∧hdM L b=some y∧ZP s (ZL M)=some (some (t,b,((lcp y z:Nat):Int)))) ∧
 (∀b∈M,∀y,hdM L b=some y→ZD z y≤0)∧Z9 M∧(∀b∈M,b∈Zw L)∧2≤M.length∧n∈M ∧
 ∀ (v':V) (c':Com) (s':StL) (k q:Int) (H':Hp),CV H' v' c'→ZhJ (hdM L) z M c'→ZdI (hdM L) s' (Zab M n) (Zan M n) (ZL M)→(∀j,j≠ZL M→ZP s' j=ZP s j)→AgS (hdM L) z (Zab M n) (Zan M n) k q →
  ZQ cR cM H' m rd sd L s' nb (li+k) (lo+q) best→(∀b o,H b=some o→b≠m→b≠sd→H' b=some o)→Q v' H'
theorem Zkw{L:List Zr}(nd:(Zw L).Nodup){b:Int}(hb:b∈Zw L){y:List Nat}(hy:hdM L b=some y):∃e∈L,e.n=b∧∃x,e.ss[e.g]? = some x∧y=cds x:=by
 obtain⟨e,he,rfl⟩:=Zc8 hb
 rw[Zb6 nd he]at hy
 cases hx:e.ss[e.g]? with
 | none=>rw[hx]at hy;cases hy
 | some x=>rw[hx]at hy;cases hy;exact⟨e,he,rfl,x,hx,rfl⟩
theorem Zkx(T:Zao K mg cRow cMerge)(f_Merge_meet:Mf P w K mg base 3 cMerge "meet" ["self", "one", "other", "far"] (Zic cRow cMerge)):Mf P w K mg base 4 cMerge "play_again" ["self", "meeting", "comer"] (Zi0 cRow cMerge):=by
 refine T.t_Merge_play_again.mf Zag (fun vs H Q E h=>?_) (fun cdv f A outer s H vs Q E hr h=>?_)
 ·obtain⟨m,rd,sd,L,s,nb,li,lo,best,tm,v,c,z,M,n,rfl,_⟩:=h
  rfl
 obtain⟨m,rd,sd,L,s,nb,li,lo',best,tm,v,c,z,M,n,rfl,Mg,htm,hcv,⟨wS,hcf⟩,hst,hge,hup,hin,h2,hn,q⟩:=h
 refine⟨_,#[Zd,#[Zx,3,Zag.nd,(Or.inl rfl),(@ZoU _ _ _ _ _ _ _ _ hr #[ZN,‹0›] ‹1› (by rfl) (by rfl) (by rfl))],#[Zd,#[Zac,#[Zk,Zbs,‹3›,#[ZS],(Zo _)],#[Zi,#[Zq,‹2›]],#[ZG]],#[Zd,#[Zac,#[Zk,Zbs,‹2›,#[ZS],(Zo _)],#[Zd,#[ZaX,#[ZS],#[ZcK,#[ZN,‹0›],‹1›,(ZiL hr)]],#[Zi,#[Zq,‹3›]]],#[ZG]],#[Zd,#[Zac,#[Zk,Zbh,#[ZF,(ixT K),‹2›,#[Zh]],#[ZF,(ixT K),‹3›,#[Zh]],(Zo _)],#[Zd,#[ZaX,#[ZdG,f_Merge_meet,T.cl_Merge,hr,‹0›,#[Za,#[ZF,(ixT K),‹2›,#[Zh]],#[Za,#[ZF,(ixT K),‹3›,#[Zh]],#[Za,#[ZF,(ixT K),‹2›,#[Zh]],#[Zg]]]]],#[gT,K,3,#[Zv,#[ZJ,4,Zag.nd],#[Zv,#[ZJ,5,Zag.nd],#[Zv,#[ZJ,6,Zag.nd],(@Zas _)]]]]],#[Zd,#[ZaX,#[Zbf,#[Za,‹5›,#[Za,‹6›,#[Zg]]]],#[ZcK,#[ZN,‹0›],‹1›,(ZiL hr)]],#[Zi,#[Zq,#[Zbf,#[Za,‹4›,#[Za,#[ZF,(ixT K),‹2›,#[Zh]],#[Zg]]]]]]]],#[ZG]],#[Zd,#[ZcE,‹0›,#[Zh],Zfp],#[Zd,#[Zac,#[Zk,Zgk,#[ZF,(ixT K),‹2›,#[Zh]],#[ZF,(ixT K),‹3›,#[Zh]],(Zo _)],#[Zi,#[Zq,‹2›]],#[ZG]],#[Zd,#[ZaX,‹2›,#[ZcK,#[ZN,‹0›],‹1›,(ZiL hr)]],#[Zi,#[Zq,‹3›]]]]]]]]],?_⟩
 obtain⟨dx,hm⟩:=Mg.ob
 have htm':H tm=some (.tup (([.inl (ZL M).1,.inl (ZL M).2]:List Key).map kV)):=htm
 have pm:=Zew M n
 have dg:=Za7.t (k:=[.inl (ZL M).1,.inl (ZL M).2]) Mg.stays htm'
 rw[Zhi]at dg
 have sA:∀b∈Zab M n,b∈M:=fun b hb=>pm.mem_iff.mp (QL _ hb)
 have sB:∀b∈Zan M n,b∈M:=fun b hb=>pm.mem_iff.mp (Qr _ hb)
 have hno:=Ze8 hup (Zdm hn)
 have dis:∀a b,a∈Zab M n→b∈Zan M n→a≠b:=fun a b ha hb e=>by
  subst e
  unfold Zab Zan at *
  split at ha
  ·rename_i hl;rw[if_pos hl]at hb;have:=ZH hup ha hb;omega
  ·rename_i hl;rw[if_neg hl]at hb;have:=ZH hup hb ha;omega
 refine⟨_,rfl,m,cMerge,dx,_,_,rfl,hm,T.cl_Merge,T.na_Merge_stays,Zct ..,sd,rfl,.inr ⟨_,.inl Mg.stays⟩,_,rfl,_,dg,?_⟩
 rcases hst with⟨wO,hlk⟩|⟨t,b,y,wO,hy,hlk⟩
 ·have ev:((ZP s (ZL M)).map stV).getD .non=.non:=by rcases hlk with e|e<;>rw[e]<;>rfl
  rw[ev]
  refine⟨_,rfl,rfl,_,rfl,Zcm rfl ⟨_,rfl,q v c s 0 0 H hcv ⟨(Win.left wS wO).perm pm,hcf⟩ ⟨(fun a b x y _ wb _ _=>nomatch wO.one wb),fun _=>hlk⟩ (fun _ _=>rfl) (fun C k0 q0 g=>by rw[Qay,Qay];exact .no g (.inr wO)) (Mg.cast (by omega) (by omega)) (fun b o h _ _=>h)⟩⟩
 have hat:=Mg.ats _ (Zgp hlk) _ rfl
 have e1:((ZP s (ZL M)).map stV).getD .non=.ref t:=by rw[hlk];rfl
 rw[e1]
 have hsf:=Mg.sfew
 have hsl:(kvS s).length<sizeLine:=by unfold kvS;rw[Qa];exact ZE (by omega)
 refine⟨_,rfl,rfl,_,rfl,ZbC (fun z=>nomatch z) ?_⟩
 have hbM:=sB b wO.1
 rcases hcv with⟨rfl,rfl⟩|⟨tc,p,rfl,rfl,htc⟩
 ·refine⟨_,rfl,rfl,_,rfl,Zcm rfl ?_⟩
  refine⟨_,rfl,m,cMerge,dx,_,_,rfl,hm,T.cl_Merge,T.na_Merge_stays,Zct ..,_,rfl,sd,_,rfl,ZdW.t (k:=[.inl (ZL M).1,.inl (ZL M).2]) Mg.stays htm' hsl,?_⟩
  rw[show V.non=stV none from rfl,Ze0]
  have hl1:(Zcs s (ZL M) none).length≤100:=by rw[ZeK hlk];exact hsf
  have M2:=Mg.put (k:=ZL M) (v:=none) (fun t ht=>by cases ht) hl1
  have wS':Win (hdM L) (Zab M n) none:=wS
  refine⟨_,rfl,q (.ref t) (some (b,((lcp y z:Nat):Int))) _ 0 0 _ (.inr ⟨t,_,rfl,rfl,?_⟩) ⟨(Win.right wS' wO).perm pm,fun p hp=>?_⟩ ⟨(fun a b x y wa _ _ _=>nomatch wS'.one wa),fun _=>.inr ?_⟩ (fun j hj=>?_) (fun C k0 q0 g=>?_) (M2.cast (by omega) (by omega)) (fun b o hb _ n2=>by rw[Zc n2];exact hb)⟩
  ·rw[Zc (fun z=>by rw[z,Mg.stays]at hat;cases hat)];exact hat
  ·cases hp;exact⟨y,hy,rfl⟩
  ·rw[ZaO,if_pos rfl]
  ·rw[ZaO,if_neg hj]
  ·rw[Qay,Qay];exact .no g (.inl wS')
 obtain⟨a,fa⟩:=p
 obtain⟨x,hx,efa⟩:=hcf _ rfl
 simp only at hx efa
 subst efa
 have wS':Win (hdM L) (Zab M n) (some a):=wS
 have haM:=sA a wS'.1
 have hab:=dis a b wS'.1 wO.1
 obtain⟨ea,hea,rfl,zx,hzx,rfl⟩:=Zkw Mg.nd (hin a haM) hx
 obtain⟨eb,heb,rfl,zy,hzy,rfl⟩:=Zkw Mg.nd (hin b hbM) hy
 have c0:atI [V.int ea.n,.int ((lcp (cds zx) z:Nat):Int)] 0=some (.int ea.n):=Zay (j:=0) rfl
 have c1:atI [V.int ea.n,.int ((lcp (cds zx) z:Nat):Int)] 1=some (.int ((lcp (cds zx) z:Nat):Int)):=Zay (j:=1) rfl
 have d0:atI [V.int eb.n,.int ((lcp (cds zy) z:Nat):Int)] 0=some (.int eb.n):=Zay (j:=0) rfl
 have d1:atI [V.int eb.n,.int ((lcp (cds zy) z:Nat):Int)] 1=some (.int ((lcp (cds zy) z:Nat):Int)):=Zay (j:=1) rfl
 refine⟨_,rfl,rfl,_,rfl,ZbC (fun z=>nomatch z) ?_⟩
 refine⟨_,rfl,tc,_,_,_,rfl,rfl,SqT.of htc,c1,_,rfl,t,_,_,_,rfl,rfl,SqT.of hat,d1,rfl,_,rfl,ZbJ (fun d=>?_) (fun d=>?_)⟩
 ·have ef:lcp (cds zx) z=lcp (cds zy) z:=by have:=of_decide_eq_true d;injection this with this;omega
  have hle:=ZoR ef
  refine⟨_,rfl,m,dx,_,rfl,hm,Zfn ..,_,rfl,tc,_,_,_,rfl,rfl,SqT.of htc,c0,_,rfl,t,_,_,_,rfl,rfl,SqT.of hat,d0,_,rfl,tc,_,_,_,rfl,rfl,SqT.of htc,c1,?_⟩
  refine⟨m,rd,sd,L,s,nb,li,lo',best,ea,eb,zx,zy,lcp (cds zx) z,rfl,Mg,hea,heb,hzx,hzy,hle,fun t5 wi lz H5 hw ht5 ht5' M5 b5=>?_⟩
  refine⟨t5,_,rfl,SqT.of ht5',rfl,_,_,rfl,_,_,rfl,_,_,rfl,rfl,?_⟩
  have sz2:2≤sizeLine:=by decide
  refine⟨_,rfl,_,rfl,sz2,fun t6 ht6=>?_⟩
  have s6:=Zl ht6 (.tup [.int lz,.int ((lcp (cds zx) (cds zy):Nat):Int)])
  have ht66:(upd H5 t6 (.tup [.int lz,.int ((lcp (cds zx) (cds zy):Nat):Int)])) t6=some (.tup [.int lz,.int ((lcp (cds zx) (cds zy):Nat):Int)]):=Zf
  have M6:=M5.same s6
  generalize upd H5 t6 (.tup [.int lz,.int ((lcp (cds zx) (cds zy):Nat):Int)])=H6 at s6 ht66 M6 ⊢
  obtain⟨dx6,hm6⟩:=M6.ob
  have ntm:tm≠m:=fun z=>by rw[z,hm]at htm;cases htm
  have ntc:tc≠m:=fun z=>by rw[z,hm]at htc;cases htc
  have htm6:H6 tm=some (.tup (([.inl (ZL M).1,.inl (ZL M).2]:List Key).map kV)):=s6 _ _ (b5 _ _ htm' ntm)
  refine⟨_,rfl,m,cMerge,dx6,_,_,rfl,hm6,T.cl_Merge,T.na_Merge_stays,Zct ..,_,rfl,sd,_,rfl,ZdW.t (k:=[.inl (ZL M).1,.inl (ZL M).2]) M6.stays htm6 hsl,?_⟩
  rw[show V.ref t6=stV (some (t6,lz,((lcp (cds zx) (cds zy):Nat):Int))) from rfl,Ze0]
  have hl1:(Zcs s (ZL M) (some (t6,lz,((lcp (cds zx) (cds zy):Nat):Int)))).length≤100:=by rw[ZeK hlk];exact hsf
  have M7:=M6.put (k:=ZL M) (v:=some (t6,lz,((lcp (cds zx) (cds zy):Nat):Int))) (fun t ht=>by injection ht with ht;rw[← ht];exact ht66) hl1
  have b7:∀b o,H b=some o→b≠m→b≠sd→(upd H6 sd (.dT (kvS (Zcs s (ZL M) (some (t6,lz,((lcp (cds zx) (cds zy):Nat):Int))))))) b=some o:=fun b o hb n1 n2=>by rw[Zc n2];exact s6 _ _ (b5 b o hb n1)
  have ntcs:tc≠sd:=fun z=>by rw[z,Mg.stays]at htc;cases htc
  generalize upd H6 sd (.dT (kvS (Zcs s (ZL M) (some (t6,lz,((lcp (cds zx) (cds zy):Nat):Int))))))=H7 at M7 b7 ⊢
  refine⟨_,rfl,_,rfl,tc,_,_,_,rfl,rfl,SqT.of (b7 _ _ htc ntc ntcs),c1,sz2,fun t8 ht8=>?_⟩
  have wn:Win (hdM L) M (some wi):=by
   rcases hw with⟨w0,rfl,_⟩|⟨w0,rfl,_⟩
   ·exact(Win.both wS' wO hx hy w0).perm pm
   ·exact(Win.both' wS' wO hx hy ((Btr.total hab).resolve_left w0)).perm pm
  refine q (.ref t8) (some (wi,((lcp (cds zx) z:Nat):Int))) _ 1 ((lcp (cds zx) (cds zy):Nat)-(lcp (cds zx) z:Nat)+1) _ (.inr ⟨t8,_,rfl,rfl,Zf⟩) ⟨wn,fun p hp=>?_⟩ ⟨fun a b x' y' wa wb hxa hyb=>?_,fun hno=>?_⟩ (fun j hj=>by rw[ZaO,if_neg hj]) (fun C k0 q0 g=>.eq g wS' wO hx hy ef) ((M7.same (Zl ht8 _)).cast rfl rfl) (fun b o hb n1 n2=>Zl ht8 _ _ _ (b7 b o hb n1 n2))
  ·cases hp
   rcases hw with⟨w0,rfl,_⟩|⟨w0,rfl,_⟩
   ·exact⟨_,hx,rfl⟩
   ·exact⟨_,hy,by simp only;rw[ef]⟩
  ·have e1:=Qo (wa.one wS')
   have e2:=Qo (wb.one wO)
   subst e1
   subst e2
   have e3:=Qo (hxa.symm.trans hx)
   have e4:=Qo (hyb.symm.trans hy)
   subst e3
   subst e4
   refine⟨t6,lz,by rw[ZaO,if_pos rfl],?_⟩
   rcases hw with⟨w0,_,rfl⟩|⟨w0,_,rfl⟩
   ·exact .inl ⟨w0,rfl⟩
   ·exact .inr ⟨(Btr.total hab).resolve_left w0,rfl⟩
  ·rcases hno with z|z
   ·exact nomatch z.one wS'
   ·exact nomatch z.one wO
 have nef:lcp (cds zx) z≠lcp (cds zy) z:=fun e=>d (decide_eq_true (by rw[e]))
 refine⟨_,rfl,m,cMerge,dx,_,_,rfl,hm,T.cl_Merge,T.na_Merge_likened,ZeN ..,_,_,rfl,rfl,dx,_,hm,ZbI ..,?_⟩
 rw[ZcT]
 have M2:=Mg.obj (nb':=nb) (li':=li+1) (lo':=lo') (best':=best) (dx:=dx)
 have k2:∀b o,H b=some o→b≠m→(upd H m (.ins cMerge dx (mgF rd nb (li+1) lo' sd best))) b=some o:=fun b o hb n=>by rw[Zc n];exact hb
 have ntc:tc≠m:=fun z=>by rw[z,hm]at htc;cases htc
 have ntt:t≠m:=fun z=>by rw[z,hm]at hat;cases hat
 have ntm:tm≠m:=fun z=>by rw[z,hm]at htm;cases htm
 generalize upd H m (.ins cMerge dx (mgF rd nb (li+1) lo' sd best))=H2 at M2 k2 ⊢
 have htc2:=k2 _ _ htc ntc
 have hat2:=k2 _ _ hat ntt
 refine⟨_,rfl,tc,_,_,_,rfl,rfl,SqT.of htc2,c1,_,rfl,t,_,_,_,rfl,rfl,SqT.of hat2,d1,_,_,rfl,rfl,_,rfl,ZbJ (fun g=>?_) (fun g=>?_)⟩
 ·have hgt:lcp (cds zy) z<lcp (cds zx) z:=by have:((lcp (cds zy) z:Nat):Int)<((lcp (cds zx) z:Nat):Int):=of_decide_eq_true g;omega
  obtain⟨bt,el⟩:=ZhV (a:=ea.n) (b:=eb.n) hgt (hge _ hbM _ hy)
  refine⟨_,rfl,q (.ref tc) (some (ea.n,((lcp (cds zx) z:Nat):Int))) s 1 0 H2 (.inr ⟨tc,_,rfl,rfl,htc2⟩) ⟨(Win.both wS' wO hx hy bt).perm pm,fun p hp=>by cases hp;exact⟨_,hx,rfl⟩⟩ ⟨fun a b x' y' wa wb hxa hyb=>?_,fun hno=>?_⟩ (fun _ _=>rfl) (fun C k0 q0 g=>by rw[Qay];exact .ne g wS' wO hx hy nef) (M2.cast rfl (by omega)) (fun b o hb n1 _=>k2 b o hb n1)⟩
  ·have e1:=Qo (wa.one wS')
   have e2:=Qo (wb.one wO)
   subst e1
   subst e2
   have e3:=Qo (hxa.symm.trans hx)
   have e4:=Qo (hyb.symm.trans hy)
   subst e3
   subst e4
   exact⟨t,_,by rw[el];exact hlk,.inl ⟨bt,rfl⟩⟩
  ·rcases hno with z|z
   ·exact nomatch z.one wS'
   ·exact nomatch z.one wO
 ·have hlt:lcp (cds zx) z<lcp (cds zy) z:=by
   have:¬ ((lcp (cds zy) z:Nat):Int)<((lcp (cds zx) z:Nat):Int):=fun e=>g (decide_eq_true e)
   omega
  obtain⟨bt,el⟩:=ZhV (a:=eb.n) (b:=ea.n) hlt (hge _ haM _ hx)
  obtain⟨dx2,hm2⟩:=M2.ob
  have htm2:H2 tm=some (.tup (([.inl (ZL M).1,.inl (ZL M).2]:List Key).map kV)):=k2 _ _ htm' ntm
  refine⟨_,rfl,_,rfl,m,cMerge,dx2,_,_,rfl,hm2,T.cl_Merge,T.na_Merge_stays,Zct ..,_,rfl,sd,_,rfl,ZdW.t (k:=[.inl (ZL M).1,.inl (ZL M).2]) M2.stays htm2 hsl,?_⟩
  rw[show V.ref tc=stV (some (tc,ea.n,((lcp (cds zx) z:Nat):Int))) from rfl,Ze0]
  have hl1:(Zcs s (ZL M) (some (tc,ea.n,((lcp (cds zx) z:Nat):Int)))).length≤100:=by rw[ZeK hlk];exact hsf
  have M3:=M2.put (k:=ZL M) (v:=some (tc,ea.n,((lcp (cds zx) z:Nat):Int))) (fun t ht=>by injection ht with ht;rw[← ht];exact htc2) hl1
  refine⟨_,rfl,q (.ref t) (some (eb.n,((lcp (cds zy) z:Nat):Int))) _ 1 0 _ (.inr ⟨t,_,rfl,rfl,?_⟩) ⟨(Win.both' wS' wO hx hy bt).perm pm,fun p hp=>by cases hp;exact⟨_,hy,rfl⟩⟩ ⟨fun a b x' y' wa wb hxa hyb=>?_,fun hno=>?_⟩ (fun j hj=>by rw[ZaO,if_neg hj]) (fun C k0 q0 g=>by rw[Qay];exact .ne g wS' wO hx hy nef) (M3.cast rfl (by omega)) (fun b o hb n1 n2=>by rw[Zc n2];exact k2 b o hb n1)⟩
  ·rw[Zc (fun z=>by rw[z,M2.stays]at hat2;cases hat2)];exact hat2
  ·have e1:=Qo (wa.one wS')
   have e2:=Qo (wb.one wO)
   subst e1
   subst e2
   have e3:=Qo (hxa.symm.trans hx)
   have e4:=Qo (hyb.symm.trans hy)
   subst e3
   subst e4
   exact⟨tc,_,by rw[ZaO,if_pos rfl,ZbV (cds zx) (cds zy),el],.inr ⟨bt,rfl⟩⟩
  ·rcases hno with z|z
   ·exact nomatch z.one wS'
   ·exact nomatch z.one wO
def Zcq(n:Int)(e:Zr):Zr:=if e.n=n then ⟨e.n,e.p,e.k,e.f,e.ss,e.g+1⟩ else e
def bump(L:List Zr)(n:Int):List Zr:=L.map (Zcq n)
theorem ZbF(n:Int)(e:Zr):(Zcq n e).n=e.n∧(Zcq n e).p=e.p∧(Zcq n e).k=e.k∧(Zcq n e).f=e.f∧(Zcq n e).ss=e.ss:=by unfold Zcq;split<;>exact⟨rfl,rfl,rfl,rfl,rfl⟩
theorem Zem{n:Int}{e:Zr}(h:e.n=n):Zcq n e=⟨e.n,e.p,e.k,e.f,e.ss,e.g+1⟩:=if_pos h
theorem Zfe{n:Int}{e:Zr}(h:¬ e.n=n):Zcq n e=e:=if_neg h
theorem ZbO(L:List Zr)(n:Int):Zw (bump L n)=Zw L:=by
 unfold Zw bump
 rw[Qt]
 exact Q6 fun e _=>(ZbF n e).1
theorem Znh(L:List Zr)(n:Int):(bump L n).map (·.p)=L.map (·.p):=by
 unfold bump
 rw[Qt]
 exact Q6 fun e _=>(ZbF n e).2.1
theorem ZkD(L:List Zr)(n:Int):kvM (bump L n)=kvM L:=by
 unfold kvM bump
 rw[Qt]
 refine Q6 fun e _=>?_
 simp only[Function.comp]
 rw[(ZbF n e).1,(ZbF n e).2.1]
theorem ZmP{m rd sd:Addr}{L:List Zr}{n:Int}{b:Addr}(h:Fp m rd sd (bump L n) b):Fp m rd sd L b:=by
 rcases h with h|h|h|⟨e',he',h⟩
 ·exact .inl h
 ·exact .inr (.inl h)
 ·exact .inr (.inr (.inl h))
 ·obtain⟨e,he,rfl⟩:=Qp.mp he'
  obtain⟨_,h1,h2,h3,_⟩:=ZbF n e
  rw[h1,h2,h3]at h
  exact .inr (.inr (.inr ⟨e,he,h⟩))
theorem Fp_bump'{m rd sd:Addr}{L:List Zr}{n:Int}{b:Addr}(h:Fp m rd sd L b):Fp m rd sd (bump L n) b:=by
 rcases h with h|h|h|⟨e,he,h⟩
 ·exact .inl h
 ·exact .inr (.inl h)
 ·exact .inr (.inr (.inl h))
 ·obtain⟨_,h1,h2,h3,_⟩:=ZbF n e
  refine .inr (.inr (.inr ⟨Zcq n e,Qf he,?_⟩))
  rw[h1,h2,h3]
  exact h
theorem Zjc{n b:Int}(h:b≠n):∀L:List Zr,hdM (bump L n) b=hdM L b
 | []=>rfl
 | e::L=>by
  have ih:=Zjc h L
  unfold hdM hdL bump at ih ⊢
  rw[Qe,Qe,Qe,Qam,Qam]
  have e1:(toL (Zcq n e)).1=e.n:=(ZbF n e).1
  rw[e1]
  by_cases he:e.n=b
  ·rw[decide_eq_true he,decide_eq_true (show (toL e).1=b from he),Zfe (fun z=>h (he.symm.trans z))]
  ·rw[decide_eq_false he,decide_eq_false (show ¬ (toL e).1=b from he)]
   exact ih
theorem Zhy{L:List Zr}(nd:(Zw L).Nodup){e:Zr}(he:e∈L):hdM (bump L e.n) e.n=(e.ss[e.g+1]?).map cds:=by
 have hm:Zcq e.n e∈bump L e.n:=Qf he
 rw[Zem rfl]at hm
 exact Zb6 (L:=bump L e.n) (by rw[ZbO];exact nd) hm
theorem Zex(k f:Addr)(g:Int):ZbX k f g=([("all_keys",.ref k),("fars",.ref f),("gone",.int g)]:List (Str×V)):=by
 unfold ZbX
 rw[Zbe,Zt nFK,Zbe,Zt nGK,Zt nGF,Zbe]
theorem ZfX(k f:Addr)(g v:Int):Zn "gone" (.int v) (ZbX k f g)=ZbX k f v:=by
 rw[Zex,Zex,Zt nGK,Zt nGF,Zcw]
theorem Zl5(k f:Addr)(g:Int):(ZbX k f g).length<1000:=by rw[Zex];show 3<1000;decide
theorem ZjH(k f:Addr)(g:Int):(ZbX k f g).lookup ("fars" : Str)=some (.ref f):=by
 unfold ZbX
 rw[Zj,if_neg nGF,Zj,if_pos rfl]
theorem Zpo{L:List Zr}(pd:(L.map (·.p)).Nodup){e e':Zr}(he:e∈L)(he':e'∈L)(h:e.p=e'.p):e=e':=by
 have n2:((L.map fun x=>(x.p,x)).map (·.1)).Nodup:=by rw[Qt];exact pd
 have:=ZgU n2 (Qf (f:=fun x:Zr=>(x.p,x)) he) (Qf (f:=fun x:Zr=>(x.p,x)) he') h
 injection this
theorem ZQ.bump{cR cM:Addr}{H:Hp}{m rd sd:Addr}{L:List Zr}{s:StL}{nb li lo:Int}{best:V}(M:ZQ cR cM H m rd sd L s nb li lo best){e:Zr}(he:e∈L)(hg:e.g<e.ss.length){dp:Addr} :
  ZQ cR cM (upd H e.p (.ins cR dp (ZbX e.k e.f ((e.g+1:Nat):Int)))) m rd sd (My.bump L e.n) s nb li lo best:=by
 obtain⟨dm,hm⟩:=M.ob
 obtain⟨dq,hp⟩:=(M.each e he).at'.ob
 obtain⟨n1,_,_⟩:=M.ne_p he
 obtain⟨n2,_,_,n3,_,_⟩:=M.ne_sd he
 refine⟨⟨dm,by rw[Zc n1];exact hm⟩,by rw[Zc n3,ZkD];exact M.rows,by rw[Zc n2];exact M.stays,fun x hx t ht=>?_,fun e' he'=>?_,by rw[ZbO];exact M.up,by rw[Znh];exact M.pd,by unfold My.bump;rw[Qa];exact M.few,M.sfew⟩
 ·have:=M.ats x hx t ht
  rw[Zc (fun z=>by rw[z,hp]at this;cases this)];exact this
 ·obtain⟨x,hx,rfl⟩:=Qp.mp he'
  have R:=M.each x hx
  have kne:∀ {y:Zr},y∈L→y.k≠e.p∧y.f≠e.p:=fun {y} hy=>by
   have Ry:=M.each y hy
   exact⟨(fun z=>by have:=Ry.at'.ks;rw[z,hp]at this;cases this),(fun z=>by have:=Ry.at'.fs;rw[z,hp]at this;cases this)⟩
  obtain⟨k1,k2⟩:=kne hx
  by_cases hn:x.n=e.n
  ·have ex:x=e:=by
    have n2:((L.map fun x=>(x.n,x)).map (·.1)).Nodup:=by rw[Qt];exact M.nd
    have:=ZgU n2 (Qf (f:=fun x:Zr=>(x.n,x)) hx) (Qf (f:=fun x:Zr=>(x.n,x)) he) hn
    injection this
   subst ex
   rw[Zem rfl]
   exact⟨⟨⟨dp,Zf⟩,by show (upd H x.p _) x.k=_;rw[Zc k1];exact R.at'.ks,by show (upd H x.p _) x.f=_;rw[Zc k2];exact R.at'.fs⟩,hg,R.len,R.srt,R.str⟩
  ·rw[Zfe hn]
   exact R.keep (Zc (fun z=>hn (by rw[Zpo M.pd hx he z]))) (Zc k1) (Zc k2)
theorem Zpj{L:List Zr}{e:Zr}{x:Str}(nd:(Zw L).Nodup)(up:Z9 (Zw L))(he:e∈L)(hx:e.ss[e.g]? = some x)(srt:sortedS e.ss=true)(W:Win (hdM L) (Zw L) (some e.n)):Tk (hdM L) (hdM (bump L e.n)) (Zw L) e.n (cds x):=by
 refine⟨W,by rw[Zb6 nd he,hx];rfl,fun b hb=>Zjc hb L,fun y hy=>?_,up⟩
 rw[Zhy nd he]at hy
 cases hz:e.ss[e.g+1]? with
 | none=>rw[hz]at hy;cases hy
 | some y'=>rw[hz]at hy;cases hy;exact Zf6 srt e.g x y' hx hz
theorem ZoO{c:Bool}{e1 e2:VK→Prop}{Q:VK}(P:V→Hp→Prop)(h1:c=true→∀Q':VK,(∀v H,P v H→Q' v H)→e1 Q')(h2:c=false→∀Q':VK,(∀v H,P v H→Q' v H)→e2 Q')(q:∀v H,P v H→Q v H):if c=true then e1 Q else e2 Q:=by
 cases c with
 | true=>rw[if_pos rfl];exact h1 rfl Q q
 | false=>rw[if_neg (by decide)];exact h2 rfl Q q
def Zdw(n:Int)(C:List (List Int)):List (List Int×List Int):=C.map fun X=>(Zab X n,Zan X n)
theorem Zhh(rd:Addr)(nb li lo:Int)(sd:Addr)(best:V):(mgF rd nb li lo sd best).lookup ("play_again" : Str)=none:=Zbo _ _ _ _ _ _ (by ac_rfl) (by ac_rfl) (by ac_rfl) (by ac_rfl) (by ac_rfl) (by ac_rfl)
def ZkT(cR cM:Addr):Sp:=fun vs H Q _=>∃ (m rd sd:Addr) (L:List Zr) (s:StL) (nb li lo:Int) (best:V) (e:Zr) (x:Str),vs=[.ref m,.int e.n]∧ZQ cR cM H m rd sd L s nb li lo best∧e∈L∧e.ss[e.g]? = some x∧Win (hdM L) (Zw L) (some e.n)∧ZU (hdM L) s (Zw L) ∧
 ∀ (s':StL) (w':Option Int) (k q:Int) (H':Hp),ZQ cR cM H' m rd sd (bump L e.n) s' nb (li+k) (lo+q) (Zbq w')→Win (hdM (bump L e.n)) (Zw L) w'→ZU (hdM (bump L e.n)) s' (Zw L)→Ag (hdM (bump L e.n)) (cds x) (Zdw e.n (ZT 8 (Zw L) e.n)) k q→(∀b o,H b=some o→¬ Fp m rd sd L b→H' b=some o)→Q .non H'
theorem Zna(T:Zao K mg cRow cMerge)(f_Row_head:Mf P w K mg base 2 cRow "head" ["self"] (ZeD cRow))(f_matches_up:Df P w K mg base 3 "matches_up" ["numbers", "n"] Zgg)(f_Merge_play_again:Mf P w K mg base 4 cMerge "play_again" ["self", "meeting", "comer"] (Zi0 cRow cMerge)):Mf P w K mg base 5 cMerge "send_out" ["self", "number"] (ZkT cRow cMerge):=by
 refine T.t_Merge_send_out.mf Zaq (fun vs H Q E h=>?_) (fun cdv f A outer s H vs Q E hr h=>?_)
 ·obtain⟨m,rd,sd,L,s,nb,li,lo,best,e,x,rfl,_⟩:=h
  rfl
 obtain⟨m,rd,sd,L,s,nb,li,lo',best,e,x,rfl,M,he,hx,W,ok,q⟩:=h
 refine⟨_,#[Zd,#[Zx,2,Zaq.nd,(Or.inl rfl),#[ZF,(ixG hr),#[ZN,‹0›],‹1›]],#[Zd,#[ZcE,‹2›,#[Zh],Zfp],#[Zd,#[Zx,3,Zaq.nd,(Or.inl rfl),#[Zbj,#[Zk,Zbs,#[ZaA,f_Row_head,T.cl_Row,hr,‹2›],#[ZS],(Zo _)],#[ZS],#[Zbf,#[Za,‹1›,#[Za,#[ZF,(ixL K),#[ZN,‹2›],#[ZN,‹2›]],#[Zg]]]]]],#[Zd,#[Zdf,PassesOwn.never,#[iL,K,#[ZC,f_matches_up,hr,#[Za,#[ZcG,Zpz,T.b.n_list,boot_list,#[Za,#[ZN,‹0›],#[Zg]]],#[Za,‹1›,#[Zg]]],(by rfl)]],#[ZJ,4,Zaq.nd],#[Zi,#[Zx,3,Zaq.nd,(Or.inl rfl),#[ZdG,f_Merge_play_again,T.cl_Merge,hr,‹0›,#[Za,‹4›,#[Za,‹3›,#[Zg]]]]]]],#[Zi,#[ZbD,‹0›,#[Zbj,#[Zk,Zbs,‹3›,#[ZS],(Zo _)],#[ZS],#[ZF,(ixT K),‹3›,#[Zh]]]]]]]]],?_⟩
 obtain⟨dx,hm⟩:=M.ob
 have R:=M.each e he
 obtain⟨dp,hp⟩:=R.at'.ob
 have hg:e.g<e.ss.length:=(Qc.mp hx).1
 have tk:=Zpj M.nd M.up he hx R.srt W
 refine⟨_,rfl,m,cMerge,dx,_,_,rfl,hm,T.cl_Merge,T.na_Merge_rows,Zak ..,_,rfl,rd,_,rfl,Za7.k' (k:=.inl e.n) M.rows (Zdn M.nd he),?_⟩
 refine⟨_,rfl,e.p,cRow,dp,_,_,rfl,hp,T.cl_Row,T.na_Row_gone,Zcc ..,_,_,rfl,rfl,dp,_,hp,Zl5 ..,?_⟩
 rw[ZfX,show ((e.g:Int)+1)=((e.g+1:Nat):Int) by omega]
 have M1:=M.bump he hg (dp:=dp)
 have hp1:(upd H e.p (.ins cRow dp (ZbX e.k e.f ((e.g+1:Nat):Int)))) e.p=some (.ins cRow dp (ZbX e.k e.f ((e.g+1:Nat):Int))):=Zf
 have k1:∀b o,H b=some o→b≠e.p→(upd H e.p (.ins cRow dp (ZbX e.k e.f ((e.g+1:Nat):Int)))) b=some o:=fun b o hb n=>by rw[Zc n];exact hb
 generalize upd H e.p (.ins cRow dp (ZbX e.k e.f ((e.g+1:Nat):Int)))=H1 at M1 hp1 k1 ⊢
 have hm':(⟨e.n,e.p,e.k,e.f,e.ss,e.g+1⟩:Zr)∈bump L e.n:=by
  have:Zcq e.n e∈bump L e.n:=Qf he
  rwa [Zem rfl]at this
 have R1:=M1.each _ hm'
 have keep1:∀ {H2:Hp},(∀b o,H1 b=some o→b≠m→b≠sd→H2 b=some o)→∀b o,H b=some o→¬ Fp m rd sd L b→H2 b=some o:=fun {H2} k b o hb nf =>
  k b o (k1 b o hb fun z=>nf (.inr (.inr (.inr ⟨e,he,.inl z⟩)))) (fun z=>nf (.inl z)) (fun z=>nf (.inr (.inr (.inl z))))
 have hpos:e.n∈Zw L:=W.1
 have h60:(Zw L).length≤60:=by unfold Zw;rw[Qa];exact M.few
 have hpw:(Zw L).length≤2 ^ 8:=QH h60 (by decide)
 obtain⟨cok,ctop,clen⟩:=Zff 8 (Zw L) e.n hpos hpw
 have hgo:hdM (bump L e.n) e.n=(e.ss[e.g+1]?).map cds:=Zhy M.nd he
 have hdd:∀ (c:Com),(c=none∧e.ss[e.g+1]? = none)∨(∃y,e.ss[e.g+1]? = some y∧c=some (e.n,((lcp (cds y) (cds x):Nat):Int)))→ZhJ (hdM (bump L e.n)) (cds x) [e.n] c:=fun c hc=>by
  have hw:=Win.sing (hd:=hdM (bump L e.n)) (n:=e.n)
  rcases hc with⟨rfl,hn⟩|⟨y,hy,rfl⟩
  ·rw[hgo,hn]at hw
   exact⟨hw,fun p hp=>by cases hp⟩
  ·rw[hgo,hy]at hw
   exact⟨hw,fun p hp=>by cases hp;exact⟨cds y,by rw[hgo,hy];rfl,rfl⟩⟩
 refine⟨_,rfl,e.p,dp,_,rfl,hp1,Za9 ..,e.p,e.k,e.f,e.ss,e.g+1,rfl,R1.at',rfl,_,rfl,?_⟩
 rw[ZhK]
 refine ZoO (fun v H2=>Zz H1 H2∧∃c,CV H2 v c∧ZhJ (hdM (bump L e.n)) (cds x) [e.n] c) (fun d Q' hq=>?_) (fun d Q' hq=>?_) (fun v H2 ⟨s2,c,hcv,hok⟩=>?_)
 ·have hn:e.ss[e.g+1]? = none:=by
   have:=of_decide_eq_true d
   cases hy:e.ss[e.g+1]? with
   | none=>rfl
   | some y=>rw[hy]at this;cases this
  exact hq _ _ ⟨Zz.refl _,none,.inl ⟨rfl,rfl⟩,hdd none (.inl ⟨rfl,hn⟩)⟩
 ·obtain⟨y,hy⟩:∃y,e.ss[e.g+1]? = some y:=by
   cases hy:e.ss[e.g+1]? with
   | none=>rw[hy]at d;exact absurd rfl (of_decide_eq_false d)
   | some y=>exact⟨y,rfl⟩
  have hyl:e.g+1<e.ss.length:=(Qc.mp hy).1
  have hal:Zcb e.ss (e.g+1)=((lcp (cds y) (cds x):Nat):Int):=by
   unfold Zcb
   rw[if_neg (by omega),Qaa,QC,QC,hx,hy,ZbV]
   rfl
  have hat:atI ((List.range e.ss.length).map fun j=>V.int (Zcb e.ss j)) ((e.g+1:Nat):Int)=some (.int ((lcp (cds y) (cds x):Nat):Int)):=Zay (by rw[Qv,List.getElem?_range hyl,← hal];rfl)
  refine⟨_,rfl,_,rfl,e.p,cRow,dp,_,_,rfl,hp1,T.cl_Row,T.na_Row_fars,ZjH ..,_,rfl,e.p,cRow,dp,_,_,rfl,hp1,T.cl_Row,T.na_Row_gone,Zcc ..,e.f,_,_,_,rfl,rfl,SqL.of R1.at'.fs,hat,(by show 2≤sizeLine;decide),fun tc htc=>?_⟩
  exact hq _ _ ⟨Zl htc _,some (e.n,((lcp (cds y) (cds x):Nat):Int)),.inr ⟨tc,_,rfl,rfl,Zf⟩,hdd _ (.inr ⟨y,hy,rfl⟩)⟩
 have M2:=M1.same s2
 obtain⟨dx2,hm2⟩:=M2.ob
 refine⟨_,rfl,m,cMerge,dx2,_,_,rfl,hm2,T.cl_Merge,T.na_Merge_rows,Zak ..,rd,_,rfl,M2.rows,fun l hl=>?_⟩
 rw[ZlC,ZbO]
 have s3:=s2.trans (Zl hl (.lst ((Zw L).map V.int)))
 have hl3:(upd H2 l (.lst ((Zw L).map V.int))) l=some (.lst ((Zw L).map V.int)):=Zf
 have hcv3:CV (upd H2 l (.lst ((Zw L).map V.int))) v c:=hcv.keep fun t xs ht=>Zl hl _ _ _ ht
 generalize upd H2 l (.lst ((Zw L).map V.int))=H3 at s3 hl3 hcv3 ⊢
 refine⟨_,rfl,l,Zw L,e.n,rfl,hl3,hpos,h60,M.up,fun r ts H4 hr0 hr4 htl hts s4=>?_⟩
 have s14:=s3.trans s4
 have M4:=M1.same s14
 have hcv4:CV H4 v c:=hcv3.keep fun t xs ht=>s4 _ _ ht
 refine⟨r,rfl,⟨_,SqL.of hr4⟩,?_⟩
 obtain⟨dm4,hm4⟩:=M4.ob
 obtain⟨dm1,hm1⟩:=M1.ob
 have nrm:r≠m:=(Zb (s3 _ _ hm1) hr0).symm
 have nrs:r≠sd:=(Zb (s3 _ _ M1.stays) hr0).symm
 refine Zfu (K:=K) (a:=r) (xs:=ts.map V.ref) (fun i σ H5=>∃ (v':V) (c':Com) (s':StL) (k q':Int) (v4:Option V),σ=[some (.ref m),some (.int e.n),some (.ref e.p),some v',v4]∧i≤ts.length∧CV H5 v' c'∧ZhJ (hdM (bump L e.n)) (cds x) (low e.n (ZT 8 (Zw L) e.n) i) c'∧ZQ cRow cMerge H5 m rd sd (bump L e.n) s' nb (li+k) (lo'+q') best∧ZU (hdM (bump L e.n)) s' (low e.n (ZT 8 (Zw L) e.n) i)∧(∀j,¬ Kys (low e.n (ZT 8 (Zw L) e.n) i) j→ZP s' j=ZP s j)∧Ag (hdM (bump L e.n)) (cds x) (Zdw e.n ((ZT 8 (Zw L) e.n).take i)) k q'∧(∀b o,H4 b=some o→b≠m→b≠sd→H5 b=some o)) ?_ (fun i σ H5 _ hq=>by obtain⟨_,_,_,_,_,_,_,_,_,_,_,_,_,_,k5⟩:=hq;exact SqL.of (k5 _ _ hr4 nrm nrs)) ?_ ?_
 ·refine⟨v,c,s,0,0,_,rfl,Qn _,hcv4,hok,M4.cast (by omega) (by omega),fun X hX h2=>?_,fun _ _=>rfl,.nil,fun b o h _ _=>h⟩
  have:=Zep hX
  rcases this with rfl|⟨g,_⟩
  ·exact absurd h2 (by show ¬ 2≤1;decide)
  ·exact absurd g (by show ¬ 2≤1;decide)
 ·rintro i y σ H5 hy ⟨v',c',s',k,q',v4,rfl,hi,hcv5,hok5,M5,nok,hlk,ag,k5⟩
  rw[Qv]at hy
  cases hz:ts[i]? with
  | none=>rw[hz]at hy;cases hy
  | some t =>
  rw[hz]at hy
  cases hy
  have hil:i<ts.length:=(Qc.mp hz).1
  cases hX:(ZT 8 (Zw L) e.n)[i]? with
  | none=>rw[Qah]at hX;omega
  | some X =>
  obtain⟨x1,x2,x3,x4⟩:=cok i X hX
  have hup:=x1.rise M.up
  have e3:low e.n (ZT 8 (Zw L) e.n) (i+1)=X:=by show (ZT 8 (Zw L) e.n).getD i []=X;rw[QC,hX];rfl
  have ht5:H5 t=some (.tup [.int (ZL X).1,.int (ZL X).2]):=k5 _ _ (hts i t X hz hX) (fun z=>by have:=hts i t X hz hX;rw[z,hm4]at this;cases this) (fun z=>by have:=hts i t X hz hX;rw[z,M4.stays]at this;cases this)
  obtain⟨dm5,hm5⟩:=M5.ob
  rw[← x4]at hok5 nok hlk
  have was:=ZkF tk x1 x2 x3 ok
  have hkey:ZP s' (ZL X)=ZP s (ZL X):=hlk _ fun z=>(ZhX hup x2 z).1 rfl
  refine⟨_,rfl,m,dm5,_,rfl,hm5,Zhh ..,_,rfl,_,rfl,m,rd,sd,bump L e.n,s',nb,_,_,best,t,v',c',cds x,X,e.n,rfl,M5,ht5,hcv5,hok5,?_,fun b hb y hy=>tk.ge (x1.mem hb) hy,hup,fun b hb=>by rw[ZbO];exact x1.mem hb,x2,x3,fun v6 c6 s6 k6 q6 H6 hcv6 hok6 hnd6 hoth6 hag6 M6 k6'=>?_⟩
  ·rw[hkey]
   rcases was with w|⟨t',b,y,w1,w2,_,w4⟩
   ·exact .inl w
   ·exact .inr ⟨t',b,y,w1,w2,w4⟩
  ·refine⟨v6,c6,s6,k+k6,q'+q6,_,rfl,hil,hcv6,by rw[e3];exact hok6,M6.cast (by omega) (by omega),?_,fun j hj=>?_,?_,fun b o hb n1 n2=>k6' b o (k5 b o hb n1 n2) n1 n2⟩
   ·rw[e3]
    refine Zj9 (n:=e.n) (nok.congr (fun _ _=>rfl) fun j hj=>hoth6 j (ZhX hup x2 hj).1) ?_ hnd6
    have hno:=Ze8 hup (Zdm x3)
    have so:Sub X (Zan X e.n):=by unfold Zan;split;exact Sub.top.up x2;exact Sub.top.lo x2
    refine(ok.sub (x1.trans so)).congr (fun b hb=>tk.oth b fun z=>hno (z ▸ hb)) fun j hj=>?_
    rw[hoth6 j (Zho hup x2 hj).1,hlk j (Zho hup x2 hj).2]
   ·rw[e3]at hj
    rw[hoth6 j (fun z=>hj ⟨X,.top,x2,z⟩),hlk j (fun hq=>by obtain⟨Y,y1,y2,y3⟩:=hq;exact hj ⟨Y,(Zhp x2 e.n).trans y1,y2,y3⟩)]
   ·have:=hag6 _ _ _ ag
    unfold Zdw at this ⊢
    rw[QI,hX,Qh]
    exact this
 ·rintro σ H5 ⟨v',c',s',k,q',v4,rfl,_,hcv5,hok5,M5,nok,hlk,ag,k5⟩
  rw[Qa,htl,ctop]at hok5 nok
  rw[Qa,htl,Qx (Qg _)]at ag
  obtain⟨dm5,hm5⟩:=M5.ob
  have fin:∀w':Option Int,w'=c'.map (·.1)→Q .non (upd H5 m (.ins cMerge dm5 (mgF rd nb (li+k) (lo'+q') sd (Zbq w')))):=fun w' ew=>by
   subst ew
   refine q s' _ k q' _ M5.obj hok5.1 nok ag fun b o hb nf=>?_
   rw[Zc (fun z=>nf (.inl z))]
   exact keep1 (fun b o hb n1 n2=>k5 b o (s14 b o hb) n1 n2) b o hb nf
  rcases hcv5 with⟨rfl,rfl⟩|⟨t,p,rfl,rfl,ht⟩
  ·refine⟨_,rfl,rfl,_,rfl,Zcm rfl ?_⟩
   refine⟨_,rfl,m,cMerge,dm5,_,rfl,hm5,T.cl_Merge,T.na_Merge_best,ZbI ..,?_⟩
   rw[ZbG]
   exact fin none rfl
  ·refine⟨_,rfl,rfl,_,rfl,ZbC (fun z=>nomatch z) ?_⟩
   refine⟨_,rfl,t,_,_,_,rfl,rfl,SqT.of ht,(show atI [V.int p.1,V.int p.2] 0=some (.int p.1) from Zay (j:=0) rfl),_,rfl,m,cMerge,dm5,_,rfl,hm5,T.cl_Merge,T.na_Merge_best,ZbI ..,?_⟩
   rw[ZbG]
   exact fin (some p.1) rfl
def ZhF(L:List Zr)(w:Option Int)(x:V)(L':List Zr)(k q:Int)(H':Hp):Prop :=
 (w=none∧x=.non∧L'=L∧k=0∧q=0)∨∃ (e:Zr) (t:Addr) (z:Str),e∈L∧w=some e.n∧x=.ref t∧e.ss[e.g]? = some z∧H' t=some (.tup [.int e.n,.int (e.g:Int),.str z])∧L'=bump L e.n∧Ag (hdM L') (cds z) (Zdw e.n (ZT 8 (Zw L) e.n)) k q
theorem ZiM(rd:Addr)(nb li lo:Int)(sd:Addr)(best:V):(mgF rd nb li lo sd best).lookup ("send_out" : Str)=none:=Zbo _ _ _ _ _ _ (by ac_rfl) (by ac_rfl) (by ac_rfl) (by ac_rfl) (by ac_rfl) (by ac_rfl)
theorem ZiH(rd:Addr)(nb li lo:Int)(sd:Addr)(best:V):(mgF rd nb li lo sd best).lookup ("take" : Str)=none:=Zbo _ _ _ _ _ _ (by ac_rfl) (by ac_rfl) (by ac_rfl) (by ac_rfl) (by ac_rfl) (by ac_rfl)
def ZoT(cR cM:Addr):Sp:=fun vs H Q _=>∃ (m rd sd:Addr) (L:List Zr) (s:StL) (nb li lo:Int) (w:Option Int),vs=[.ref m]∧ZQ cR cM H m rd sd L s nb li lo (Zbq w)∧Win (hdM L) (Zw L) w∧ZU (hdM L) s (Zw L) ∧
 ∀ (x:V) (L':List Zr) (s':StL) (w':Option Int) (k q:Int) (H':Hp),ZhF L w x L' k q H'→ZQ cR cM H' m rd sd L' s' nb (li+k) (lo+q) (Zbq w')→Win (hdM L') (Zw L') w'→ZU (hdM L') s' (Zw L')→(∀b o,H b=some o→¬ Fp m rd sd L b→H' b=some o)→Q x H'
theorem ZmR(T:Zao K mg cRow cMerge)(f_Merge_coming:Mf P w K mg base 3 cMerge "coming" ["self"] (Zfl cRow cMerge))(f_Merge_send_out:Mf P w K mg base 5 cMerge "send_out" ["self", "number"] (ZkT cRow cMerge)):Mf P w K mg base 6 cMerge "take" ["self"] (ZoT cRow cMerge):=by
 refine T.t_Merge_take.mf ZdF (fun vs H Q E h=>?_) (fun cdv f A outer s H vs Q E hr h=>?_)
 ·obtain⟨m,rd,sd,L,s,nb,li,lo,w,rfl,_⟩:=h
  rfl
 obtain⟨m,rd,sd,L,s,nb,li,lo',w,rfl,M,W,ok,q⟩:=h
 refine⟨_,#[Zd,#[Zx,1,ZdF.nd,(Or.inl rfl),#[ZaA,f_Merge_coming,T.cl_Merge,hr,‹0›]],#[Zd,#[Zac,#[Zk,ZcI,‹1›,#[ZS],(Zo _)],#[Zi,#[Zaz,#[ZdG,f_Merge_send_out,T.cl_Merge,hr,‹0›,#[Za,#[ZN,‹0›],#[Zg]]]]],#[ZG]],#[Zi,#[Zq,‹1›]]]],?_⟩
 obtain⟨dx,hm⟩:=M.ob
 refine⟨_,rfl,m,dx,_,rfl,hm,ZcS ..,m,rd,sd,L,s,nb,li,lo',w,rfl,M,W,fun x H1 hc s1=>?_⟩
 have M1:=M.same s1
 rcases hc with⟨rfl,hw⟩|⟨t,e',z,rfl,he',hz,ht,hw⟩
 ·have hw':Win (hdM L) (Zw L) none:=by rw[Zby]at hw;exact hw
  have ew:=W.one hw'
  subst ew
  exact⟨_,rfl,rfl,_,rfl,Zcv rfl ⟨_,rfl,q .non L s none 0 0 H1 (.inl ⟨rfl,rfl,rfl,rfl,rfl⟩) (M1.cast (by omega) (by omega)) W ok (fun b o hb _=>s1 b o hb)⟩⟩
 ·obtain⟨e,he,rfl⟩:=Qp.mp he'
  have hw':Win (hdM L) (Zw L) (some e.n):=by rw[Zby]at hw;exact hw
  have ew:=W.one hw'
  subst ew
  obtain⟨dx1,hm1⟩:=M1.ob
  refine⟨_,rfl,rfl,_,rfl,Zed (fun z=>nomatch z) ?_⟩
  refine⟨_,rfl,m,dx1,_,rfl,hm1,ZiM ..,_,rfl,m,cMerge,dx1,_,_,rfl,hm1,T.cl_Merge,T.na_Merge_best,Zd9 ..,m,rd,sd,L,s,nb,li,lo',_,e,z,rfl,M1,he,hz,W,ok,fun s' w' k q' H2 M2 W2 ok2 ag k2=>?_⟩
  have ht2:H2 t=some (.tup [.int e.n,.int (e.g:Int),.str z]):=k2 _ _ ht fun hf=>by
   have ht':=ht
   rcases hf with h|h|h|⟨y,hy,h⟩
   ·rw[h,hm1]at ht';cases ht'
   ·rw[h,M1.rows]at ht';cases ht'
   ·rw[h,M1.stays]at ht';cases ht'
   ·have R:=(M1.each y hy).at'
    obtain⟨dy,hdy⟩:=R.ob
    rcases h with h|h|h
    ·rw[h,hdy]at ht';cases ht'
    ·rw[h,R.ks]at ht';cases ht'
    ·rw[h,R.fs]at ht';cases ht'
  exact⟨_,rfl,q (.ref t) (bump L e.n) s' w' k q' H2 (.inr ⟨e,t,z,he,rfl,rfl,hz,ht2,rfl,ag⟩) M2 (by rw[ZbO];exact W2) (by rw[ZbO];exact ok2) (fun b o hb nf=>k2 b o (s1 b o hb) nf)⟩
abbrev Za4:=Int×List Str×Nat
def pur(Lo:List ZaQ):List Za4:=Lo.map fun e=>(e.1,e.2.2)
def ZaJ(L:List Zr):List Za4:=L.map fun e=>(e.n,(e.ss,e.g))
def hdP(P:List Za4):Hd:=hdL (P.map fun x=>(x.1,0,x.2))
def Zei(P:List Za4):List Int:=P.map (·.1)
def Zgl(n:Int)(x:Za4):Za4:=if x.1=n then (x.1,x.2.1,x.2.2+1) else x
def Zd4(P:List Za4)(n:Int):List Za4:=P.map (Zgl n)
theorem ZeZ(L:List Zr):hdM L=hdP (ZaJ L):=Zjn _ _ (by unfold ZaJ;rw[Qt,Qt,Qt];rfl)
theorem Zcy(L:List Zr):Zw L=Zei (ZaJ L):=by unfold Zei ZaJ Zw;rw[Qt];rfl
theorem Zf0(L:List Zr)(n:Int):ZaJ (bump L n)=Zd4 (ZaJ L) n:=by
 unfold ZaJ bump Zd4
 rw[Qt,Qt]
 refine Q6 fun e _=>?_
 simp only[Function.comp]
 unfold Zgl
 by_cases h:e.n=n
 ·rw[Zem h,if_pos h]
 ·rw[Zfe h,if_neg h]
def Zpm(n:Int)(e:ZaQ):ZaQ:=if e.1=n then (e.1,e.2.1,e.2.2.1,e.2.2.2+1) else e
def Zo6(Lo:List ZaQ)(n:Int):List ZaQ:=Lo.map (Zpm n)
theorem Zoj{P:List Za4}(nd:(Zei P).Nodup){x:Za4}(h:x∈P):hdP P x.1=(x.2.1[x.2.2]?).map cds :=
 ZiE (L:=P.map fun x:Za4=>((x.1,0,x.2):ZaQ)) (e:=(x.1,0,x.2)) (by rw[Qt];exact nd) (Qf (f:=fun x:Za4=>((x.1,0,x.2):ZaQ)) h)
def ZkS(P:List Za4)(x:Za4)(z:Str)(k q:Int):Prop:=x∈P∧x.2.1[x.2.2]? = some z∧Win (hdP P) (Zei P) (some x.1)∧Ag (hdP (Zd4 P x.1)) (cds z) (Zdw x.1 (ZT 8 (Zei P) x.1)) k q
abbrev ZkG:=Int×Nat×Str
inductive Zjo (P:List Za4):List ZkG→List Za4→Int→Int→Prop
 | nil:Zjo P [] P 0 0
 | snoc {ts:List ZkG} {P1:List Za4} {x:Za4} {z:Str} {k q k1 q1:Int}:Zjo P ts P1 k q→ZkS P1 x z k1 q1→Zjo P (ts++[(x.1,x.2.2,z)]) (Zd4 P1 x.1) (k+k1) (q+q1)
inductive ZeV:List Za4→Int→Int→Prop
 | stop {P:List Za4}:Win (hdP P) (Zei P) none→ZeV P 0 0
 | go {P:List Za4} {x:Za4} {z:Str} {k q k1 q1:Int}:ZkS P x z k1 q1→ZeV (Zd4 P x.1) k q→ZeV P (k1+k) (q1+q)
def ZaD(P:List Za4):Nat:=(P.map fun x=>x.2.1.length-x.2.2).sum
theorem Zge:∀ (P:List Za4),(Zei P).Nodup→∀ {x:Za4},x∈P→x.2.2<x.2.1.length→ZaD (Zd4 P x.1)+1=ZaD P
 | [],_,_,h,_=>by cases h
 | y::P,nd,x,h,hlt=>by
  unfold Zei at nd
  rw[Qe,QK]at nd
  unfold ZaD Zd4
  rw[Qe,Qe,Qe,QJ,QJ]
  rcases QG.mp h with rfl|h
  ·have e:P.map (Zgl x.1)=P:=by
    conv=>rhs;rw[← List.map_id P]
    refine Q6 fun u hu=>?_
    unfold Zgl
    rw[if_neg (fun z:u.1=x.1=>nd.1 (z ▸ Qf (f:=fun x:Za4=>x.1) hu))]
    rfl
   rw[e]
   unfold Zgl
   rw[if_pos rfl]
   show x.2.1.length-(x.2.2+1)+_+1=_
   omega
  ·have ih:=Zge P nd.2 h hlt
   unfold ZaD Zd4 at ih
   have e:Zgl x.1 y=y:=if_neg (fun z:y.1=x.1=>nd.1 (z ▸ Qf (f:=fun x:Za4=>x.1) h))
   rw[e]
   omega
theorem Zkr{L L':List Zr}{w:Option Int}{x:V}{k q:Int}{H:Hp}(W:Win (hdM L) (Zw L) w)(h:ZhF L w x L' k q H):(Win (hdP (ZaJ L)) (Zei (ZaJ L)) none∧x=.non∧L'=L∧k=0∧q=0)∨∃ (y:Za4) (z:Str) (t:Addr),ZkS (ZaJ L) y z k q∧ZaJ L'=Zd4 (ZaJ L) y.1∧x=.ref t∧H t=some (.tup [.int y.1,.int (y.2.2:Int),.str z]):=by
 rw[ZeZ,Zcy]at W
 rcases h with⟨rfl,h1,h2,h3,h4⟩|⟨e,t,z,he,rfl,rfl,hz,ht,rfl,ag⟩
 ·exact .inl ⟨W,h1,h2,h3,h4⟩
 ·refine .inr ⟨(e.n,(e.ss,e.g)),z,t,⟨Qf (f:=fun e:Zr=>(e.n,(e.ss,e.g))) he,hz,W,?_⟩,Zf0 L e.n,rfl,ht⟩
  rw[ZeZ,Zf0,Zcy]at ag
  exact ag
def spFew(K:PySem.W.Frag)(cR cM:Addr):Sp:=fun vs H Q _=>∃ (m rd sd:Addr) (L:List Zr) (s:StL) (nb li lo:Int) (w:Option Int) (many:Int),vs=[.ref m,.int many]∧ZQ cR cM H m rd sd L s nb li lo (Zbq w)∧Win (hdM L) (Zw L) w∧ZU (hdM L) s (Zw L)∧ZaD (ZaJ L)≤100000 ∧
 ∀ (r:Addr) (us:List (Addr×ZkG)) (L':List Zr) (s':StL) (w':Option Int) (k q:Int) (H':Hp),H r=none→H' r=some (.lst (us.map fun u=>V.ref u.1))→(∀u∈us,H' u.1=some (.tup [.int u.2.1,.int (u.2.2.1:Int),.str u.2.2.2]))→Zjo (ZaJ L) (us.map (·.2)) (ZaJ L') k q→((us.length:Int)<many→w'=none)→(us≠[]→(us.length:Int)≤many)→ZQ cR cM H' m rd sd L' s' nb (li+k) (lo+q) (Zbq w')→Win (hdM L') (Zw L') w'→ZU (hdM L') s' (Zw L')→(∀b,Fp m rd sd L' b↔Fp m rd sd L b)→(∀b o,H b=some o→¬ Fp m rd sd L b→H' b=some o)→Q (.ref r) H'
theorem ZhF.fp{L L':List Zr}{w:Option Int}{x:V}{k q:Int}{H:Hp}(h:ZhF L w x L' k q H){m rd sd b:Addr}:Fp m rd sd L' b↔Fp m rd sd L b:=by
 rcases h with⟨_,_,rfl,_⟩|⟨e,t,z,_,_,_,_,_,rfl,_⟩
 ·exact Iff.rfl
 ·exact⟨ZmP,Fp_bump'⟩
def spLWay:Sp:=fun vs H Q _=>∃ (a:Addr) (N:List Int) (n:Int),vs=[.ref a,.int n]∧H a=some (.lst (N.map V.int))∧n∈N∧N.length≤60∧Z9 N ∧
 ∀ (r:Addr) (ts:List (Addr×Addr×Addr)) (H':Hp),H r=none→H' r=some (.lst (ts.map fun t=>V.ref t.1))→ts.length=(ZT 8 N n).length→(∀ (i:Nat) (t:Addr×Addr×Addr) (X:List Int),ts[i]? = some t→(ZT 8 N n)[i]? = some X→H' t.1=some (.tup [.ref t.2.1,.ref t.2.2])∧H' t.2.1=some (.lst ((Zab X n).map V.int))∧H' t.2.2=some (.lst ((Zan X n).map V.int)))→Zz H H'→Q (.ref r) H'
def Zn5(Lo:List ZaQ)(x:V)(Lo':List ZaQ)(k q:Int)(H':Hp):Prop :=
 (x=.non∧Win (hdL Lo) (Lo.map (·.1)) none∧Lo'=Lo∧k=0∧q=0)∨∃ (e:ZaQ) (t:Addr) (z:Str),e∈Lo∧Win (hdL Lo) (Lo.map (·.1)) (some e.1)∧x=.ref t∧e.2.2.1[e.2.2.2]? = some z∧H' t=some (.tup [.int e.1,.int (e.2.2.2:Int),.str z])∧Lo'=Zo6 Lo e.1∧Ag (hdL Lo') (cds z) (Zdw e.1 (ZT 8 (Lo.map (·.1)) e.1)) k q
def spLTaken:Sp:=fun vs H Q _=>∃ (o ra ga:Addr) (Lo:List ZaQ) (nb li lo:Int),vs=[.ref o]∧Own H o ra ga Lo nb li lo∧(Lo.map (·.1)).Pairwise (·<·) ∧
 ∀ (x:V) (Lo':List ZaQ) (k q:Int) (H':Hp),Zn5 Lo x Lo' k q H'→Own H' o ra ga Lo' nb (li+k) (lo+q)→(∀b u,H b=some u→b≠o→b≠ga→H' b=some u)→Q x H'
structure MS where
 m:Addr
 rd:Addr
 sd:Addr
 L:List Zr
 s:StL
 nb:Int
 li:Int
 lo:Int
 w:Option Int
structure OS where
 o:Addr
 ra:Addr
 ga:Addr
 Lo:List ZaQ
 nb:Int
def Zqu(Y:OS)(b:Addr):Prop:=b=Y.o∨b=Y.ra∨b=Y.ga∨∃e∈Y.Lo,b=e.2.1
def MFp(X:MS)(b:Addr):Prop:=Fp X.m X.rd X.sd X.L b
structure MOk (cR cM:Addr) (H:Hp) (X:MS):Prop where
 M:ZQ cR cM H X.m X.rd X.sd X.L X.s X.nb X.li X.lo (Zbq X.w)
 W:Win (hdM X.L) (Zw X.L) X.w
 ok:ZU (hdM X.L) X.s (Zw X.L)
structure Pair (cR cM:Addr) (H:Hp) (X:MS) (Y:OS):Prop where
 mg:MOk cR cM H X
 ow:Own H Y.o Y.ra Y.ga Y.Lo Y.nb X.li X.lo
 ag:Agr Y.Lo X.L
 sep:∀b,MFp X b→¬ Zqu Y b
theorem MOk.same{cR cM:Addr}{H H':Hp}{X:MS}(h:MOk cR cM H X)(s:Zz H H'):MOk cR cM H' X:=⟨h.M.same s,h.W,h.ok⟩
theorem MOk.keep{cR cM:Addr}{H H':Hp}{X:MS}(h:MOk cR cM H X)(k:∀b o,H b=some o→MFp X b∨(∃xs,o=.tup xs)→H' b=some o):MOk cR cM H' X:=⟨h.M.keep k,h.W,h.ok⟩
theorem Zj0{P:List Za4}(nd:(Zei P).Nodup)(h:Win (hdP P) (Zei P) none)(ok:∀x∈P,x.2.2≤x.2.1.length):ZaD P=0:=by
 unfold ZaD
 have:∀l:List Nat,(∀a∈l,a=0)→l.sum=0:=fun l hl=>by
  induction l with
  | nil=>rfl
  | cons b r ih=>rw[QJ,hl b (by simp),ih fun a ha=>hl a (Qm _ ha)]
 refine this _ fun a ha=>?_
 obtain⟨x,hx,rfl⟩:=Qp.mp ha
 have hh:=h x.1 (Qf (f:=fun x:Za4=>x.1) hx)
 rw[Zoj nd hx]at hh
 cases hg:x.2.1[x.2.2]? with
 | none=>rw[Qah]at hg;show x.2.1.length-x.2.2=0;omega
 | some y=>rw[hg]at hh;cases hh
def Zml(rs:List (Addr×List Str)):List Za4:=(Zek 0 rs.length).zip (rs.map fun x=>(x.2,0))
theorem Zji{α β γ:Type}(f:α→β)(g:α→γ):∀l:List α,l.map (fun x=>(f x,g x))=(l.map f).zip (l.map g)
 | []=>rfl
 | x::r=>by rw[Qe,Qe,Qe,List.zip_cons_cons,Zji f g r]
theorem ZkM{L:List Zr}{rs:List (Addr×List Str)}(h:Zn1 L rs):ZaJ L=Zml rs:=by
 unfold ZaJ Zml
 rw[Zji (fun e:Zr=>e.n) (fun e=>(e.ss,e.g)) L,← h.1,← h.2];rfl
theorem ZkL(rs:List (Addr×List Str)):ZaD (Zml rs)=(rs.map fun x=>x.2.length).sum:=by
 unfold ZaD Zml
 have e:((Zek 0 rs.length).zip (rs.map fun x=>(x.2,0))).map (fun x:Za4=>x.2.1.length-x.2.2)=((((Zek 0 rs.length).zip (rs.map fun x=>(x.2,0))).map (·.2))).map (fun y:List Str×Nat=>y.1.length-y.2):=by rw[Qt];rfl
 rw[e,List.map_snd_zip (by rw[Qa,Zeb];exact Qg _),Qt]
 rfl
def Zly(K:PySem.W.Frag)(cR cM:Addr):Sp:=fun vs H Q _=>∃ (m rd sd:Addr) (L:List Zr) (s:StL) (nb li lo:Int) (best:V) (r:Addr) (ss:List Str),vs=[.ref m,.ref r]∧ZQ cR cM H m rd sd L s nb li lo best∧(∀e∈L,e.n<nb)∧L.length<16∧H r=some (.lst (ss.map V.str))∧ss.length≤100∧(∀x∈ss,x.length≤1000∧AZ x)∧sortedS ss=true ∧
 ∀ (e:Zr) (sd':Addr) (s':StL) (w:Option Int) (k q:Int) (H':Hp),e.n=nb→e.ss=ss→e.g=0→H e.p=none→H e.k=none→H e.f=none→H sd'=none→Win (hdM (L++[e])) (Zw (L++[e])) w→ZcY (hdM (L++[e])) s' 8 (Zw (L++[e]))→Zc1 (hdM (L++[e])) 8 (Zw (L++[e])) k q→ZQ cR cM H' m rd sd' (L++[e]) s' (nb+1) (li+k) (lo+q) (Zbq w)→(∀b o,H b=some o→b≠m→b≠rd→H' b=some o)→Q (.int nb) H'
theorem Zil(T:Zao K mg cRow cMerge)(f_refuse_break:Df P w K mg base 5 "refuse_break" ["number", "keys"] (Zd6 K))(f_Row_init:Cf P w K mg base 4 cRow "Row" ["self", "keys"] (Zey cRow))(f_Merge_play_all:Mf P w K mg base 13 cMerge "play_all" ["self"] (Zds cRow cMerge)):Mf P w K mg base 14 cMerge "add_row" ["self", "row"] (Zly K cRow cMerge):=by
 refine T.t_Merge_add_row.mf ZcC (fun vs H Q E h=>?_) (fun cdv f A outer s H vs Q E hr h=>?_)
 ·obtain⟨m,rd,sd,L,s,nb,li,lo,best,r,ss,rfl,_⟩:=h
  rfl
 obtain⟨m,rd,sd,L,s,nb,li,lo',best,r,ss,rfl,M,hlt,h16,hr0,l100,laz,hsrt,q⟩:=h
 refine⟨_,#[Zd,#[Zx,2,ZcC.nd,(Or.inl rfl),#[ZN,‹0›]],#[Zd,#[Zaz,#[ZC,f_refuse_break,hr,#[Za,‹2›,#[Za,‹1›,#[Zg]]],(by rfl)]],#[Zd,#[Zac,#[Zk,ZnF,#[Zu,ZlH,T.b.n_len,Qw,#[Za,#[ZN,‹0›],#[Zg]]],(@Znm _ _ _ _ T.g_MOST_ROWS (by rfl) (by decide)),(Zo _)],#[Zi,(@ZgI _ _)],#[ZG]],#[Zd,#[ZaX,#[Zl7,f_Row_init,hr,#[Za,‹1›,#[Zg]]],#[ZcK,#[ZN,‹0›],‹2›,(ZiL hr)]],#[Zd,#[ZcE,‹0›,#[Zh],Zfp],#[Zd,#[Zaz,#[ZaA,f_Merge_play_all,T.cl_Merge,hr,‹0›]],#[Zi,#[Zq,‹2›]]]]]]]],?_⟩
 obtain⟨dx,hm⟩:=M.ob
 refine⟨_,rfl,m,cMerge,dx,_,_,rfl,hm,T.cl_Merge,T.na_Merge_next_number,ZfH ..,?_⟩
 refine⟨_,rfl,_,rfl,nb,r,ss,rfl,SqL.of hr0,by omega,fun x hx=>(laz x hx).1,Zjl hsrt,fun H1 s1=>?_⟩
 have M1:=M.same s1
 have hm1:=s1 _ _ hm
 have hkl:(((kvM L).length:Nat):Int)=(L.length:Int):=by unfold kvM;rw[Qa]
 refine⟨_,rfl,m,cMerge,dx,_,_,rfl,hm1,T.cl_Merge,T.na_Merge_rows,Zak ..,rd,_,rfl,M1.rows,_,_,rfl,rfl,_,rfl,ZbJ (fun d=>?_) (fun d=>?_)⟩
 ·have:(16:Int)≤(((kvM L).length:Nat):Int):=of_decide_eq_true d
  exact absurd this (by omega)
 refine⟨_,rfl,fun u dy hu hdy ndu=>?_⟩
 have huH:H u=none:=s1.free hu
 have s8:∀b o,H b=some o→(upd (upd H1 dy (.own u)) u (.ins cRow dy [])) b=some o:=fun b o hb=>by
  have:=s1 _ _ hb
  rw[Zc (Zb this hu),Zc (Zb this hdy)];exact this
 have hu8:(upd (upd H1 dy (.own u)) u (.ins cRow dy [])) u=some (.ins cRow dy []):=Zf
 generalize upd (upd H1 dy (.own u)) u (.ins cRow dy [])=H8 at s8 hu8 ⊢
 refine⟨u,dy,r,ss,rfl,hu8,s8 _ _ hr0,l100,fun x hx=>(laz x hx).1,fun k f H9 hk hf nkf R k9=>⟨rfl,?_⟩⟩
 have s9:Zz H H9:=fun b o hb=>k9 b o (s8 b o hb) (Zb hb huH)
 have free:∀b,H8 b=none→H b=none:=fun b hb=>by
  cases e:H b with
  | none=>rfl
  | some o=>rw[s8 b o e]at hb;cases hb
 have hkH:=free k hk
 have hfH:=free f hf
 have M9:=M.same s9
 have hm9:=s9 _ _ hm
 have nrd:rd≠u∧rd≠k∧rd≠f:=⟨Zb M.rows huH,Zb M.rows hkH,Zb M.rows hfH⟩
 have hsz:(kvM L).length<sizeLine:=by unfold kvM;rw[Qa];exact ZE (by omega)
 have hn1:Z6 (kvM L) (.inl nb)=none:=by
  cases hv:Z6 (kvM L) (.inl nb) with
  | none=>rfl
  | some v=>obtain⟨e,he,z⟩:=Qp.mp (ZfF hv);injection z with z _;have:=hlt e he;have:=Sum.inl.inj z;omega
 refine⟨_,rfl,m,cMerge,dx,_,_,rfl,hm9,T.cl_Merge,T.na_Merge_rows,Zak ..,_,rfl,rd,_,rfl,ZdW.k (k:=.inl nb) M9.rows hsz,?_⟩
 rw[Zcr _ hn1,show kvM L++[((.inl nb:Key),V.ref u)]=kvM (L++[⟨nb,u,k,f,ss,0⟩]) by unfold kvM;rw[Qh];rfl]
 obtain⟨n1,n2,n3⟩:=M9.ne_m
 have M10:ZQ cRow cMerge (upd H9 rd (.dK (kvM (L++[⟨nb,u,k,f,ss,0⟩])))) m rd sd (L++[⟨nb,u,k,f,ss,0⟩]) s nb li lo' best:=by
  refine⟨⟨dx,by rw[Zc n1];exact hm9⟩,Zf,?_,?_,fun e he=>?_,?_,?_,by rw[Qs,QF];omega,M.sfew⟩
  ·rw[Zc (fun z=>by have:=M9.stays;rw[z,M9.rows]at this;cases this)];exact M9.stays
  ·intro e he t ht
   have hb:=M9.ats e he t ht
   rw[Zc (fun z=>by rw[z,M9.rows]at hb;cases hb)];exact hb
  ·rcases Qk.mp he with he|he
   ·have re:=M9.each e he
    obtain⟨de,hde⟩:=re.at'.ob
    refine re.mono fun b o hb hor=>?_
    have nb':b≠rd:=fun z=>by
     rw[z,M9.rows]at hb
     injection hb with hb
     subst hb
     rcases hor with z2|z2|z2
     ·rw[← z2,z,M9.rows]at hde;cases hde
     ·have:=re.at'.ks;rw[← z2,z,M9.rows]at this;cases this
     ·have:=re.at'.fs;rw[← z2,z,M9.rows]at this;cases this
    rw[Zc nb'];exact hb
   ·rw[Ql.mp he]
    refine ZcW.keep (H:=H9) ⟨R,Qn _,l100,hsrt,laz⟩ (Zc nrd.1.symm) (Zc nrd.2.1.symm) (Zc nrd.2.2.symm)
  ·unfold Zw
   rw[Qh]
   refine List.pairwise_append.mpr ⟨M.up,List.pairwise_singleton ..,fun x hx y hy=>?_⟩
   obtain⟨e,he,rfl⟩:=Qp.mp hx
   have:y=nb:=by simpa using hy
   rw[this];exact hlt e he
  ·rw[Qh]
   refine List.nodup_append.mpr ⟨M.pd,by simp,fun a ha b hb=>?_⟩
   obtain⟨e,he,rfl⟩:=Qp.mp ha
   have:b=u:=by simpa using hb
   rw[this]
   obtain⟨de,hde⟩:=(M.each e he).at'.ob
   exact Zb hde huH
 have k10:∀b o,H b=some o→b≠rd→(upd H9 rd (.dK (kvM (L++[⟨nb,u,k,f,ss,0⟩])))) b=some o:=fun b o hb n=>by rw[Zc n];exact s9 b o hb
 generalize upd H9 rd (.dK (kvM (L++[⟨nb,u,k,f,ss,0⟩])))=H10 at M10 k10 ⊢
 have hm10:=k10 _ _ hm n1
 refine⟨_,rfl,m,cMerge,dx,_,_,rfl,hm10,T.cl_Merge,T.na_Merge_next_number,ZfH ..,_,_,rfl,rfl,dx,_,hm10,ZbI ..,?_⟩
 rw[ZfL]
 have M11:=M10.obj (nb':=nb+1) (li':=li) (lo':=lo') (best':=best) (dx:=dx)
 have k11:∀b o,H b=some o→b≠m→b≠rd→(upd H10 m (.ins cMerge dx (mgF rd (nb+1) li lo' sd best))) b=some o:=fun b o hb n n'=>by rw[Zc n];exact k10 b o hb n'
 generalize upd H10 m (.ins cMerge dx (mgF rd (nb+1) li lo' sd best))=H11 at M11 k11 ⊢
 obtain⟨dx11,hm11⟩:=M11.ob
 have free11:∀b,H11 b=none→H b=none:=fun b hb=>by
  cases e:H b with
  | none=>rfl
  | some o =>
   by_cases z:b=m
   ·rw[z,hm11]at hb;cases hb
   ·by_cases z':b=rd
    ·rw[z',M11.rows]at hb;cases hb
    ·rw[k11 b o e z z']at hb;cases hb
 refine⟨_,rfl,m,dx11,_,rfl,hm11,ZbT ..,m,rd,sd,_,s,_,_,_,_,rfl,M11,fun sd' s' w0 k0 q0 H12 hsd' W12 S12 P12 M12 k12=>⟨_,rfl,?_⟩⟩
 exact q ⟨nb,u,k,f,ss,0⟩ sd' s' w0 k0 q0 H12 rfl rfl rfl huH hkH hfH (free11 sd' hsd') W12 S12 P12 M12 (fun b o hb n n'=>k12 b o (k11 b o hb n n') n)
theorem ZgD(rd:Addr)(nb li lo:Int)(sd:Addr)(best:V):(mgF rd nb li lo sd best).lookup ("row_of" : Str)=none:=Zbo _ _ _ _ _ _ (by ac_rfl) (by ac_rfl) (by ac_rfl) (by ac_rfl) (by ac_rfl) (by ac_rfl)
theorem Zhq(k f:Addr)(g:Int):(ZbX k f g).lookup ("to_go" : Str)=none:=ZeX _ _ _ (by ac_rfl) (by ac_rfl) (by ac_rfl)
def Zjw(cR cM:Addr):Sp:=fun vs H Q _=>∃ (m rd sd:Addr) (L:List Zr) (s:StL) (nb li lo:Int) (best:V) (e:Zr),vs=[.ref m,.int e.n]∧ZQ cR cM H m rd sd L s nb li lo best∧e∈L∧Q (.ref e.p) H
theorem ZjO(T:Zao K mg cRow cMerge):Mf P w K mg base 1 cMerge "row_of" ["self", "n"] (Zjw cRow cMerge):=by
 refine T.t_Merge_row_of.mf ZeT (fun vs H Q E h=>?_) (fun cdv f A outer s H vs Q E hr h=>?_)
 ·obtain⟨m,rd,sd,L,s,nb,li,lo,best,e,rfl,_⟩:=h
  rfl
 obtain⟨m,rd,sd,L,s,nb,li,lo,best,e,rfl,M,he,q⟩:=h
 refine⟨_,#[Zd,#[Zac,#[Zk,(ZgC hr),‹1›,#[ZN,‹0›],(by with_unfolding_all rfl)],#[Zi,(@ZgI _ _)],#[ZG]],#[Zi,#[Zq,#[ZF,(ixG hr),#[ZN,‹0›],‹1›]]]],?_⟩
 obtain⟨dx,hm⟩:=M.ob
 refine⟨_,rfl,_,rfl,m,cMerge,dx,_,_,rfl,hm,T.cl_Merge,T.na_Merge_rows,Zak ..,rd,_,rfl,Za7.k' (k:=.inl e.n) M.rows (Zdn M.nd he),_,rfl,Zbb ?_⟩
 exact⟨_,rfl,m,cMerge,dx,_,_,rfl,hm,T.cl_Merge,T.na_Merge_rows,Zak ..,_,rfl,rd,_,rfl,Za7.k' (k:=.inl e.n) M.rows (Zdn M.nd he),q⟩
def ZaL(L:List Zr)(n:Int):List Zr:=L.filter fun e=>decide (e.n≠n)
theorem ZkQ(L:List Zr)(n:Int):ZdJ (kvM L) (.inl n)=kvM (ZaL L n):=by
 unfold ZdJ kvM ZaL
 rw[List.filter_map]
 congr 1
 refine List.filter_congr fun e _=>?_
 exact decide_eq_decide.mpr ⟨fun h z=>h (by show (Sum.inl e.n:Key)=_;rw[z]),fun h z=>h (Sum.inl.inj z)⟩
theorem ZQ.drop{cR cM:Addr}{H:Hp}{m rd sd:Addr}{L:List Zr}{s:StL}{nb li lo:Int}{best:V}(M:ZQ cR cM H m rd sd L s nb li lo best)(n:Int):ZQ cR cM (upd H rd (.dK (kvM (ZaL L n)))) m rd sd (ZaL L n) s nb li lo best:=by
 obtain⟨n1,n2,n3⟩:=M.ne_m
 obtain⟨dx,hm⟩:=M.ob
 refine⟨⟨dx,by rw[Zc n1];exact hm⟩,Zf,by rw[Zc n3.symm];exact M.stays,fun e he t ht=>?_,fun e he=>?_,?_,?_,QH (Qac ..) M.few,M.sfew⟩
 ·have:=M.ats e he t ht
  rw[Zc (fun z=>by rw[z,M.rows]at this;cases this)];exact this
 ·have he':=(QR.mp he).1
  obtain⟨_,_,_,a,b,c⟩:=M.ne_sd he'
  exact(M.each e he').keep (Zc a.symm) (Zc b.symm) (Zc c.symm)
 ·exact M.up.sublist (List.Sublist.map _ List.filter_sublist)
 ·exact M.pd.sublist (List.Sublist.map _ List.filter_sublist)
def Zj7(cR cM:Addr):Sp:=fun vs H Q _=>∃ (m rd sd:Addr) (L:List Zr) (s:StL) (nb li lo:Int) (best:V) (e:Zr),vs=[.ref m,.int e.n]∧ZQ cR cM H m rd sd L s nb li lo best∧e∈L ∧
 ∀ (sd':Addr) (s':StL) (w:Option Int) (k q:Int) (H':Hp),H sd'=none→Win (hdM (ZaL L e.n)) (Zw (ZaL L e.n)) w→ZcY (hdM (ZaL L e.n)) s' 8 (Zw (ZaL L e.n))→Zc1 (hdM (ZaL L e.n)) 8 (Zw (ZaL L e.n)) k q→ZQ cR cM H' m rd sd' (ZaL L e.n) s' nb (li+k) (lo+q) (Zbq w)→(∀b o,H b=some o→b≠m→b≠rd→H' b=some o)→Q (.int ((e.ss.length:Int)-(e.g:Int))) H'
theorem Zhk(T:Zao K mg cRow cMerge)(f_Row_to_go:Mf P w K mg base 1 cRow "to_go" ["self"] (ZgT cRow))(f_Merge_row_of:Mf P w K mg base 1 cMerge "row_of" ["self", "n"] (Zjw cRow cMerge))(f_Merge_play_all:Mf P w K mg base 13 cMerge "play_all" ["self"] (Zds cRow cMerge)):Mf P w K mg base 14 cMerge "drop_row" ["self", "n"] (Zj7 cRow cMerge):=by
 refine T.t_Merge_drop_row.mf ZbZ (fun vs H Q E h=>?_) (fun cdv f A outer s H vs Q E hr h=>?_)
 ·obtain⟨m,rd,sd,L,s,nb,li,lo,best,e,rfl,_⟩:=h
  rfl
 obtain⟨m,rd,sd,L,s,nb,li,lo',best,e,rfl,M,he,q⟩:=h
 refine⟨_,#[Zd,#[Zx,2,ZbZ.nd,(Or.inl rfl),#[ZaA,f_Row_to_go,T.cl_Row,hr,#[ZdG,f_Merge_row_of,T.cl_Merge,hr,‹0›,#[Za,‹1›,#[Zg]]]]],#[Zd,#[Zaz,#[ZeS,Q7,PySem.F.slot_dict_pop,PySem.F.type_dict_pop,ZmW,#[ZN,‹0›],#[Za,‹1›,#[Zg]]]],#[Zd,#[Zaz,#[ZaA,f_Merge_play_all,T.cl_Merge,hr,‹0›]],#[Zi,#[Zq,‹2›]]]]],?_⟩
 obtain⟨dx,hm⟩:=M.ob
 have Re:=M.each e he
 obtain⟨de,hde⟩:=Re.at'.ob
 refine⟨_,rfl,m,dx,_,rfl,hm,ZgD ..,_,rfl,m,rd,sd,L,s,nb,li,lo',best,e,rfl,M,he,e.p,de,_,rfl,hde,Zhq ..,e.p,e.k,e.f,e.ss,e.g,rfl,Re.at',?_⟩
 refine⟨_,rfl,m,cMerge,dx,_,_,rfl,hm,T.cl_Merge,T.na_Merge_rows,Zak ..,.inr (.inr (.inl ⟨rfl,.inl ⟨_,M.rows⟩⟩)),_,rfl,rd,_,.inl e.n,_,rfl,rfl,M.rows,Zdn M.nd he,?_⟩
 rw[ZkQ]
 have M10:=M.drop e.n
 have k10:∀b o,H b=some o→b≠rd→(upd H rd (.dK (kvM (ZaL L e.n)))) b=some o:=fun b o hb n=>by rw[Zc n];exact hb
 have free:∀b,(upd H rd (.dK (kvM (ZaL L e.n)))) b=none→H b=none:=fun b hb=>by
  by_cases z:b=rd
  ·rw[z,Zf]at hb;cases hb
  ·rw[Zc z]at hb;exact hb
 generalize upd H rd (.dK (kvM (ZaL L e.n)))=H10 at M10 k10 free ⊢
 obtain⟨dx10,hm10⟩:=M10.ob
 refine⟨_,rfl,m,dx10,_,rfl,hm10,ZbT ..,m,rd,sd,_,s,_,_,_,_,rfl,M10,fun sd' s' w0 k0 q0 H12 hsd' W12 S12 P12 M12 k12=>⟨_,rfl,?_⟩⟩
 exact q sd' s' w0 k0 q0 H12 (free sd' hsd') W12 S12 P12 M12 (fun b o hb n n'=>k12 b o (k10 b o hb n') n)
def spLengthen(C:Addr):Sp:=fun vs H Q _=>∃ (p k f a:Addr) (ss ks:List Str) (g:Nat),vs=[.ref p,.ref a]∧Zgq C H p k f ss g∧H a=some (.lst (ks.map V.str))∧(ss++ks).length≤100∧(∀x∈ss++ks,x.length≤1000) ∧
 ∀ (k' f':Addr) (H':Hp),H k'=none→H f'=none→Zgq C H' p k' f' (ss++ks) g→(∀b o,H b=some o→b≠p→H' b=some o)→Q .non H'
def ZpH(n:Int)(ks:List Str)(k f:Addr)(x:Zr):Zr:=if x.n=n then ⟨x.n,x.p,k,f,x.ss++ks,x.g⟩ else x
def ZjC(L:List Zr)(n:Int)(ks:List Str)(k f:Addr):List Zr:=L.map (ZpH n ks k f)
def spGrow(cR cM:Addr):Sp:=fun vs H Q _=>∃ (m rd sd:Addr) (L:List Zr) (s:StL) (nb li lo:Int) (w:Option Int) (e:Zr) (r:Addr) (ks:List Str),vs=[.ref m,.int e.n,.ref r]∧ZQ cR cM H m rd sd L s nb li lo (Zbq w)∧Win (hdM L) (Zw L) w∧ZU (hdM L) s (Zw L)∧e∈L∧H r=some (.lst (ks.map V.str))∧r≠e.p∧(e.ss++ks).length≤100∧sortedS (e.ss++ks)=true∧(∀x∈e.ss++ks,x.length≤1000∧AZ x) ∧
 ∀ (k' f' sd':Addr) (s':StL) (w':Option Int) (k q:Int) (H':Hp),H k'=none→H f'=none→(((e.g<e.ss.length∨ks=[])∧sd'=sd∧k=0∧q=0)∨(e.g=e.ss.length∧ks≠[]∧H sd'=none∧Zc1 (hdM (ZjC L e.n ks k' f')) 8 (Zw L) k q))→Win (hdM (ZjC L e.n ks k' f')) (Zw L) w'→ZU (hdM (ZjC L e.n ks k' f')) s' (Zw L)→ZQ cR cM H' m rd sd' (ZjC L e.n ks k' f') s' nb (li+k) (lo+q) (Zbq w')→(∀b o,H b=some o→b≠m→b≠e.p→H' b=some o)→Q .non H'
abbrev Zad:=List (Addr×Int×Option Str)
def ZfQ:Option Str→V
 | none=>.non
 | some z=>.str z
def Zqe:Option Str→PyData
 | none=>.none
 | some z=>.str z
def ZbA(hs:Zad):List V:=hs.map fun h=>V.ref h.1
def AtH(H:Hp)(hs:Zad):Prop:=∀h∈hs,H h.1=some (.tup [.int h.2.1,ZfQ h.2.2])
def ZjB(hs:Zad):Prop:=∀h∈hs,∀z,h.2.2=some z→z.length≤28∧AZ z
def ZA(hs:Zad):List (Str×Int):=hs.filterMap fun h=>h.2.2.map fun z=>(z,h.2.1)
theorem ZpF(e:Str×Int):shape (kk e)=[false,true]:=rfl
theorem Zoe{e f:Str×Int}(h:kk e=kk f):e=f:=by
 obtain⟨a,b⟩:=e
 obtain⟨c,d⟩:=f
 unfold kk at h
 injection h with h1 h2
 injection h2 with h2 _
 have e1:a=c:=Sum.inr.inj h1
 have e2:b=d:=Sum.inl.inj h2
 rw[e1,e2]
theorem AtH.mono{H H':Hp}{hs:Zad}(h:AtH H hs)(s:Zz H H'):AtH H' hs:=fun x hx=>s _ _ (h x hx)
def ZgQ(E:List (Str×Int))(v:V):Prop:=(E=[]∧v=.non)∨∃e∈E,(∀u∈E,ZaC (kk u) (kk e)=false)∧v=.int e.2
theorem ZbQ(hs:Zad)(i:Nat){h:Addr×Int×Option Str}(e:hs[i]? = some h):ZA (hs.take (i+1))=ZA (hs.take i)++(match h.2.2 with|none=>[]|some z=>[(z,h.2.1)]):=by
 unfold ZA
 rw[QI,e,List.filterMap_append]
 congr 1
 cases hz:h.2.2 with
 | none=>simp[hz]
 | some z=>simp[hz]
theorem Zdx(hs:Zad):(ZA hs).length≤hs.length:=List.length_filterMap_le _ _
theorem Zdu{hs:Zad}{i:Nat}{x:V}(h:(ZbA hs)[i]? = some x):∃y,hs[i]? = some y∧x=.ref y.1:=by
 unfold ZbA at h
 rw[Qv]at h
 cases hy:hs[i]? with
 | none=>rw[hy]at h;cases h
 | some y=>rw[hy]at h;cases h;exact⟨y,rfl,rfl⟩
def ZkZ(E:List (Str×Int))(zs:List V)(H0 H:Hp):Prop:=∃ts:Zcx,zs=ZdL ts∧AtT H ts∧ts.map (·.2)=E.map kk∧∀t∈ts,H0 t.1=none
theorem ZkX{E:List (Str×Int)}{zs:List V}{H0 H H':Hp}{e:Str×Int}{n:Addr}(m:ZkZ E zs H0 H)(k:∀a xs,H a=some (.tup xs)→H' a=some (.tup xs))(hn:H' n=some (.tup [.str e.1,.int e.2]))(h0:H0 n=none):ZkZ (E++[e]) (zs++[.ref n]) H0 H':=by
 obtain⟨ts,rfl,ha,hE,hf⟩:=m
 refine⟨ts++[(n,kk e)],?_,fun t ht=>?_,?_,fun t ht=>?_⟩
 ·unfold ZdL;rw[Qh];rfl
 ·rcases Qk.mp ht with ht|ht
  ·exact k _ _ (ha t ht)
  ·rw[Ql.mp ht];exact hn
 ·rw[Qh,Qh,hE];rfl
 ·rcases Qk.mp ht with ht|ht
  ·exact hf t ht
  ·rw[Ql.mp ht];exact h0
theorem ZkZ.shape{E:List (Str×Int)}{ts:Zcx}(hE:ts.map (·.2)=E.map kk):∀t∈ts,L2.shape t.2=[false,true]:=fun t ht=>by
 have:t.2∈E.map kk:=by rw[← hE];exact Qf ht
 obtain⟨e,_,he⟩:=Qp.mp this
 rw[← he];rfl
theorem ZkE{E:List (Str×Int)}{ts:Zcx}(hE:ts.map (·.2)=E.map kk){t:Addr×List Key}(ht:t∈ts)(hm:∀u∈ts,ZaC u.2 t.2=false):∃e∈E,t.2=kk e∧∀u∈E,ZaC (kk u) (kk e)=false:=by
 have:t.2∈E.map kk:=by rw[← hE];exact Qf ht
 obtain⟨e,he,h2⟩:=Qp.mp this
 refine⟨e,he,h2.symm,fun u hu=>?_⟩
 have:kk u∈ts.map (·.2):=by rw[hE];exact Qf hu
 obtain⟨t',ht',e'⟩:=Qp.mp this
 rw[← e',h2];exact hm t' ht'
def ZiD(K:PySem.W.Frag):Sp:=fun vs H Q _=>∃ (a:Addr) (hs:Zad),vs=[.ref a]∧SqL K H a (ZbA hs)∧AtH H hs∧hs.length≤100∧∀ (v:V) (H':Hp),ZgQ (ZA hs) v→Zz H H'→Q v H'
theorem Znp(T:Zao K mg cRow cMerge):Df P w K mg base 1 "next_of" ["heads"] (ZiD K):=by
 refine T.t_next_of.df Zfw (fun vs H Q E h=>?_) (fun cdv f A outer s H vs Q E hr h=>?_)
 ·obtain⟨a,hs,rfl,_⟩:=h
  rfl
 obtain⟨a,hs,rfl,hS,hA,hn,q⟩:=h
 refine⟨_,#[Zd,#[Zx,1,Zfw.nd,(Or.inl rfl),(@Zmo _ _ _ _ _ _ _ _ K hr (by rfl) T.b.n_min #[Za,#[ZbH,Zkj,#[iL,K,‹0›],(fun _ _ _ _=>#[gT,K,2,#[Zv,#[cg,2,Zkj],#[Zv,#[cg,3,Zkj],(@Zas _)]]]),(fun _ _ _ _=>(@Zd8 _ _ _ #[Zk,ZcI,#[cw,3,Zkj],#[ZS],(Zo _)])),(fun _ _ _ _=>#[Zbf,#[Za,#[cw,3,Zkj],#[Za,#[cw,2,Zkj],#[Zg]]]])],#[Zg]] #[ZS] (by rfl) (by rfl) (by rfl) (by rfl))],#[Zi,#[Zq,#[Zbj,#[Zk,Zbs,‹1›,#[ZS],(Zo _)],#[ZS],#[ZF,(ixT K),‹1›,#[Zh]]]]]],?_⟩
 refine⟨_,rfl,a,rfl,⟨_,hS⟩,fun D hD=>?_⟩
 refine ZcP (K:=K) (a:=a) (xs:=ZbA hs) (fun i zs σ H2=>(∃v2 v3:Option V,σ=[some (.ref a),none,v2,v3])∧ZkZ (ZA (hs.take i)) zs H H2∧zs.length≤i∧i≤hs.length∧H2 D=some (.lst zs)∧Zz H H2) ?_ (fun _ _ _ _ h=>h.2.2.2.2.2.seq hS) ?_ ?_
 ·exact⟨⟨none,none,rfl⟩,⟨[],rfl,fun t h=>(by cases h),rfl,fun t h=>(by cases h)⟩,Qg _,Qn _,Zf,Zl hD _⟩
 ·rintro i x zs σ H2 hx ⟨⟨v2,v3,rfl⟩,m,hzl,hi,hD2,s2⟩
  obtain⟨h,hh,rfl⟩:=Zdu hx
  have hil:i<hs.length:=(Qc.mp hh).1
  have hH:=hA.mono s2 h (Qq hh)
  refine⟨h.1,_,rfl,SqT.of hH,rfl,_,_,rfl,_,_,rfl,rfl,?_⟩
  have kt:=ZbQ hs i hh
  cases hz:h.2.2 with
  | none =>
   rw[hz]at kt
   refine⟨_,rfl,rfl,_,rfl,Zcv rfl ⟨⟨_,_,rfl⟩,?_,by omega,hil,hD2,s2⟩⟩
   rw[kt,Q5];exact m
  | some z =>
   rw[hz]at kt
   refine⟨_,rfl,rfl,_,rfl,Zed (by intro e;cases e) ?_⟩
   refine⟨_,rfl,_,rfl,(by show 2≤sizeLine;decide),fun n hn0=>?_⟩
   have sn:=Zl hn0 (.tup [.str z,.int h.2.1])
   have hD3:=sn _ _ hD2
   have nDn:D≠n:=Zb hD2 hn0
   refine⟨hD3,ZE (by omega),⟨_,_,rfl⟩,?_,by rw[Qs,QF];omega,hil,Zf,fun b o hb=>?_⟩
   ·rw[kt]
    refine ZkX m (fun b xs hb=>?_) ?_ (s2.free hn0)
    ·exact ZhL hD3 _ b xs (sn _ _ hb)
    ·rw[Zc nDn.symm];exact Zf
   ·rw[Zc (Zb hb hD)];exact sn _ _ (s2 b o hb)
 ·rintro zs σ H2 ⟨⟨v2,v3,rfl⟩,⟨ts,rfl,hat,hE,hfr⟩,hzl,hi,hD2,s2⟩
  rw[show (ZbA hs).length=hs.length from Qa _,Qx (Qg _)]at hE
  refine⟨D,ts,[false,true],rfl,SqL.of hD2,hat,ZkZ.shape hE,fun h0=>?_,fun t ht hm=>?_⟩
  ·refine⟨_,rfl,rfl,_,rfl,Zcm rfl (q _ _ (.inl ⟨?_,rfl⟩) s2)⟩
   rw[h0]at hE
   cases hk:ZA hs with
   | nil=>rfl
   | cons _ _=>rw[hk]at hE;cases hE
  ·obtain⟨e,he,h2,hmin⟩:=ZkE hE ht hm
   have ht2:=hat t ht
   rw[h2]at ht2
   refine⟨_,rfl,rfl,_,rfl,ZbC (by intro z;cases z) ⟨_,rfl,t.1,_,_,_,rfl,rfl,SqT.of ht2,rfl,q _ _ (.inr ⟨e,he,hmin,rfl⟩) s2⟩⟩
def headD(h:Addr×Int×Option Str):PyData:=.tuple [.int h.2.1,Zqe h.2.2]
def ZfR(hs:Zad):Prop:=hs.Pairwise fun a b=>a.2.1<b.2.1
theorem Zfs{hs:Zad}(hk:ZjB hs):∀e∈ZA hs,e.1.length≤28∧AZ e.1:=fun e he=>by
 obtain⟨h,hh,he2⟩:=Qan.mp he
 cases hz:h.2.2 with
 | none=>rw[hz]at he2;cases he2
 | some z=>rw[hz]at he2;cases he2;exact hk h hh z hz
def Ord(E:List (Str×Int)):Prop:=E.Pairwise fun a b=>ZaC (kk b) (kk a)=false
theorem ZdZ:∀hs:Zad,ZfR hs→((ZA hs).map (·.2)).Nodup
 | [],_=>List.nodup_nil
 | h::r,hr=>by
  unfold ZfR at hr
  rw[List.pairwise_cons]at hr
  have ih:=ZdZ r hr.2
  unfold ZA at ih ⊢
  rw[Qaj]
  cases hz:h.2.2 with
  | none=>simp only[Option.map_none];exact ih
  | some z =>
   simp only[Option.map_some]
   rw[Qe,QK]
   refine⟨fun hm=>?_,ih⟩
   obtain⟨e,he,e2⟩:=Qp.mp hm
   obtain⟨h',hh',e3⟩:=Qan.mp he
   have:=hr.1 h' hh'
   cases hz':h'.2.2 with
   | none=>rw[hz']at e3;cases e3
   | some z' =>
    rw[hz']at e3
    cases e3
    have e2':h'.2.1=h.2.1:=e2
    omega
def pairD(e:Str×Int):PyData:=.tuple [.str e.1,.int e.2]
abbrev Tri:=Int×Int×Int
abbrev KE:=List (Str×Int)
def q3(e:Tri):List Key:=[.inl e.1,.inl e.2.1,.inl e.2.2]
def tV(e:Tri):List V:=[.int e.1,.int e.2.1,.int e.2.2]
def t3D(e:Tri):PyData:=.tuple [.int e.1,.int e.2.1,.int e.2.2]
theorem Zea(s:Str):(cds s).length=s.length:=by unfold cds;simp;rfl
def kvE(E:KE):List (Key×V):=E.map fun e=>(.inl e.2,.str e.1)
def Zam(E:KE):List Int:=E.map (·.2)
theorem Zhb(E:KE):(kvE E).map (·.1)=(Zam E).map Sum.inl:=by unfold kvE Zam;rw[Qt,Qt];rfl
theorem Zir{E:KE}(hn:(Zam E).Nodup){z:Str}{r:Int}(h:(z,r)∈E):Z6 (kvE E) (.inl r)=some (.str z) :=
 ZeQ (by rw[Zhb];exact Zid hn) (Qf (f:=fun e:Str×Int=>((Sum.inl e.2:Key),V.str e.1)) h)
theorem ZfC{E:KE}{r:Int}{v:V}(h:Z6 (kvE E) (.inl r)=some v):∃z,v=.str z∧(z,r)∈E:=by
 obtain⟨e,he,e1⟩:=Qp.mp (ZfF h)
 injection e1 with e1 e2
 injection e1 with e1
 exact⟨e.1,e2.symm,by rw[← e1];exact he⟩
theorem ZhP{E:KE}{r:Int}(h:Z6 (kvE E) (.inl r)=none):r ∉ Zam E:=fun hr=>by
 have:=ZhW h
 rw[Zhb]at this
 exact this (Qf hr)
def ahK(l:List Int):List (Key×V):=l.map fun r=>(.inl r,.bl true)
theorem ZhR(l:List Int):(ahK l).map (·.1)=l.map Sum.inl:=by unfold ahK;rw[Qt];rfl
theorem ZfE{l:List Int}{r:Int}{v:V}(h:Z6 (ahK l) (.inl r)=some v):r∈l:=by
 have:=Zjs h
 rw[ZhR]at this
 obtain⟨x,hx,e⟩:=Qp.mp this
 rw[← Sum.inl.inj e];exact hx
theorem Zh5{l:List Int}{r:Int}(h:Z6 (ahK l) (.inl r)=none):r ∉ l:=fun hr=>by
 have:=ZhW h
 rw[ZhR]at this
 exact this (Qf hr)
theorem Zfb{H:Hp}{D:Addr}{kvs:List (Key×V)}{r:Int}{o:Option V}(h:H D=some (.dK kvs))(e:Z6 kvs (.inl r)=o):Za7 H D (.int r) o:=e ▸ Za7.k (k:=.inl r) h
def Zm4(E:KE)(e:Tri):Prop:=∃z y,(z,e.1)∈E∧(y,e.2.1)∈E∧e.2.2=(lcp (cds z) (cds y):Nat)∧(0<ZD (cds z) (cds y)∨(ZD (cds z) (cds y)=0∧e.2.1<e.1))
def ZaH(L:List Tri):List Int:=L.map (·.1)
def ZmV(E:KE)(n:Int)(P:List Tri)(e:Tri):Prop:=e.1∈Zam E∧e.1 ∉ n::ZaH P∧e.2.1∈n::ZaH P∧Zm4 E e
def Zft(E:KE)(n:Int)(L:List Tri):Prop:=n∈Zam E∧(∀i e,L[i]? = some e→ZmV E n (L.take i) e)∧L.length+1=E.length
def Zhn(E:KE)(nv:V)(d:PyData):Prop:=(nv=.non∧E=[]∧d=.list [])∨∃n L,nv=.int n∧d=.list (L.map t3D)∧Zft E n L
def Zlc(E:KE)(nv:V)(d:PyData)(b:Bool):Prop:=b=true↔Zhn E nv d
theorem Zlc.no{E:KE}{nv:V}{d:PyData}{b:Bool}(h:Zlc E nv d b)(n:¬ Zhn E nv d):b=false:=by
 cases hb:b with
 | false=>rfl
 | true=>exact absurd (h.mp hb) n
theorem Zjz{e f:Tri}(h:t3D e=t3D f):e=f:=by
 obtain⟨a,b,c⟩:=e
 obtain⟨a',b',c'⟩:=f
 simp only[t3D,PyData.tuple.injEq,List.cons.injEq,PyData.int.injEq,and_true]at h
 rw[h.1,h.2.1,h.2.2]
theorem ZcZ:∀ {L M:List Tri},L.map t3D=M.map t3D→L=M
 | [],[],_=>rfl
 | [],_::_,h=>by cases h
 | _::_,[],h=>by cases h
 | a::L,b::M,h=>by
  injection h with h1 h2
  rw[Zjz h1,ZcZ h2]
def Zbu:PyData→Bool
 | .tuple [a,b,c]=>Zdl a&&Zdl b&&Zdl c
 | _=>false
theorem ZlA{H:Hp}{x:V}{d:PyData}(h:DH H x d)(e:Zbu d=true):∃t u,x=.ref t∧d=t3D u∧H t=some (.tup (tV u)):=by
 cases h with
 | tup ht hs =>
  cases hs with
  | nil=>cases e
  | cons h1 r1 =>
   cases r1 with
   | nil=>cases e
   | cons h2 r2 =>
    cases r2 with
    | nil=>cases e
    | cons h3 r3 =>
     cases r3 with
     | cons h4 r4=>cases e
     | nil =>
      simp only[Zbu,Bool.and_eq_true]at e
      obtain⟨i,rfl,rfl⟩:=h1.int_inv e.1.1
      obtain⟨j,rfl,rfl⟩:=h2.int_inv e.1.2
      obtain⟨k,rfl,rfl⟩:=h3.int_inv e.2
      exact⟨_,(i,j,k),rfl,rfl,ht⟩
 | non=>cases e
 | bl b=>cases e
 | int i=>cases e
 | str z=>cases e
 | lst h hs=>cases e
theorem Zp6(u:Tri):Zbu (t3D u)=true:=rfl
def ZiX:Sp:=fun vs H Q _=>∃ (x:V) (d:PyData),vs=[x]∧DH H x d∧Q (.bl (Zdl d)) H
theorem ZnA(T:Zao K mg cRow cMerge):Df P w K mg base 1 "is_number" ["thing"] ZiX:=by
 refine T.t_is_number.df ZgY (fun vs H Q E h=>?_) (fun cdv f A outer s H vs Q E hr h=>?_)
 ·obtain⟨x,d,rfl,_⟩:=h
  rfl
 obtain⟨x,d,rfl,hd,q⟩:=h
 refine⟨_,#[Zi,#[Zq,#[Zc5,#[Zu,(Zmn K),T.b.n_isinstance,boot_isinstance,#[Za,‹0›,#[Za,#[Zjp,T.b.n_int,boot_int],#[Zg]]]],#[ZdN,(@Zk9 _ _ _ _ #[Zu,(Zmn K),T.b.n_isinstance,boot_isinstance,#[Za,‹0›,#[Za,#[Zjp,T.b.n_bool,boot_bool],#[Zg]]]])]]]],?_⟩
 have h1:=hd.kI K
 have h2:=hd.kB K
 have ht:=hd.ty (K:=K)
 cases hd with
 | int i=>exact⟨_,rfl,_, "int",_,_,rfl,ht,h1,_,rfl,Zbp ⟨_,rfl,_, "bool",_,_,rfl,ht,h2,_,rfl,q⟩⟩
 | bl b=>exact⟨_,rfl,_, "int",_,_,rfl,ht,h1,_,rfl,Zbp ⟨_,rfl,_, "bool",_,_,rfl,ht,h2,_,rfl,q⟩⟩
 | non=>exact⟨_,rfl,_, "int",_,_,rfl,ht,h1,_,rfl,Zbb q⟩
 | str z=>exact⟨_,rfl,_, "int",_,_,rfl,ht,h1,_,rfl,Zbb q⟩
 | lst _ _=>exact⟨_,rfl,_, "int",_,_,rfl,ht,h1,_,rfl,Zbb q⟩
 | tup _ _=>exact⟨_,rfl,_, "int",_,_,rfl,ht,h1,_,rfl,Zbb q⟩
def Zli:Sp:=fun vs H Q _=>∃ (x:V) (d:PyData),vs=[x]∧DH H x d∧Q (.bl (Zbu d)) H
theorem ZmG(T:Zao K mg cRow cMerge)(f_is_number:Df P w K mg base 1 "is_number" ["thing"] ZiX):Df P w K mg base 2 "is_triple" ["thing"] Zli:=by
 refine T.t_is_triple.df ZgE (fun vs H Q E h=>?_) (fun cdv f A outer s H vs Q E hr h=>?_)
 ·obtain⟨x,d,rfl,_⟩:=h
  rfl
 obtain⟨x,d,rfl,hd,q⟩:=h
 refine⟨_,#[Zd,#[Zac,(@PW.pt _ _ _ #[Zd7,#[Zde,#[ZdS,#[Zu,(Zmn K),T.b.n_isinstance,boot_isinstance,#[Za,‹0›,#[Za,#[Zjp,T.b.n_tuple,boot_tuple],#[Zg]]]]]],(@ZdP _ _ _ _ #[Zk,Zgx,#[Zu,(ZdO K),T.b.n_len,Qw,#[Za,‹0›,#[Zg]]],#[Zh],(Zo _)])]),#[Zi,#[Zq,#[Zb3]]],#[ZG]],#[Zi,#[Zq,#[Zc5,#[ZC,f_is_number,hr,#[Za,#[ZF,(ixT K),‹0›,#[Zh]],#[Zg]],(by rfl)],#[Zc5,#[ZC,f_is_number,hr,#[Za,#[ZF,(ixT K),‹0›,#[Zh]],#[Zg]],(by rfl)],#[ZdN,#[ZC,f_is_number,hr,#[Za,#[ZF,(ixT K),‹0›,#[Zh]],#[Zg]],(by rfl)]]]]]]],?_⟩
 have h1:=hd.kT K
 have ht:=hd.ty (K:=K)
 cases hd with
 | @tup a xs ds hH hs =>
  refine⟨_,rfl,_, "tuple",_,_,rfl,ht,h1,_,rfl,Zbb ?_⟩
  have hl:=hs.length
  refine⟨_,rfl,a,_,rfl,.inr (SqT.of hH),rfl,_,rfl,?_⟩
  by_cases h3:xs.length=3
  ·obtain⟨x1,x2,x3,rfl⟩:∃x1 x2 x3,xs=[x1,x2,x3]:=by
    cases xs with
    | nil=>simp at h3
    | cons x1 r=>cases r with
     | nil=>simp at h3
     | cons x2 r=>cases r with
      | nil=>simp at h3
      | cons x3 r=>cases r with
       | nil=>exact⟨_,_,_,rfl⟩
       | cons _ _=>simp at h3
   obtain⟨d1,d2,d3,rfl⟩:∃d1 d2 d3,ds=[d1,d2,d3]:=by
    cases ds with
    | nil=>simp at hl
    | cons x1 r=>cases r with
     | nil=>simp at hl
     | cons x2 r=>cases r with
      | nil=>simp at hl
      | cons x3 r=>cases r with
       | nil=>exact⟨_,_,_,rfl⟩
       | cons _ _=>simp at hl
   cases hs with
   | cons g1 hs=>cases hs with
    | cons g2 hs=>cases hs with
     | cons g3 hs =>
      refine Zcv (by rfl) ?_
      refine⟨_,rfl,a,_,_,_,rfl,rfl,SqT.of hH,rfl,x1,d1,rfl,g1,_,rfl,?_⟩
      cases hi1:Zdl d1 with
      | false=>simp only[Zbu,hi1,Bool.false_and]at q;exact Zbb q
      | true =>
       refine Zbp ⟨_,rfl,a,_,_,_,rfl,rfl,SqT.of hH,rfl,x2,d2,rfl,g2,_,rfl,?_⟩
       cases hi2:Zdl d2 with
       | false=>simp only[Zbu,hi1,hi2,Bool.false_and,Bool.and_false]at q;exact Zbb q
       | true =>
        refine Zbp ⟨_,rfl,a,_,_,_,rfl,rfl,SqT.of hH,rfl,x3,d3,rfl,g3,?_⟩
        simp only[Zbu,hi1,hi2,Bool.true_and]at q
        exact q
  ·refine Zed (fun z=>h3 (by injection z with z;omega)) ?_
   have:Zbu (.tuple ds)=false:=by
    cases ds with
    | nil=>rfl
    | cons x1 r=>cases r with
     | nil=>rfl
     | cons x2 r=>cases r with
      | nil=>rfl
      | cons x3 r=>cases r with
       | nil=>exact absurd hl h3
       | cons _ _=>rfl
   rw[this]at q
   exact q
 | int i=>exact⟨_,rfl,_, "tuple",_,_,rfl,ht,h1,_,rfl,Zbp (Zbp q)⟩
 | bl b=>exact⟨_,rfl,_, "tuple",_,_,rfl,ht,h1,_,rfl,Zbp (Zbp q)⟩
 | non=>exact⟨_,rfl,_, "tuple",_,_,rfl,ht,h1,_,rfl,Zbp (Zbp q)⟩
 | str z=>exact⟨_,rfl,_, "tuple",_,_,rfl,ht,h1,_,rfl,Zbp (Zbp q)⟩
 | lst _ _=>exact⟨_,rfl,_, "tuple",_,_,rfl,ht,h1,_,rfl,Zbp (Zbp q)⟩
def Zgw:Sp:=fun vs H Q _=>∃ (D p t:Addr) (E:KE) (l:List Int) (e:Tri) (b:Bool),vs=[.ref D,.ref p,.ref t]∧H D=some (.dK (kvE E))∧H p=some (.dK (ahK l))∧H t=some (.tup (tV e))∧(Zam E).Nodup∧(∀u∈E,u.1.length≤1000)∧(∀r∈l,r∈Zam E) ∧
 (b=true↔(e.1∈Zam E∧e.1 ∉ l∧e.2.1∈l∧Zm4 E e))∧∀H',Zz H H'→Q (.bl b) H'
theorem Zju{E:KE}{r:Int}(h:r∈Zam E):∃z,(z,r)∈E:=by
 obtain⟨e,he,rfl⟩:=Qp.mp h
 exact⟨e.1,he⟩
theorem Zi4{E:KE}(hn:(Zam E).Nodup){z y:Str}{r:Int}(h1:(z,r)∈E)(h2:(y,r)∈E):z=y:=by
 have a:=Zir hn h1
 rw[Zir hn h2]at a
 injection a with a
 injection a with a
 exact a.symm
theorem ZiR(T:Zao K mg cRow cMerge)(f_liken_from:Df P w K mg base 2 "liken_from" ["one", "other", "far"] Zb2):Df P w K mg base 3 "shows_greater" ["keyed", "ahead", "entry"] Zgw:=by
 refine T.t_shows_greater.df Z2 (fun vs H Q E h=>?_) (fun cdv f A outer s H vs Q E hr h=>?_)
 ·obtain⟨D,p,t,E',l,e,b,rfl,_⟩:=h
  rfl
 obtain⟨D,p,t,E,l,e,b,rfl,hD,hp,ht,hn,hlen,hl,hb,q⟩:=h
 refine⟨_,#[Zd,#[ZaX,‹2›,#[gT,K,3,#[Zv,#[ZJ,3,Z2.nd],#[Zv,#[ZJ,4,Z2.nd],#[Zv,#[ZJ,5,Z2.nd],(@Zas _)]]]]],#[Zd,#[Zac,(@PW.pt _ _ _ #[Zd7,#[Zk,(ZgC hr),‹3›,‹0›,(by with_unfolding_all rfl)],#[Zd7,#[Zk,(inG hr),‹3›,‹1›,(by with_unfolding_all rfl)],(@ZdP _ _ _ _ #[Zk,(ZgC hr),‹4›,‹1›,(by with_unfolding_all rfl)])]]),#[Zi,#[Zq,#[Zb3]]],#[ZG]],#[Zd,#[ZaX,#[ZC,f_liken_from,hr,#[Za,#[ZF,(ixG hr),‹0›,‹3›],#[Za,#[ZF,(ixG hr),‹0›,‹4›],#[Za,#[Zh],#[Zg]]]],(by rfl)],#[gT,K,3,#[Zv,#[ZJ,6,Z2.nd],#[Zv,#[ZJ,7,Z2.nd],#[Zv,#[ZJ,8,Z2.nd],(@Zas _)]]]]],#[Zi,#[Zq,#[Zc5,#[Zbg,Zbh,‹5›,‹7›,(Zo _)],#[ZdN,(@ZpJ _ _ _ _ _ _ _ #[Zbg,Zgk,‹6›,#[Zh],(Zo _)] #[ZdN,#[Zc5,#[Zbg,Zbh,‹6›,#[Zh],(Zo _)],#[ZdN,#[Zbg,Zef,‹4›,‹3›,(Zo _)]]]])]]]]]]],?_⟩
 have no:¬ (e.1∈Zam E∧e.1 ∉ l∧e.2.1∈l∧Zm4 E e)→Q (.bl false) H:=fun z=>by
  have:b=false:=by
   cases hb':b with
   | false=>rfl
   | true=>exact absurd (hb.mp hb') z
  rw[← this];exact q H (Zz.refl _)
 refine⟨_,rfl,t,_,rfl,SqT.of ht,rfl,_,_,rfl,_,_,rfl,_,_,rfl,rfl,?_⟩
 cases hv:Z6 (kvE E) (.inl e.1) with
 | none=>exact⟨_,rfl,_,rfl,D,none,rfl,Zfb hD hv,_,rfl,Zbp (Zbp (no fun z=>ZhP hv z.1))⟩
 | some v =>
  obtain⟨z,rfl,hz⟩:=ZfC hv
  refine⟨_,rfl,_,rfl,D,_,rfl,Zfb hD hv,_,rfl,Zbb ?_⟩
  cases hv2:Z6 (ahK l) (.inl e.1) with
  | some v2=>exact⟨_,rfl,_,rfl,p,_,rfl,Zfb hp hv2,_,rfl,Zbp (Zbp (no fun z=>z.2.1 (ZfE hv2)))⟩
  | none =>
   refine⟨_,rfl,_,rfl,p,none,rfl,Zfb hp hv2,_,rfl,Zbb ?_⟩
   cases hv3:Z6 (ahK l) (.inl e.2.1) with
   | none=>exact⟨_,rfl,_,rfl,p,none,rfl,Zfb hp hv3,_,rfl,Zbp (no fun z=>Zh5 hv3 z.2.2.1)⟩
   | some v3 =>
    refine⟨_,rfl,_,rfl,p,_,rfl,Zfb hp hv3,_,rfl,Zbb ?_⟩
    have hw:=ZfE hv3
    obtain⟨y,hy⟩:=Zju (hl _ hw)
    have hvy:=Zir hn hy
    refine⟨_,rfl,_,rfl,D,_,rfl,Zfb hD hv,_,rfl,_,rfl,D,_,rfl,Zfb hD hvy,z,y,0,rfl,hlen _ hz,hlen _ hy,Qn _,fun t2 ht2=>?_⟩
    have s2:=Zl ht2 (.tup [.int (ZD (cds z) (cds y)),.int (lcp (cds z) (cds y):Nat),.int ((lcp (cds z) (cds y):Nat)-((0:Nat):Int)+1)])
    refine⟨t2,_,rfl,SqT.of Zf,rfl,_,_,rfl,_,_,rfl,_,_,rfl,rfl,?_⟩
    have fin:∀c:Bool,(c=true↔(e.2.2=(lcp (cds z) (cds y):Nat)∧(0<ZD (cds z) (cds y)∨(ZD (cds z) (cds y)=0∧e.2.1<e.1))))→Q (.bl c) (upd H t2 (.tup [.int (ZD (cds z) (cds y)),.int (lcp (cds z) (cds y):Nat),.int ((lcp (cds z) (cds y):Nat)-((0:Nat):Int)+1)])):=fun c hc=>by
     have:b=c:=by
      rw[QX,hb,hc]
      constructor
      ·rintro⟨_,_,_,z',y',hz',hy',g⟩
       rw[Zi4 hn hz' hz,Zi4 hn hy' hy]at g
       exact g
      ·intro g
       exact⟨Qf (f:=(·.2)) hz,Zh5 hv2,hw,z,y,hz,hy,g⟩
     rw[← this];exact q _ s2
    refine⟨_,rfl,_,rfl,rfl,_,rfl,?_⟩
    by_cases hf:V.int e.2.2=V.int ((lcp (cds z) (cds y):Nat):Int)
    ·have hf':e.2.2=(lcp (cds z) (cds y):Nat):=by injection hf
     refine Zcm hf ⟨_,rfl,_,_,rfl,rfl,_,rfl,?_⟩
     by_cases h0:0<ZD (cds z) (cds y)
     ·exact Zcm h0 (fin _ ⟨fun _=>⟨hf',.inl h0⟩,fun _=>rfl⟩)
     ·refine ZbC h0 ⟨_,rfl,rfl,_,rfl,?_⟩
      by_cases h1:V.int (ZD (cds z) (cds y))=V.int 0
      ·have h1':ZD (cds z) (cds y)=0:=by injection h1
       refine Zcm h1 ⟨_,rfl,_,rfl,_,_,rfl,rfl,fin _ ⟨fun g=>⟨hf',.inr ⟨h1',of_decide_eq_true g⟩⟩,fun g=>?_⟩⟩
       rcases g.2 with g|g
       ·omega
       ·exact decide_eq_true g.2
      ·refine ZbC h1 (fin _ ⟨fun g=>(Qi g).elim,fun g=>?_⟩)
       rcases g.2 with g|g
       ·exact absurd g h0
       ·exact absurd (by rw[g.1]) h1
    ·refine ZbC hf (fin _ ⟨fun g=>(Qi g).elim,fun g=>absurd (by rw[g.1]) hf⟩)
theorem ZeE{hs:Zad}{e:Str×Int}(he:e∈ZA hs):∃h∈hs,h.2.1=e.2∧h.2.2=some e.1:=by
 obtain⟨h,hh,e1⟩:=Qan.mp he
 cases hz:h.2.2 with
 | none=>rw[hz]at e1;cases e1
 | some z=>rw[hz]at e1;cases e1;exact⟨h,hh,rfl,hz⟩
theorem Znv{hs:Zad}(hri:ZfR hs){i:Nat}{h:Addr×Int×Option Str}(hh:hs[i]? = some h):h.2.1 ∉ Zam (ZA (hs.take i)):=fun hm=>by
 obtain⟨z,hz⟩:=Zju hm
 obtain⟨y,hy,e1,_⟩:=ZeE hz
 obtain⟨j,hj⟩:=Q3.mp hy
 rw[Qap]at hj
 split at hj
 ·obtain⟨j1,j2⟩:=Qc.mp hj
  obtain⟨i1,i2⟩:=Qc.mp hh
  have:=Qai.mp hri j i j1 i1 (by assumption)
  rw[j2,i2]at this
  simp only at e1
  omega
 ·cases hj
theorem Zoq{hs:Zad}(hri:ZfR hs){i:Nat}{h:Addr×Int×Option Str}(hh:hs[i]? = some h){z:Str}(hz:h.2.2=some z):kvE (ZA (hs.take (i+1)))=kvE (ZA (hs.take i))++[(.inl h.2.1,.str z)]:=by
 have kt:=ZbQ hs i hh
 rw[hz]at kt
 rw[kt];unfold kvE;rw[Qh];rfl
theorem Zol{hs:Zad}(hri:ZfR hs){i:Nat}{h:Addr×Int×Option Str}(hh:hs[i]? = some h){z:Str}(hz:h.2.2=some z):Za1 (kvE (ZA (hs.take i))) (.inl h.2.1) (.str z)=kvE (ZA (hs.take (i+1))):=by
 rw[Zoq hri hh hz,Zcr]
 cases hv:Z6 (kvE (ZA (hs.take i))) (.inl h.2.1) with
 | none=>rfl
 | some v =>
  obtain⟨y,_,hy⟩:=ZfC hv
  exact absurd (Qf (f:=(·.2)) hy) (Znv hri hh)
theorem Zor{hs:Zad}(hn:hs.length≤16)(i:Nat):(kvE (ZA (hs.take i))).length<sizeLine:=by
 unfold kvE
 rw[Qa]
 have:=Zdx (hs.take i)
 rw[Qy]at this
 exact ZE (by omega)
theorem Znl{ds:List PyData}{L:List Tri}{i:Nat}{u:Tri}(h:ds.take i=L.map t3D)(hd:ds[i]? = some (t3D u)):ds.take (i+1)=(L++[u]).map t3D:=by
 rw[QI,hd,h,Qh];rfl
theorem Zn3{ds:List PyData}{L:List Tri}{i:Nat}(h:ds.take i=L.map t3D){M:List Tri}(e:ds=M.map t3D):L=M.take i:=by
 rw[e,← List.map_take]at h
 exact(ZcZ h).symm
theorem Znw(l:List Int){r:Int}(h:r ∉ l):Za1 (ahK l) (.inl r) (.bl true)=ahK (l++[r]):=by
 rw[Zcr]
 ·unfold ahK;rw[Qh];rfl
 ·cases hv:Z6 (ahK l) (.inl r) with
  | none=>rfl
  | some v=>exact absurd (ZfE hv) h
def ZkP(K:PySem.W.Frag):Sp:=fun vs H Q _=>∃ (a:Addr) (hs:Zad) (nv x:V) (d:PyData) (b:Bool),vs=[.ref a,nv,x]∧SqL K H a (ZbA hs)∧AtH H hs∧hs.length≤16∧ZjB hs∧ZfR hs∧(nv=.non∨∃n,nv=.int n)∧DH H x d∧SeqAt.shaped d=true∧(∀ds,d=.list ds→ds.length≤40) ∧
 Zlc (ZA hs) nv d b∧∀H',Zz H H'→Q (.bl b) H'
theorem ZkI(T:Zao K mg cRow cMerge)(f_is_number:Df P w K mg base 1 "is_number" ["thing"] ZiX)(f_is_triple:Df P w K mg base 2 "is_triple" ["thing"] Zli)(f_shows_greater:Df P w K mg base 3 "shows_greater" ["keyed", "ahead", "entry"] Zgw):Df P w K mg base 4 "shows_next" ["heads", "n", "thing"] (ZkP K):=by
 refine T.t_shows_next.df Zbv (fun vs H Q E h=>?_) (fun cdv f A outer s H vs Q E hr h=>?_)
 ·obtain⟨a,hs,nv,x,d,b,rfl,_⟩:=h
  rfl
 obtain⟨a,hs,nv,x,d,b,rfl,hS,hA,hn,hk,hri,hnv,hd,_,hdl,hb,q⟩:=h
 refine⟨_,#[Zd,#[Zac,#[Zde,#[ZdS,#[Zu,(Zmn K),T.b.n_isinstance,boot_isinstance,#[Za,‹2›,#[Za,#[Zjp,T.b.n_list,boot_list],#[Zg]]]]]],#[Zi,#[Zq,#[Zb3]]],#[ZG]],#[Zd,(@Zhz _ _ _ _ _ 3 _ _ _ _ _ _ _ _ _ _ _ _ _ _ Zbv.nd rfl (Or.inl rfl) ZjY rfl rfl rfl #[iL,K,‹0›] (fun _ _ _ _=>#[gT,K,2,#[Zv,#[cg,6,ZjY],#[Zv,#[cg,7,ZjY],(@Zas _)]]]) (fun _ _ _ _=>(@Zd8 _ _ _ #[Zk,ZcI,#[cw,7,ZjY],#[ZS],(Zo _)])) (fun _ _ _ _=>#[cw,6,ZjY]) (fun _ _ _ _=>#[cw,7,ZjY]) (by rfl) (by intro _;rfl) (by trivial)),#[Zd,#[Zac,#[Zk,Zbs,‹1›,#[ZS],(Zo _)],#[Zi,#[Zq,#[Zc5,#[Zbg,Zbh,#[Zu,ZlH,T.b.n_len,Qw,#[Za,‹3›,#[Zg]]],#[Zh],(Zo _)],#[ZdN,#[Zbg,Zbh,#[Zu,(ZdO K),T.b.n_len,Qw,#[Za,‹2›,#[Zg]]],#[Zh],(Zo _)]]]]],#[ZG]],#[Zd,#[Zac,(@PW.pt _ _ _ #[Zd7,#[Zde,#[ZdS,#[ZC,f_is_number,hr,#[Za,‹1›,#[Zg]],(by rfl)]]],(@ZdP _ _ _ _ #[Zk,(ZgC hr),‹1›,‹3›,(by with_unfolding_all rfl)])]),#[Zi,#[Zq,#[Zb3]]],#[ZG]],#[Zd,#[Zx,4,Zbv.nd,(Or.inl rfl),(@ZpQ _ _ _ _ _ _ ‹1› #[Zb3])],#[Zd,#[Zdf,PassesOwn.never,#[iL,K,‹2›],#[ZJ,5,Zbv.nd],#[Zd,#[Zac,(@PW.pt _ _ _ #[Zd7,#[Zde,#[ZdS,#[ZC,f_is_triple,hr,#[Za,‹5›,#[Zg]],(by rfl)]]],(@ZdP _ _ _ _ #[Zde,#[ZdS,#[ZC,f_shows_greater,hr,#[Za,‹3›,#[Za,‹4›,#[Za,‹5›,#[Zg]]]],(by rfl)]]])]),#[Zi,#[Zq,#[Zb3]]],#[ZG]],#[Zi,#[ZaX,#[Zb3],#[ZcK,‹4›,#[ZF,(ixT K),‹5›,#[Zh]],(ZiL hr)]]]]],#[Zi,#[Zq,#[Zbg,Zbh,#[Zu,ZlH,T.b.n_len,Qw,#[Za,‹4›,#[Zg]]],#[Zu,ZlH,T.b.n_len,Qw,#[Za,‹3›,#[Zg]]],(Zo _)]]]]]]]]],?_⟩
 have hl1:=hd.kL K
 have hb':b=true↔Zhn (ZA hs) nv d:=hb
 refine⟨_,rfl,_, "list",_,_,rfl,hd.ty,hl1,_,rfl,?_⟩
 cases hl:Zim d with
 | false =>
  refine Zbp ?_
  have:b=false:=hb.no fun z=>by rcases z with⟨_,_,rfl⟩|⟨_,_,_,rfl,_⟩<;>cases hl
  rw[this]at q
  exact q H (Zz.refl _)
 | true =>
  obtain⟨t0,xs,ds,rfl,rfl,ht0,hds⟩:=hd.lst_inv hl
  refine Zbb ?_
  refine⟨_,rfl,a,rfl,⟨_,hS⟩,fun D hD=>?_⟩
  refine ZmN (K:=K) (a:=a) (xs:=ZbA hs) (fun i ys σ H2=>(∃v1 v2:Option V,σ=[some (.ref a),some nv,some (.ref t0),none,none,none,v1,v2])∧ys=kvE (ZA (hs.take i))∧i≤hs.length∧H2 D=some (.dK ys)∧Zz H H2) ?_ (fun _ _ _ _ h=>h.2.2.2.2.seq hS) ?_ ?_
  ·exact⟨⟨none,none,rfl⟩,rfl,Qn _,Zf,Zl hD _⟩
  ·rintro i x ys σ H2 hx ⟨⟨v1,v2,rfl⟩,rfl,hi,hD2,s2⟩
   obtain⟨h,hh,rfl⟩:=Zdu hx
   have hil:i<hs.length:=(Qc.mp hh).1
   have hH:=hA.mono s2 h (Qq hh)
   refine⟨h.1,_,rfl,SqT.of hH,rfl,_,_,rfl,_,_,rfl,rfl,?_⟩
   cases hz:h.2.2 with
   | none =>
    have kt:=ZbQ hs i hh
    rw[hz,Q5]at kt
    exact⟨_,rfl,rfl,_,rfl,Zcv rfl ⟨⟨_,_,rfl⟩,by rw[kt],hil,hD2,s2⟩⟩
   | some z =>
    refine⟨_,rfl,rfl,_,rfl,Zed (by intro e;cases e) ⟨_,rfl,_,rfl,.inl h.2.1,rfl,hD2,Zor hn i,⟨_,_,rfl⟩,Zol hri hh hz,hil,Zf,fun b o hb=>?_⟩⟩
    rw[Zc (Zb hb hD)];exact s2 b o hb
  rintro ys σ H2 ⟨⟨v1,v2,rfl⟩,rfl,_,hD2,s2⟩
  rw[show (ZbA hs).length=hs.length from Qa _,Qx (Qg _)]at hD2
  have hxl:=hds.length
  have hdl':=hdl _ rfl
  have hnd:(Zam (ZA hs)).Nodup:=ZdZ hs hri
  have hlen:∀u∈ZA hs,u.1.length≤1000:=fun u hu=>by have:=(Zfs hk u hu).1;omega
  have ht2:=s2 _ _ ht0
  have hkl:(kvE (ZA hs)).length=(ZA hs).length:=Qa _
  rcases hnv with rfl|⟨n,rfl⟩
  ·have fin:∀c:Bool,(c=true↔(ZA hs=[]∧ds=[]))→Q (.bl c) H2:=fun c hc=>by
    have:b=c:=by
     rw[QX,hb',hc]
     constructor
     ·rintro(⟨_,h1,h2⟩|⟨_,_,h1,_⟩)
      ·injection h2 with h2;exact⟨h1,h2⟩
      ·cases h1
     ·rintro⟨h1,h2⟩
      exact .inl ⟨rfl,h1,by rw[h2]⟩
    rw[← this];exact q _ s2
   refine⟨_,rfl,rfl,_,rfl,Zcm rfl ?_⟩
   refine⟨_,rfl,D,_,rfl,hD2,rfl,_,rfl,?_⟩
   by_cases h0:V.int ((kvE (ZA hs)).length:Int)=V.int 0
   ·have h0':ZA hs=[]:=by injection h0 with h0;exact Qaq.mp (by omega)
    refine Zcm h0 ⟨_,rfl,t0,_,rfl,.inl (SqL.of ht2),rfl,fin _ ⟨fun g=>?_,fun g=>?_⟩⟩
    ·have:=of_decide_eq_true g
     injection this with this
     exact⟨h0',Qaq.mp (by omega)⟩
    ·refine decide_eq_true ?_
     have:xs.length=0:=by rw[hxl,g.2];rfl
     rw[this];rfl
   ·refine ZbC h0 (fin _ ⟨fun g=>(Qi g).elim,fun g=>absurd ?_ h0⟩)
    rw[hkl,g.1];rfl
  ·have no:∀H',Zz H H'→¬ (∃L,ds=L.map t3D∧Zft (ZA hs) n L)→Q (.bl false) H':=fun H' s' z=>by
    have:b=false:=hb.no fun y=>by
     rcases y with⟨h1,_⟩|⟨n',L,h1,h2,h3⟩
     ·cases h1
     ·injection h1 with h1
      subst h1
      injection h2 with h2
      exact z ⟨L,h2,h3⟩
    rw[← this];exact q _ s'
   refine⟨_,rfl,rfl,_,rfl,ZbC (by intro z;cases z) ?_⟩
   refine⟨_,rfl,.int n,.int n,rfl,.int n,_,rfl,Zbb ?_⟩
   cases hv:Z6 (kvE (ZA hs)) (.inl n) with
   | none=>exact⟨_,rfl,_,rfl,D,none,rfl,Zfb hD2 hv,_,rfl,Zbp (no _ s2 fun ⟨L,_,hp,_⟩=>ZhP hv hp)⟩
   | some v =>
    obtain⟨zn,rfl,hzn⟩:=ZfC hv
    have hnr:n∈Zam (ZA hs):=Qf (f:=(·.2)) hzn
    refine⟨_,rfl,_,rfl,D,_,rfl,Zfb hD2 hv,_,rfl,Zbb ?_⟩
    refine fun p hp=>⟨_,rfl,Zf,[(.inl n,.bl true)],rfl,(by show 1≤15;decide),?_⟩
    have s3:Zz H2 (upd (upd H2 p (.dK [])) p (.dK (ZaU [] [(.inl n,.bl true)]))):=fun b o hb=>by rw[Zc (Zb hb hp),Zc (Zb hb hp)];exact hb
    have hp3:(upd (upd H2 p (.dK [])) p (.dK (ZaU [] [(.inl n,.bl true)]))) p=some (.dK (ahK [n])):=Zf
    generalize upd (upd H2 p (.dK [])) p (.dK (ZaU [] [(.inl n,.bl true)]))=H3 at s3 hp3 ⊢
    refine⟨_,rfl,t0,rfl,⟨_,SqL.of (s3 _ _ ht2)⟩,?_⟩
    refine Zfu (K:=K) (a:=t0) (xs:=xs) (fun i σ H4=>(∃v5:Option V,σ=[some (.ref a),some (.int n),some (.ref t0),some (.ref D),some (.ref p),v5])∧(∃L:List Tri,ds.take i=L.map t3D∧H4 p=some (.dK (ahK (n::ZaH L)))∧∀j e,L[j]? = some e→ZmV (ZA hs) n (L.take j) e)∧i≤xs.length∧Zz H2 H4) ⟨⟨none,rfl⟩,⟨[],rfl,hp3,fun j e h=>by simp at h⟩,Qn _,s3⟩ (fun _ _ _ _ hq=>by obtain⟨_,_,_,s4⟩:=hq;exact SqL.of (s4 _ _ ht2)) ?_ ?_
    ·rintro i x σ H4 hx ⟨⟨v5,rfl⟩,⟨L,hL,hp4,hok⟩,hi,s4⟩
     obtain⟨d',hd',hdx⟩:=hds.get hx
     have hil:i<xs.length:=(Qc.mp hx).1
     have sH4:=s2.trans s4
     have hLl:L.length=i:=by
      have:=congrArg List.length hL
      rw[Qy,Qa]at this
      omega
     refine⟨_,rfl,x,d',rfl,hdx.mono sH4,_,rfl,?_⟩
     cases htr:Zbu d' with
     | false =>
      refine Zbp (Zbp (no _ sH4 fun ⟨M,hM,_⟩=>?_))
      rw[hM,Qv]at hd'
      cases hm:M[i]? with
      | none=>rw[hm]at hd';cases hd'
      | some u=>rw[hm]at hd';cases hd';cases htr
     | true =>
      obtain⟨t,u,rfl,rfl,hu⟩:=ZlA hdx htr
      have hu4:=sH4 _ _ hu
      have hsub:∀r∈n::ZaH L,r∈Zam (ZA hs):=fun r hr=>by
       rcases QG.mp hr with rfl|hr
       ·exact hnr
       ·obtain⟨e,he,rfl⟩:=Qp.mp hr
        obtain⟨j,hj⟩:=Q3.mp he
        exact(hok j e hj).1
      obtain⟨bb,hbb⟩:∃bb:Bool,bb=true↔ZmV (ZA hs) n L u:=by
       by_cases h:ZmV (ZA hs) n L u
       ·exact⟨true,fun _=>h,fun _=>rfl⟩
       ·exact⟨false,fun z=>(Qi z).elim,fun z=>absurd z h⟩
      refine Zbb ⟨_,rfl,_,rfl,_,rfl,D,p,t,ZA hs,n::ZaH L,u,bb,rfl,s4 _ _ hD2,hp4,hu4,hnd,hlen,hsub,hbb,fun H5 s5=>⟨_,rfl,?_⟩⟩
      cases bb with
      | false =>
       refine Zbp (no _ (sH4.trans s5) fun ⟨M,hM,hpm⟩=>?_)
       have e1:=Zn3 hL hM
       rw[hM,Qv]at hd'
       cases hm:M[i]? with
       | none=>rw[hm]at hd';cases hd'
       | some u' =>
        rw[hm]at hd'
        have e2:=Zjz (Qo hd')
        subst e2
        have:=hpm.2.1 i u' hm
        rw[← e1]at this
        exact absurd (hbb.mpr this) Qi
      | true =>
       have hok':=hbb.mp rfl
       refine Zbb ⟨_,rfl,_,rfl,t,_,_,_,rfl,rfl,SqT.of (s5 _ _ hu4),rfl,p,_,rfl,ZdW.k (k:=.inl u.1) (s5 _ _ hp4) ?_,⟨_,rfl⟩,⟨L++[u],Znl hL hd',?_,fun j e hj=>?_⟩,hil,fun b o hb=>?_⟩
       ·unfold ahK ZaH
        rw[Qa,Qu,Qa]
        exact ZE (by omega)
       ·rw[Zf,Znw _ hok'.2.1]
        unfold ZaH
        rw[Qh];rfl
       ·by_cases hj':j<L.length
        ·rw[QP hj']at hj
         rw[List.take_append_of_le_length (by omega)]
         exact hok j e hj
        ·rw[QN (by omega)]at hj
         have:j=L.length:=by
          have:=(Qc.mp hj).1
          simp at this;omega
         subst this
         simp at hj
         subst hj
         rw[List.take_left]
         exact hok'
       ·rw[Zc (Zb hb hp)];exact s5 _ _ (s4 b o hb)
    ·rintro σ H4 ⟨⟨v5,rfl⟩,⟨L,hL,hp4,hok⟩,_,s4⟩
     rw[Qx (by omega)]at hL
     have hal:(ahK (n::ZaH L)).length=L.length+1:=by unfold ahK ZaH;rw[Qa,Qu,Qa]
     refine⟨_,rfl,p,_,rfl,hp4,_,rfl,D,_,rfl,s4 _ _ hD2,rfl,?_⟩
     have:b=decide (V.int ((ahK (n::ZaH L)).length:Int)=V.int ((kvE (ZA hs)).length:Int)):=by
      rw[QX,hb',decide_eq_true_iff]
      constructor
      ·rintro(⟨h1,_⟩|⟨n',M,h1,h2,h3⟩)
       ·cases h1
       ·injection h1 with h1
        subst h1
        injection h2 with h2
        rw[hL]at h2
        rw[← ZcZ h2]at h3
        rw[hal,hkl,h3.2.2]
      ·intro g
       injection g with g
       exact .inr ⟨n,L,rfl,by rw[hL],hnr,hok,by omega⟩
     rw[← this]
     exact q _ (s2.trans s4)
theorem ZoG{x y:Str}(h:cds x=cds y):x=y:=by
 obtain⟨x⟩:=x
 obtain⟨y⟩:=y
 have:x=y:=Array.ext' h
 rw[this]
def spLost:Sp:=fun vs H Q _=>∃ (x y:Str) (far:Nat) (g b:Bool),vs=[.str x,.str y,.int far,.bl g]∧x.length≤1000∧y.length≤1000∧(b=true↔(far=lcp (cds x) (cds y)∧(0<ZD (cds x) (cds y)∨(ZD (cds x) (cds y)=0∧g=true))))∧Q (.bl b) H
def spEntry:Sp:=fun vs H Q _=>∃ (x:V) (d:PyData),vs=[x]∧DH H x d∧∀H',Zz H H'→Q (.bl (Zbu d)) H'
theorem Zk6:∀L:List Tri,PyData.canLayAll0 (L.map t3D)=true∧PyData.depthAll (L.map t3D)≤1
 | []=>⟨rfl,Qn _⟩
 | e::r=>by
  obtain⟨a,b⟩:=Zk6 r
  have hd:(t3D e).canLay0=true∧(t3D e).depth=1:=⟨by simp[t3D,PyData.canLay0,PyData.canLayAll0],by simp[t3D,PyData.depth,PyData.depthAll]⟩
  refine⟨by simp[PyData.canLayAll0,hd.1,a],?_⟩
  show max (t3D e).depth (PyData.depthAll (r.map t3D))≤1
  omega
theorem Zgt(L:List Tri):SeqAt.shaped (.list (L.map t3D))=true:=by
 obtain⟨a,b⟩:=Zk6 L
 simp[SeqAt.shaped,PyData.canLay0,PyData.depth,a]
 omega
def Zdb(E:KE)(n:Int):List Int:=(Zam E).filter (fun r=>decide (r≠n))
theorem Ze4{E:KE}(hn:(Zam E).Nodup){n:Int}{L:List Tri}(h:Zft E n L):(ZaH L).Perm (Zdb E n):=by
 have nd:(ZaH L).Nodup:=by
  unfold ZaH
  rw[List.Nodup,List.pairwise_iff_getElem]
  intro i j hi hj hij e
  rw[Qa]at hi hj
  rw[QaC,QaC]at e
  have:=(h.2.1 j L[j] (Qb hj)).2.1
  refine this (Qm _ ?_)
  rw[← e]
  unfold ZaH
  exact Qf (f:=fun e:Tri=>e.1) (List.mem_iff_getElem?.mpr ⟨i,by rw[Qap,if_pos hij];exact Qb hi⟩)
 have hnl:(Zdb E n).length+1=(Zam E).length:=by
  have h1:=h.1
  unfold Zdb
  generalize Zam E=l at hn h1
  clear h
  induction l with
  | nil=>cases h1
  | cons x r ih =>
   obtain⟨n1,n2⟩:=QK.mp hn
   rcases QG.mp h1 with rfl|h1
   ·rw[Qar (by simp)]
    have:r.filter (fun x=>decide (x≠n))=r:=List.filter_eq_self.mpr fun a ha=>by
     have:a≠n:=fun e=>n1 (e ▸ ha)
     simpa using this
    rw[this];rfl
   ·have:x≠n:=fun e=>n1 (e ▸ h1)
    rw[Qas (by simpa using this),Qu,Qu,ih n2 h1]
 refine ZeP nd (fun x hx=>?_) ?_
 ·obtain⟨e,he,rfl⟩:=Qp.mp hx
  obtain⟨i,hi⟩:=Q3.mp he
  obtain⟨a1,a2,_⟩:=h.2.1 i e hi
  exact QR.mpr ⟨a1,by simpa using fun z=>a2 (by rw[z];simp)⟩
 ·have h3:=h.2.2
  have h4:(Zam E).length=E.length:=Qa _
  have h5:(ZaH L).length=L.length:=Qa _
  omega
theorem Zln{E:KE}(hn:(Zam E).Nodup){n:Int}{L:List Tri}(h1:n∈Zam E)(hp:(ZaH L).Perm (Zdb E n))(hw:∀i e,L[i]? = some e→e.2.1∈n::ZaH (L.take i)∧Zm4 E e):Zft E n L:=by
 have nd:(ZaH L).Nodup:=(hp.nodup_iff).mpr (hn.filter _)
 have hin:∀r∈ZaH L,r∈Zam E∧r≠n:=fun r hr=>by
  have:=QR.mp (hp.mem_iff.mp hr)
  exact⟨this.1,by simpa using this.2⟩
 refine⟨h1,fun i e hi=>?_,?_⟩
 ·have hm:e.1∈ZaH L:=Qf (f:=(·.1)) (Qq hi)
  refine⟨(hin _ hm).1,fun z=>?_,(hw i e hi).1,(hw i e hi).2⟩
  rcases QG.mp z with z|z
  ·exact(hin _ hm).2 z
  ·obtain⟨u,hu,e1⟩:=Qp.mp z
   obtain⟨j,hj⟩:=Q3.mp hu
   rw[Qap]at hj
   split at hj
   ·obtain⟨j1,j2⟩:=Qc.mp hj
    obtain⟨i1,i2⟩:=Qc.mp hi
    have:=Qai.mp nd j i (by unfold ZaH;rw[Qa];exact j1) (by unfold ZaH;rw[Qa];exact i1) (by assumption)
    unfold ZaH at this
    rw[QaC,QaC,j2,i2]at this
    exact this e1
   ·cases hj
 ·have h2:=hp.length_eq
  have h5:(ZaH L).length=L.length:=Qa _
  have h4:(Zam E).length=E.length:=Qa _
  have:(Zdb E n).length+1=(Zam E).length:=by
   unfold Zdb
   generalize Zam E=l at hn h1
   clear hp hw hin h2 h4
   induction l with
   | nil=>cases h1
   | cons x r ih =>
    obtain⟨n1,n2⟩:=QK.mp hn
    rcases QG.mp h1 with rfl|h1
    ·rw[Qar (by simp)]
     have:r.filter (fun x=>decide (x≠n))=r:=List.filter_eq_self.mpr fun a ha=>by
      have:a≠n:=fun e=>n1 (e ▸ ha)
      simpa using this
     rw[this];rfl
    ·have:x≠n:=fun e=>n1 (e ▸ h1)
     rw[Qas (by simpa using this),Qu,Qu,ih n2 h1]
  omega
theorem Zkg{K:PySem.W.Frag}{a:Addr}{xs:List V}{k:Nat}{D:Addr}{σ:L2.St}{H1:Hp}{g:TG}{tk te:TE}{Q:VK}(Pv:Nat→List (Key×V)→L2.St→Hp→Prop)(h0:Pv 0 [] (σ++List.replicate k none) (upd H1 D (.dK [])))
  (hl:∀i ys σ H,Pv i ys σ H→SqL K H a xs)
  (hs:∀i x ys σ H,xs[i]? = some x→Pv i ys σ H→g x σ H fun σ4 H4=>tk σ4 H4 fun kv H6=>te σ4 H6 fun y H7=>∃k:Key,kv=kV k∧H7 D=some (.dK ys)∧ys.length<sizeLine∧Pv (i+1) (Za1 ys k y) σ4 (upd H7 D (.dK (Za1 ys k y))))
  (hd:∀ys σ H,Pv xs.length ys σ H→Q (.ref D) H):Zgz (Itl K a) D k σ H1 g Zix tk te Q:=by
 refine⟨fun i m ys σ H=>m=xs.length-i∧i≤xs.length∧Pv i ys σ H,⟨xs.length,by simp,Qn _,h0⟩,?_⟩
 rintro i m ys σ H ⟨rfl,hi,p⟩
 have q1:=hl i ys σ H p
 by_cases hlt:i<xs.length
 ·refine .inr ⟨⟨xs,xs[i],q1,Qb hlt⟩,Pv (i+1),fun ys' σ' H' p'=>⟨xs.length-(i+1),by omega,rfl,hlt,p'⟩,fun x H' y=>?_⟩
  obtain⟨rfl,e⟩:=y
  simp only[Zix,↓reduceIte]
  exact hs i x ys σ _ (e xs q1) p
 ·have e:i=xs.length:=by omega
  exact .inl ⟨⟨xs,q1,by omega⟩,hd ys σ H (e ▸ p)⟩
def Zdi(hs:Zad):List (Key×V):=hs.map fun h=>(.inl h.2.1,ZfQ h.2.2)
theorem ZnD{hs:Zad}{n:Int}(h:∀x∈hs,x.2.1≠n):Z6 (Zdi hs) (.inl n)=none:=by
 unfold Z6 Zdi
 rw[Option.map_eq_none_iff,List.find?_eq_none]
 intro x hx
 obtain⟨y,hy,rfl⟩:=Qp.mp hx
 simp only[decide_eq_true_eq]
 intro e;injection e with e;exact h y hy e
theorem Zg5:∀ {hs:Zad},ZfR hs→∀ {h:Addr×Int×Option Str},h∈hs→Z6 (Zdi hs) (.inl h.2.1)=some (ZfQ h.2.2)
 | [],_,_,hm=>by cases hm
 | x::hs,hr,h,hm=>by
  obtain⟨h1,h2⟩:=List.pairwise_cons.mp hr
  rcases QG.mp hm with rfl|hm
  ·exact Zcn rfl
  ·have:=h1 h hm
   show Z6 ((.inl x.2.1,ZfQ x.2.2)::Zdi hs) _=_
   rw[Zcl (by intro e;injection e with e;omega)]
   exact Zg5 h2 hm
abbrev PL:=List (Addr×Tri)
def Zgu(ps:PL):List V:=ps.map fun p=>V.ref p.1
def AtP(H:Hp)(ps:PL):Prop:=∀p∈ps,H p.1=some (.tup (tV p.2))
def Zck(ps:PL):List Tri:=ps.map (·.2)
theorem AtP.mono{H H':Hp}{ps:PL}(h:AtP H ps)(s:Zz H H'):AtP H' ps:=fun p hp=>s _ _ (h p hp)
theorem Zpu{H:Hp}{t:Addr}{u:Tri}(h:H t=some (.tup (tV u))):DH H (.ref t) (t3D u):=.tup h (.cons (.int _) (.cons (.int _) (.cons (.int _) .nil)))
theorem Ze7{H:Hp}:∀ps:PL,AtP H ps→DHs H (Zgu ps) ((Zck ps).map t3D)
 | [],_=>.nil
 | p::r,h=>.cons (Zpu (h p (by simp))) (Ze7 r fun x hx=>h x (Qm _ hx))
theorem ZjP(ps:PL):(Zgu ps).length=(Zck ps).length:=by unfold Zgu Zck;rw[Qa,Qa]
def ZaY(E:KE)(e:Str×Int):List Tri:=(E.filter fun u=>decide (u.2≠e.2)).map fun u=>(u.2,e.2,((lcp (cds u.1) (cds e.1):Nat):Int))
def Ze1(E:KE)(L:List Tri):Prop:=(E=[]∧L=[])∨∃e∈E,(∀u∈E,ZaC (kk u) (kk e)=false)∧L=ZaY E e
theorem Zf5(E:KE)(e:Str×Int):(ZaY E e).length≤E.length:=by unfold ZaY;rw[Qa];exact Qac _ _
theorem Ze1.len{E:KE}{L:List Tri}(h:Ze1 E L):L.length≤E.length:=by
 rcases h with⟨_,rfl⟩|⟨e,_,_,rfl⟩
 ·exact Qn _
 ·exact Zf5 _ _
theorem Ziu(E:KE)(e:Str×Int):ZaH (ZaY E e)=Zdb E e.2:=by
 unfold ZaH ZaY Zdb Zam
 rw[Qt,List.filter_map]
 rfl
theorem Zmb{a b:Str×Int}(h:ZaC (kk b) (kk a)=false):ZD (cds a.1) (cds b.1)<0∨(a.1=b.1∧a.2≤b.2):=by
 by_cases e:a.1=b.1
 ·refine .inr ⟨e,?_⟩
  unfold kk at h
  rw[Zdp,if_pos (by rw[e]),Zdp]at h
  by_cases e2:a.2=b.2
  ·omega
  ·rw[if_neg (fun z=>e2 (Sum.inl.inj z).symm)]at h
   have:=of_decide_eq_false h
   exact Int.not_lt.mp this
 ·left
  unfold kk at h
  rw[Zdp,if_neg (fun z=>e (Sum.inr.inj z).symm)]at h
  have h1:¬ (cds b.1<cds a.1):=of_decide_eq_false h
  have h2:¬ ZD (cds b.1) (cds a.1)<0:=fun z=>h1 ((Zk5 _ _).mpr z)
  have h3:=Za3 (cds a.1) (cds b.1)
  have h4:ZD (cds a.1) (cds b.1)≠0:=fun z=>e (ZoG (ZeM _ _ z))
  omega
theorem Zl2{E:KE}(hn:(Zam E).Nodup){e:Str×Int}(he:e∈E)(hm:∀u∈E,ZaC (kk u) (kk e)=false):Zft E e.2 (ZaY E e):=by
 refine Zln hn (Qf (f:=(·.2)) he) (by rw[Ziu]) fun i u hu=>?_
 have hu':=Qq hu
 unfold ZaY at hu'
 obtain⟨x,hx,rfl⟩:=Qp.mp hu'
 obtain⟨hx1,hx2⟩:=QR.mp hx
 have hne:x.2≠e.2:=by simpa using hx2
 refine⟨by simp,x.1,e.1,hx1,he,rfl,?_⟩
 have h3:=Za3 (cds e.1) (cds x.1)
 rcases Zmb (hm x hx1) with h|⟨h,h2⟩
 ·exact .inl (by omega)
 ·refine .inr ⟨?_,by show e.2<x.2;omega⟩
  rw[← h,Zdz]
theorem ZhU{E:KE}(hn:(Zam E).Nodup){nv:V}{L:List Tri}(h1:ZgQ E nv)(h2:Ze1 E L):Zhn E nv (.list (L.map t3D)):=by
 rcases h1 with⟨h0,rfl⟩|⟨f,hf,hm',rfl⟩
 ·rcases h2 with⟨_,rfl⟩|⟨e,he,_,_⟩
  ·exact .inl ⟨rfl,h0,rfl⟩
  ·rw[h0]at he;cases he
 ·rcases h2 with⟨h0,_⟩|⟨e,he,hm,rfl⟩
  ·rw[h0]at hf;cases hf
  ·rw[Zoe (ZcN _ _ (hm e he |> fun _=>hm f hf) (hm' e he))]
   exact .inr ⟨e.2,_,rfl,rfl,Zl2 hn he hm⟩
def Zhl(K:PySem.W.Frag):Sp:=fun vs H Q _=>∃ (a:Addr) (hs:Zad),vs=[.ref a]∧SqL K H a (ZbA hs)∧AtH H hs∧hs.length≤16∧ZjB hs∧ZfR hs ∧
 ∀ (r:Addr) (ps:PL) (H':Hp),H r=none→H' r=some (.lst (Zgu ps))→AtP H' ps→Ze1 (ZA hs) (Zck ps)→Zz H H'→Q (.ref r) H'
theorem Zkb(T:Zao K mg cRow cMerge)(f_next_of:Df P w K mg base 1 "next_of" ["heads"] (ZiD K))(f_alike:Df P w K mg base 2 "alike" ["one", "other"] Zej):Df P w K mg base 3 "paper_of" ["heads"] (Zhl K):=by
 refine T.t_paper_of.df Zc7 (fun vs H Q E h=>?_) (fun cdv f A outer s H vs Q E hr h=>?_)
 ·obtain⟨a,hs,rfl,_⟩:=h
  rfl
 obtain⟨a,hs,rfl,hS,hA,hn,hk,hri,q⟩:=h
 refine⟨_,#[Zd,#[Zx,1,Zc7.nd,(Or.inr rfl),#[ZC,f_next_of,hr,#[Za,‹0›,#[Zg]],(by rfl)]],#[Zd,#[Zac,#[Zk,Zbs,#[pv,1,(Or.inr (Or.inl rfl))],#[ZS],(Zo _)],#[Zi,#[Zq,#[ZbU,#[Zg]]]],#[ZG]],#[Zd,#[Zx,2,Zc7.nd,(Or.inr rfl),(@ZlN _ _ _ _ _ _ _ _ _ _ _ _ _ _ _ _ Zmc rfl rfl rfl #[iL,K,‹0›] (fun _ _ _ _=>#[gT,K,2,#[Zv,#[cg,3,Zmc],#[Zv,#[cg,4,Zmc],(@Zas _)]]]) (fun _ _ _ _=>(@ZcH _)) (fun _ _ _ _=>#[cw,3,Zmc]) (fun _ _ _ _=>#[cw,4,Zmc]) (by intro _;rfl))],#[Zi,#[Zq,#[ZbH,ZeU,#[iL,K,‹0›],(fun _ _ _ _=>#[gT,K,2,#[Zv,#[cg,3,ZeU],#[Zv,#[cg,4,ZeU],(@Zas _)]]]),(fun _ _ _ _=>(@Zd8 _ _ _ (@PW.pt _ _ _ #[Zca,#[Zk,ZcI,#[cw,4,ZeU],#[ZS],(Zo _)],#[Zb0,#[Zk,Zgx,#[cw,3,ZeU],#[cv,1,ZeU],(Zo _)]]]))),(fun _ _ _ _=>#[Zbf,#[Za,#[cw,3,ZeU],#[Za,#[cv,1,ZeU],#[Za,#[ZC,f_alike,hr,#[Za,#[cw,4,ZeU],#[Za,#[ZF,(ixK hr),#[cv,2,ZeU],#[cv,1,ZeU]],#[Zg]]],(Zcj ZeU rfl (by ac_rfl))],#[Zg]]]]])]]]]]],?_⟩
 refine⟨_,rfl,a,hs,rfl,hS,hA,by omega,fun v H1 hN s1=>?_⟩
 have hS1:=s1.seq hS
 have hA1:=hA.mono s1
 rcases hN with⟨hE,rfl⟩|⟨e,he,hmin,rfl⟩
 ·refine⟨_,rfl,rfl,_,rfl,Zcm rfl ?_⟩
  refine⟨(by show 0≤sizeLine;decide),fun r hr0=>?_⟩
  exact q r [] _ (s1.free hr0) Zf (fun t h=>by cases h) (.inl ⟨hE,rfl⟩) (s1.trans (Zl hr0 _))
 ·refine⟨_,rfl,rfl,_,rfl,ZbC (by intro z;cases z) ?_⟩
  refine⟨_,rfl,a,rfl,⟨_,hS1⟩,fun D hD=>?_⟩
  refine Zkg (K:=K) (a:=a) (xs:=ZbA hs) (fun i ys σ H2=>(∃v3 v4:Option V,σ=[some (.ref a),some (.int e.2),none,v3,v4])∧ys=Zdi (hs.take i)∧i≤hs.length∧H2 D=some (.dK ys)∧Zz H1 H2) ?_ (fun _ _ _ _ h=>h.2.2.2.2.seq hS1) ?_ ?_
  ·exact⟨⟨none,none,rfl⟩,rfl,Qn _,Zf,Zl hD _⟩
  ·rintro i x ys σ H2 hx ⟨⟨v3,v4,rfl⟩,rfl,hi,hD2,s2⟩
   obtain⟨h,hh,rfl⟩:=Zdu hx
   have hil:i<hs.length:=(Qc.mp hh).1
   have hH:=hA1.mono s2 h (Qq hh)
   have hno:Z6 (Zdi (hs.take i)) (.inl h.2.1)=none:=ZnD fun y hy=>by
    obtain⟨j,hj⟩:=Q3.mp hy
    rw[Qap]at hj
    split at hj
    ·obtain⟨j1,j2⟩:=Qc.mp hj
     obtain⟨i1,i2⟩:=Qc.mp hh
     have:=Qai.mp hri j i j1 i1 (by assumption)
     rw[j2,i2]at this
     omega
    ·cases hj
   have eput:Za1 (Zdi (hs.take i)) (.inl h.2.1) (ZfQ h.2.2)=Zdi (hs.take (i+1)):=by
    rw[Zcr _ hno];unfold Zdi;rw[QI,hh,Qh];rfl
   refine⟨h.1,_,rfl,SqT.of hH,rfl,_,_,rfl,_,_,rfl,rfl,?_⟩
   refine⟨_,rfl,_,rfl,.inl h.2.1,rfl,hD2,(by unfold Zdi;rw[Qa,Qy];exact ZE (by omega)),⟨_,_,rfl⟩,eput,hil,Zf,fun b o hb=>?_⟩
   rw[Zc (Zb hb hD)];exact s2 b o hb
  rintro ys σ H2 ⟨⟨v3,v4,rfl⟩,rfl,_,hD2,s2⟩
  rw[show (ZbA hs).length=hs.length from Qa _,Qx (Qg _)]at hD2
  have hS2:=s2.seq hS1
  refine⟨_,rfl,a,rfl,⟨_,hS2⟩,fun R hR=>?_⟩
  obtain⟨h0,hh0,e1,e2⟩:=ZeE he
  have hlook:Z6 (Zdi hs) (.inl e.2)=some (.str e.1):=by
   have:=Zg5 hri hh0
   rw[e1,e2]at this
   exact this
  have hz0:=(hk h0 hh0 _ e2).1
  refine ZcP (K:=K) (a:=a) (xs:=ZbA hs) (fun i zs σ H3=>(∃v3 v4:Option V,σ=[some (.ref a),some (.int e.2),some (.ref D),v3,v4])∧(∃ps:PL,zs=Zgu ps∧AtP H3 ps∧Zck ps=ZaY (ZA (hs.take i)) e)∧i≤hs.length∧H3 R=some (.lst zs)∧Zz H2 H3) ?_ (fun _ _ _ _ h=>h.2.2.2.2.seq hS2) ?_ ?_
  ·exact⟨⟨none,none,rfl⟩,⟨[],rfl,(fun t h=>by cases h),rfl⟩,Qn _,Zf,Zl hR _⟩
  ·rintro i x zs σ H3 hx ⟨⟨v3,v4,rfl⟩,⟨ps,rfl,hP,hL⟩,hi,hR3,s3⟩
   obtain⟨h,hh,rfl⟩:=Zdu hx
   have hil:i<hs.length:=(Qc.mp hh).1
   have hH:=(hA1.mono s2).mono s3 h (Qq hh)
   have kt:=ZbQ hs i hh
   have pl:=Zf5 (ZA (hs.take i)) e
   have kl:=Zdx (hs.take i)
   have pfl:=ZjP ps
   rw[Qy]at kl
   rw[hL]at pfl
   refine⟨h.1,_,rfl,SqT.of hH,rfl,_,_,rfl,_,_,rfl,rfl,?_⟩
   cases hz:h.2.2 with
   | none =>
    rw[hz,Q5]at kt
    refine⟨_,rfl,rfl,_,rfl,Zcv rfl (Zbb ⟨⟨_,_,rfl⟩,⟨ps,rfl,hP,by rw[kt];exact hL⟩,hil,hR3,s3⟩)⟩
   | some z =>
    rw[hz]at kt
    refine⟨_,rfl,rfl,_,rfl,Zed (by intro e;cases e) ?_⟩
    refine⟨_,rfl,_,rfl,rfl,_,rfl,?_⟩
    by_cases hrow:V.int h.2.1=V.int e.2
    ·have hrow':h.2.1=e.2:=by injection hrow
     refine Zcv hrow ⟨⟨_,_,rfl⟩,⟨ps,rfl,hP,?_⟩,hil,hR3,s3⟩
     rw[kt,hL]
     unfold ZaY
     rw[List.filter_append,Qh,Qar (by simpa using hrow')]
     simp
    ·have hrow':h.2.1≠e.2:=fun z=>hrow (by rw[z])
     have hzl:=(hk h (Qq hh) _ hz).1
     refine Zed hrow ⟨_,rfl,_,rfl,_,rfl,_,rfl,_,rfl,D,_,.inl e.2,_,rfl,rfl,s3 _ _ hD2,hlook,z,e.1,rfl,by omega,by omega,(by show 3≤sizeLine;decide),fun m hm=>?_⟩
     have sn:=Zl hm (.tup [.int h.2.1,.int e.2,.int ((lcp (cds z) (cds e.1):Nat):Int)])
     have hR4:=sn _ _ hR3
     have nRm:R≠m:=Zb hR3 hm
     refine⟨hR4,ZE (by omega),⟨_,_,rfl⟩,⟨ps++[(m,(h.2.1,e.2,((lcp (cds z) (cds e.1):Nat):Int)))],by unfold Zgu;rw[Qh];rfl,fun p hp=>?_,?_⟩,hil,Zf,fun b o hb=>?_⟩
     ·rcases Qk.mp hp with hp|hp
      ·exact ZhL hR4 _ _ _ (sn _ _ (hP p hp))
      ·rw[Ql.mp hp,Zc nRm.symm];exact Zf
     ·rw[kt]
      unfold ZaY Zck
      rw[List.filter_append,Qh,Qh,Qas (by simpa using hrow')]
      unfold Zck ZaY at hL
      rw[hL];rfl
     ·rw[Zc (Zb hb hR)];exact sn _ _ (s3 b o hb)
  rintro zs σ H3 ⟨⟨v3,v4,rfl⟩,⟨ps,rfl,hP,hL⟩,_,hR3,s3⟩
  rw[show (ZbA hs).length=hs.length from Qa _,Qx (Qg _)]at hL
  exact q R ps H3 ((s1.trans s2).free hR) hR3 hP (.inr ⟨e,he,hmin,hL⟩) ((s1.trans s2).trans s3)
def Zjv(K:PySem.W.Frag):Sp:=fun vs H Q _=>∃ (a:Addr) (ns:List Int),vs=[.ref a]∧SqL K H a (ns.map V.int)∧ns.length≤63∧∀H',Q (.bl true) H'
def Pap(H:Hp)(ts:Zcx)(L:List Tri):Prop:=AtT H ts∧ts.map (·.2)=L.map q3∧(∀e∈L,0≤e.2.2∧e.2.2≤1000)∧L.length≤20
theorem Pap.mono{H H':Hp}{ts:Zcx}{L:List Tri}(h:Pap H ts L)(s:Zz H H'):Pap H' ts L:=⟨AtT.mono h.1 s,h.2⟩
theorem Pap.len{H:Hp}{ts:Zcx}{L:List Tri}(h:Pap H ts L):ts.length=L.length:=by
 have:=congrArg List.length h.2.1
 simpa using this
theorem Pap.at{H:Hp}{ts:Zcx}{L:List Tri}(h:Pap H ts L){i:Nat}{t:Addr×List Key}(ht:ts[i]? = some t):∃e,L[i]? = some e∧H t.1=some (.tup [.int e.1,.int e.2.1,.int e.2.2]):=by
 have hi:=(Qc.mp ht).1
 have hL:L[i]? = some (L[i]'(by rw[← h.len];exact hi)):=Qb _
 refine⟨_,hL,?_⟩
 have e:=congrArg (fun z=>z[i]?) h.2.1
 simp only[List.getElem?_map,ht,hL,Option.map_some]at e
 have e:=Qo e
 have:=h.1 t (Qq ht)
 rw[e]at this
 exact this
def Zjf:Sp:=fun vs H Q _=>∃ (a:Addr) (ts:Zcx) (L:List Tri),vs=[.ref a]∧H a=some (.lst (ZdL ts))∧Pap H ts L∧∀H',Zz H H'→Q (.int (L.map (·.2.2+1)).sum) H'
theorem Zls(T:Zao K mg cRow cMerge):Df P w K mg base 1 "signs_in" ["paper"] Zjf:=by
 refine T.t_signs_in.df ZhM (fun vs H Q E h=>?_) (fun cdv f A outer s H vs Q E hr h=>?_)
 ·obtain⟨a,ts,L,rfl,_⟩:=h
  rfl
 obtain⟨a,ts,L,rfl,hS,hP,q⟩:=h
 refine⟨_,#[Zi,#[Zq,#[Zu,(ZpK K),T.b.n_sum,boot_sum,#[Za,#[ZbH,Zll,#[iL,K,‹0›],(fun _ _ _ _=>#[gT,K,3,#[Zv,#[cg,1,Zll],#[Zv,#[cg,2,Zll],#[Zv,#[cg,3,Zll],(@Zas _)]]]]),(fun _ _ _ _=>(@ZcH _)),(fun _ _ _ _=>#[Z8,Zbl,#[cw,3,Zll],#[Zh]])],#[Zg]]]]],?_⟩
 refine⟨_,rfl,a,rfl,⟨_,SqL.of hS⟩,fun D hD=>?_⟩
 have htl:=hP.len
 have hL20:=hP.2.2.2
 refine ZjN (K:=K) (a:=a) (xs:=ZdL ts) (fun i zs σ H2=>(∃v1 v2 v3:Option V,σ=[some (.ref a),v1,v2,v3])∧zs=((L.take i).map (·.2.2+1)).map V.int∧i≤ts.length∧H2 D=some (.lst zs)∧Zz H H2) ?_ (fun _ _ _ _ h=>SqL.of (h.2.2.2.2 _ _ hS)) ?_ ?_
 ·exact⟨⟨none,none,none,rfl⟩,rfl,Qn _,Zf,Zl hD _⟩
 ·rintro i x zs σ H2 hx ⟨⟨v1,v2,v3,rfl⟩,rfl,hi,hD2,s2⟩
  unfold ZdL at hx
  rw[Qv]at hx
  cases ht:ts[i]? with
  | none=>rw[ht]at hx;cases hx
  | some t =>
   rw[ht]at hx
   cases hx
   have hil:=(Qc.mp ht).1
   obtain⟨e,he,hH⟩:=(hP.mono s2).at ht
   refine⟨t.1,_,rfl,SqT.of hH,rfl,_,_,rfl,_,_,rfl,_,_,rfl,rfl,?_⟩
   refine⟨_,rfl,_,_,rfl,rfl,hD2,(by rw[Qa,Qa,Qy];exact ZE (by omega)),⟨_,_,_,rfl⟩,?_,hil,Zf,fun b o hb=>?_⟩
   ·rw[QI,he,Qh,Qh];rfl
   ·rw[Zc (Zb hb hD)];exact s2 b o hb
 rintro zs σ H2 ⟨⟨v1,v2,v3,rfl⟩,rfl,_,hD2,s2⟩
 rw[show (ZdL ts).length=ts.length from Qa _,Qx (by omega)]at hD2
 refine⟨D,_,rfl,SqL.of hD2,by rw[Qa];omega,fun n hn=>?_,q H2 s2⟩
 obtain⟨x,hx,rfl⟩:=Qp.mp hn
 have:=hP.2.2.1 x hx
 exact⟨by omega,by omega⟩
def KOk(L:List Zr):Prop:=∀e∈L,∀s∈e.ss,s.length≤28∧AZ s
theorem Zoi(o:Option Str):oV o=ZfQ o:=by cases o<;>rfl
def ZaG(L:List Zr)(hs:Zad):Prop:=hs.map (·.2)=Zj6 (L.map toL)
theorem ZaG.eq{L:List Zr}{hs:Zad}(h:ZaG L hs):hs.map (·.2)=L.map fun e=>(e.n,e.ss[e.g]?):=by
 have:=h
 unfold ZaG Zj6 at this
 rw[Qt]at this
 exact this
theorem ZaG.len{L:List Zr}{hs:Zad}(h:ZaG L hs):hs.length=L.length:=by
 have:=congrArg List.length h.eq
 rwa [Qa,Qa]at this
theorem ZaG.mem{L:List Zr}{hs:Zad}(h:ZaG L hs){x:Addr×Int×Option Str}(hx:x∈hs):∃e∈L,x.2=(e.n,e.ss[e.g]?):=by
 have:x.2∈hs.map (·.2):=Qf (f:=fun x:Addr×Int×Option Str=>x.2) hx
 rw[h.eq]at this
 obtain⟨e,he,e1⟩:=Qp.mp this
 exact⟨e,he,e1.symm⟩
theorem ZaG.mem'{L:List Zr}{hs:Zad}(h:ZaG L hs){e:Zr}(he:e∈L):∃x∈hs,x.2=(e.n,e.ss[e.g]?):=by
 have:(e.n,e.ss[e.g]?)∈L.map fun e:Zr=>(e.n,e.ss[e.g]?):=Qf (f:=fun e:Zr=>(e.n,e.ss[e.g]?)) he
 rw[← h.eq]at this
 obtain⟨x,hx,e1⟩:=Qp.mp this
 exact⟨x,hx,e1⟩
theorem ZaG.key{L:List Zr}{hs:Zad}(h:ZaG L hs)(hk:KOk L):ZjB hs:=fun x hx z hz=>by
 obtain⟨e,he,e1⟩:=h.mem hx
 rw[e1]at hz
 exact hk e he z (Qq hz)
theorem ZaG.rise{L:List Zr}{hs:Zad}(h:ZaG L hs)(up:Z9 (Zw L)):ZfR hs:=by
 have e:hs.map (fun x=>x.2.1)=Zw L:=by
  have:=congrArg (List.map (·.1)) h.eq
  rw[Qt,Qt]at this
  exact this
 have up':(hs.map fun x=>x.2.1).Pairwise (·<·):=by rw[e];exact up
 exact List.pairwise_map.mp up'
theorem ZaG.at{L:List Zr}{hs:Zad}(h:ZaG L hs){u:Str×Int}(hu:u∈ZA hs):∃e∈L,e.n=u.2∧e.ss[e.g]? = some u.1:=by
 obtain⟨x,hx,e1,e2⟩:=ZeE hu
 obtain⟨e,he,e3⟩:=h.mem hx
 rw[e3]at e1 e2
 exact⟨e,he,e1,e2⟩
theorem ZaG.in{L:List Zr}{hs:Zad}(h:ZaG L hs){e:Zr}(he:e∈L){z:Str}(hz:e.ss[e.g]? = some z):(z,e.n)∈ZA hs:=by
 obtain⟨x,hx,e1⟩:=h.mem' he
 unfold ZA
 refine List.mem_filterMap.mpr ⟨x,hx,?_⟩
 rw[e1,hz]
 rfl
theorem ZaG.none{L:List Zr}{hs:Zad}(h:ZaG L hs)(nd:(Zw L).Nodup)(W:Win (hdM L) (Zw L) none):ZA hs=[]:=by
 cases hk:ZA hs with
 | nil=>rfl
 | cons u r =>
  obtain⟨e,he,e1,e2⟩:=h.at (u:=u) (by rw[hk];exact QM ..)
  have:=W e.n (Qf (f:=fun e:Zr=>e.n) he)
  rw[Zb6 nd he,e2]at this
  cases this
theorem ZaG.least{L:List Zr}{hs:Zad}(h:ZaG L hs)(nd:(Zw L).Nodup){e:Zr}(he:e∈L){z:Str}(hz:e.ss[e.g]? = some z)(W:Win (hdM L) (Zw L) (some e.n)){v:V}(hv:ZgQ (ZA hs) v):v=.int e.n:=by
 have hin:=h.in he hz
 rcases hv with⟨h0,_⟩|⟨u,hu,hmin,rfl⟩
 ·rw[h0]at hin;cases hin
 obtain⟨e',he',e1,e2⟩:=h.at hu
 obtain⟨_,x,hx,hall⟩:=W
 rw[Zb6 nd he,hz]at hx
 have hx':cds z=x:=Qo hx
 subst hx'
 have hd':=Zb6 nd he'
 rw[e2]at hd'
 rcases hall e'.n (Qf (f:=fun e:Zr=>e.n) he') _ hd' with g|g
 ·rw[← e1,g]
 ·exfalso
  have hn:=Za3 (cds z) (cds u.1)
  rcases Zmb (hmin _ hin) with k|⟨k1,k2⟩
  ·have k':ZD (cds u.1) (cds z)<0:=k
   rcases g with g|⟨g,_⟩<;>omega
  ·have k1':u.1=z:=k1
   have k2':u.2≤e.n:=k2
   rw[k1',Zdz]at hn
   rcases g with g|⟨_,g⟩
   ·rw[k1',Zdz]at g;omega
   ·omega
theorem Zku{v:V}(h:ZgQ ([]:List (Str×Int)) v):v=.non:=by
 rcases h with⟨_,e⟩|⟨u,hu,_⟩
 ·exact e
 ·cases hu
theorem Znz{hs:Zad}(h:ZfR hs):ZaU [] (Zdi hs)=Zdi hs:=by
 rw[Zgj]
 ·rfl
 ·have e:(Zdi hs).map (·.1)=(hs.map fun h=>h.2.1).map (Sum.inl:Int→Key):=by unfold Zdi;rw[Qt,Qt];rfl
  rw[List.nil_append,e]
  exact Zid ((List.pairwise_map.mpr h).imp fun z=>by omega)
theorem Zhe:∀ys:List Str,(Str.join "" ys).length=(ys.map (·.length)).sum
 | []=>rfl
 | [x]=>by simp[Str.join]
 | x::y::r=>by
  have ih:=Zhe (y::r)
  have e:Str.join "" (x::y::r)=x ++ ""++Str.join "" (y::r):=rfl
  rw[Qe,QJ,← ih,e,← Zea,Zg6,Zg6,Qs,Qs,Zea,Zea]
  rfl
theorem ZjE(ys:List Str):(Txt.join "" ys).length=(ys.map (·.length)).sum:=by
 have e:Txt.join "" ys=Str.join "" ys:=by simpa using join_plain_closes "" ys
 rw[e,Zhe]
theorem Zhf:∀E:KE,(∀u∈E,u.1.length≤28)→(E.map ((fun x=>x.length) ∘ fun x=>x.1)).sum≤28*E.length
 | [],_=>Qg _
 | u::E,h=>by
  have ih:=Zhf E fun v hv=>h v (Qm _ hv)
  have:=h u (by simp)
  rw[Qe,QJ,Qu]
  show u.1.length+_≤_
  omega
theorem ZhE(e:Str×Int):∀E:KE,((ZaY E e).map (·.2.2+1)).sum≤(((E.map (·.1)).map (·.length)).sum:Nat)+(E.length:Int)
 | []=>by simp[ZaY]
 | u::E=>by
  have ih:=ZhE e E
  have hl:lcp (cds u.1) (cds e.1)≤u.1.length:=by rw[← Zea];exact(ZdU _ _).1
  unfold ZaY at ih ⊢
  rw[QaA]
  split
  ·rw[Qe,Qe,QJ,Qe,Qe,QJ,Qu]
   show ((lcp (cds u.1) (cds e.1):Nat):Int)+1+_≤_
   omega
  ·rw[Qe,Qe,QJ,Qu]
   omega
theorem Zha:∀L:List Tri,(∀u∈L,0≤u.2.2)→(L.length:Int)≤(L.map (·.2.2+1)).sum
 | [],_=>by simp
 | u::L,h=>by
  have ih:=Zha L fun v hv=>h v (Qm _ hv)
  have:=h u (by simp)
  rw[Qe,QJ,Qu]
  omega
theorem Zlo{E:KE}(hn:(Zam E).Nodup){n m:Int}{L:List Tri}(h:Zft E n L)(hm:m≠n):¬ Zhn E (.int m) (.list (L.map t3D)):=fun z=>by
 rcases z with⟨z,_⟩|⟨m',M,z1,z2,z3⟩
 ·cases z
 ·cases z1
  injection z2 with z2
  have:=ZcZ z2
  subst this
  have p1:=Ze4 hn h
  have p2:=Ze4 hn z3
  have h1:n∈Zdb E m:=by
   unfold Zdb
   exact QR.mpr ⟨h.1,decide_eq_true hm.symm⟩
  have h2:=p1.mem_iff.mp (p2.mem_iff.mpr h1)
  unfold Zdb at h2
  exact absurd rfl (of_decide_eq_true (QR.mp h2).2)
def Zm7(cR cM:Addr):Sp:=fun vs H Q _=>∃X:MS,vs=[.ref X.m]∧MOk cR cM H X∧X.L.length≤16∧KOk X.L∧∀H',Zz H H'→Q (.bl true) H'
theorem Zlm(T:Zao K mg cRow cMerge)(f_Merge_heads:Mf P w K mg base 3 cMerge "heads" ["self"] (ZhD cRow cMerge))(f_Merge_coming:Mf P w K mg base 3 cMerge "coming" ["self"] (Zfl cRow cMerge))(f_next_of:Df P w K mg base 1 "next_of" ["heads"] (ZiD K))(f_paper_of:Df P w K mg base 3 "paper_of" ["heads"] (Zhl K))(f_shows_next:Df P w K mg base 4 "shows_next" ["heads", "n", "thing"] (ZkP K))(f_signs_in:Df P w K mg base 1 "signs_in" ["paper"] Zjf):Df P w K mg base 5 "_law_right" ["_law_merge"] (Zm7 cRow cMerge):=by
 refine T.t_l_right.df Zbn (fun vs H Q E h=>?_) (fun cdv f A outer s H vs Q E hr h=>?_)
 ·obtain⟨X,rfl,_⟩:=h
  rfl
 obtain⟨X,rfl,M,h16,hko,q⟩:=h
 refine⟨_,#[Zd,#[Zx,1,Zbn.nd,(Or.inr rfl),#[ZaA,f_Merge_heads,T.cl_Merge,hr,‹0›]],#[Zd,#[Zx,2,Zbn.nd,(Or.inl rfl),#[ZaA,f_Merge_coming,T.cl_Merge,hr,‹0›]],#[Zd,#[Zx,3,Zbn.nd,(Or.inr rfl),#[ZC,f_next_of,hr,#[Za,#[pv,1,(Or.inr (Or.inl rfl))],#[Zg]],(by rfl)]],#[Zd,#[Zx,4,Zbn.nd,(Or.inr rfl),#[ZC,f_paper_of,hr,#[Za,#[pv,1,(Or.inr (Or.inl rfl))],#[Zg]],(by rfl)]],#[Zd,#[Zac,#[Zk,Zbs,‹2›,#[ZS],(Zo _)],#[Zi,#[Zq,#[Zc5,#[Zbg,Zbs,#[pv,3,(Or.inr (Or.inl rfl))],#[ZS],(Zo _)],#[Zc5,#[Zbg,(@eqD _ K _ hr (by rfl)),#[pv,4,(Or.inr (Or.inl rfl))],#[ZbU,#[Zg]],(Zo _)],#[ZdN,#[Zbg,ZoM,#[ZC,f_shows_next,hr,#[Za,#[pv,1,(Or.inr (Or.inl rfl))],#[Za,#[ZS],#[Za,#[pv,4,(Or.inr (Or.inl rfl))],#[Zg]]]],(by rfl)],#[Zb3],(Zo _)]]]]]],#[ZG]],#[Zd,#[Zac,(@PW.pt _ _ _ #[Zd7,#[Zk,Zgx,#[pv,3,(Or.inr (Or.inl rfl))],#[ZF,(ixT K),‹2›,#[Zh]],(Zo _)],#[Zd7,#[Zk,Zgx,#[ZF,(ixG hr),#[ZcG,(ZpP K),T.b.n_dict,boot_dict,#[Za,#[pv,1,(Or.inr (Or.inl rfl))],#[Zg]]],#[pv,3,(Or.inr (Or.inl rfl))]],#[ZF,(ixT K),‹2›,#[Zh]],(Zo _)],(@ZdP _ _ _ _ #[Zk,Znr,#[ZC,f_shows_next,hr,#[Za,#[pv,1,(Or.inr (Or.inl rfl))],#[Za,#[pv,3,(Or.inr (Or.inl rfl))],#[Za,#[pv,4,(Or.inr (Or.inl rfl))],#[Zg]]]],(by rfl)],#[Zb3],(Zo _)])]]),#[Zi,#[Zq,#[Zb3]]],#[ZG]],#[Zd,(@Zit _ _ _ _ _ 5 _ _ _ _ _ _ _ _ _ _ _ _ Zbn.nd rfl (Or.inl rfl) ZhH rfl rfl rfl #[iL,K,#[pv,1,(Or.inr (Or.inl rfl))]] (fun _ _ _ _=>#[gT,K,2,#[Zv,#[cg,6,ZhH],#[Zv,#[cg,7,ZhH],(@Zas _)]]]) (fun _ _ _ _=>(@Zd8 _ _ _ #[Zk,ZcI,#[cw,7,ZhH],#[ZS],(Zo _)])) (fun _ _ _ _=>#[cw,7,ZhH]) (by rfl) (by intro _;rfl) (by trivial)),#[Zd,#[Zac,#[Zde,(@Zlr _ _ _ _ _ _ _ _ _ _ _ _ ZnQ ZnQ #[Z8,Zfz,#[Zu,(ZdO K),T.b.n_len,Qw,#[Za,‹5›,#[Zg]]],#[Zh]] #[ZC,f_signs_in,hr,#[Za,#[pv,4,(Or.inr (Or.inl rfl))],#[Zg]],(by rfl)] #[Z8,Zbl,#[Zu,ZaK,T.b.n_len,Qw,#[Za,#[ZeS,PySem.F.plainAttrs_str,PySem.F.slot_str_join,PySem.F.type_str_join,(ZnG K),#[Za6],#[Za,‹5›,#[Zg]]],#[Zg]]],#[Zu,(ZdO K),T.b.n_len,Qw,#[Za,‹5›,#[Zg]]]] (by with_unfolding_all rfl))],#[Zi,#[Zq,#[Zb3]]],#[ZG]],#[Zi,#[Zq,(@Zk9 _ _ _ _ #[Zu,(ZqB K),T.b.n_any,boot_any,#[Za,#[ZbH,Zec,#[iL,K,#[pv,1,(Or.inr (Or.inl rfl))]],(fun _ _ _ _=>#[gT,K,2,#[Zv,#[cg,6,Zec],#[Zv,#[cg,7,Zec],(@Zas _)]]]),(fun _ _ _ _=>(@Zd8 _ _ _ #[Zk,Zgx,#[cw,6,Zec],#[cv,3,Zec],(Zo _)])),(fun _ _ _ _=>#[ZC,f_shows_next,hr,#[Za,#[cv,1,Zec],#[Za,#[cw,6,Zec],#[Za,#[cv,4,Zec],#[Zg]]]],(Zcj Zec rfl (by ac_rfl))])],#[Zg]]])]]]]]]]]]],?_⟩
 obtain⟨dx,hm⟩:=M.M.ob
 refine⟨_,rfl,X.m,dx,_,rfl,hm,Zdj ..,X.m,X.rd,X.sd,X.L,X.s,X.nb,X.li,X.lo,Zbq X.w,rfl,M.M,fun l H1 hl0 hds s1=>?_⟩
 obtain⟨dx1,hm1⟩:=(M.M.same s1).ob
 refine⟨_,rfl,X.m,dx1,_,rfl,hm1,ZcS ..,X.m,X.rd,X.sd,X.L,X.s,X.nb,X.li,X.lo,X.w,rfl,M.M.same s1,M.W,fun x H2 hcom s2=>?_⟩
 obtain⟨hs,ehs,hl,hat⟩:=hds.same s2
 have hO:ZaG X.L hs:=ehs
 have hA2:AtH H2 hs:=fun h hh=>by rw[← Zoi];exact hat h hh
 have hl2:H2 l=some (.lst (ZbA hs)):=hl
 have hlen:=hO.len
 have hn16:hs.length≤16:=by omega
 have hKy:=hO.key hko
 have hRi:=hO.rise M.M.up
 have nd:(Zw X.L).Nodup:=M.M.nd
 have hnd:=ZdZ hs hRi
 have s02:=s1.trans s2
 clear hds ehs hat hl
 refine⟨_,rfl,l,hs,rfl,SqL.of hl2,hA2,by omega,fun v H3 hv s3=>?_⟩
 refine⟨_,rfl,l,hs,rfl,SqL.of (s3 _ _ hl2),hA2.mono s3,hn16,hKy,hRi,fun r ps H4 hr0 hr4 hP4 hI s4=>?_⟩
 have s24:=s3.trans s4
 have hl4:=s24 _ _ hl2
 have hA4:=hA2.mono s24
 have s04:=s02.trans s24
 have hkl:=Zdx hs
 have hpl:=hI.len
 have shp:∀ds,PyData.list ((Zck ps).map t3D)=.list ds→ds.length≤40:=fun ds e=>by
  injection e with e
  rw[← e,Qa];omega
 refine⟨_,rfl,rfl,_,rfl,?_⟩
 rcases hcom with⟨rfl,W0⟩|⟨t,e0,z,rfl,he0,hz0,ht,W0⟩
 ·have ek:=hO.none nd (by rw[Zby]at W0;exact W0)
  rw[ek]at hv hI
  have:=Zku hv
  subst this
  have e0:Zck ps=[]:=by
   rcases hI with⟨_,e⟩|⟨u,hu,_⟩
   ·exact e
   ·cases hu
  refine Zcm rfl ?_
  have hps:ps=[]:=by
   unfold Zck at e0
   exact List.map_eq_nil_iff.mp e0
  subst hps
  refine⟨_,rfl,rfl,_,rfl,Zcm rfl ?_⟩
  refine⟨_,rfl,(by show 0≤sizeLine;decide),fun nl hnl=>?_⟩
  have s5:=Zl hnl (.lst [])
  refine⟨.list [],.list [],.lst (SqL.of (s5 _ _ hr4)) .nil,.lst (SqL.of Zf) .nil,rfl,rfl,_,rfl,?_⟩
  have ev:(if false=true then !PyData.eqv (.list []) (.list []) else PyData.eqv (.list []) (.list []))=true:=by decide
  rw[ev]
  refine Zbp ?_
  refine⟨_,rfl,_,rfl,l,hs,.non,.ref r,.list [],true,rfl,SqL.of (s5 _ _ hl4),hA4.mono s5,hn16,hKy,hRi,.inl rfl,.lst (s5 _ _ hr4) .nil,rfl,shp,⟨fun _=>.inl ⟨rfl,ek,rfl⟩,fun _=>rfl⟩,fun H6 s6=>⟨_,_,rfl,rfl,q H6 (s04.trans (s5.trans s6))⟩⟩
 ·obtain⟨e,he,rfl⟩:=Qp.mp he0
  have hz:e.ss[e.g]? = some z:=hz0
  have W1:Win (hdM X.L) (Zw X.L) (some e.n):=by rw[Zby]at W0;exact W0
  have ev:=hO.least nd he hz W1 hv
  subst ev
  have hin:=hO.in he hz
  have ht4:=s24 _ _ ht
  have hps:=ZhU hnd hv hI
  refine ZbC (by intro e;cases e) ?_
  refine⟨_,rfl,_,rfl,t,_,_,_,rfl,rfl,SqT.of ht4,rfl,rfl,_,rfl,Zcv rfl ?_⟩
  obtain⟨x0,hx0,ex0⟩:=hO.mem' he
  rw[hz]at ex0
  have eT:(hs.map fun h=>((h.1,.inl h.2.1,ZfQ h.2.2):Addr×Key×V)).map (·.2)=Zdi hs:=by unfold Zdi;rw[Qt];rfl
  have hvl:Z6 (ZaU [] ((hs.map fun h=>((h.1,.inl h.2.1,ZfQ h.2.2):Addr×Key×V)).map (·.2))) (.inl e.n)=some (.str z):=by
   rw[eT,Znz hRi]
   have:=Zg5 hRi hx0
   rw[ex0]at this
   exact this
  refine⟨_,rfl,l,hs.map fun h=>(h.1,.inl h.2.1,ZfQ h.2.2),rfl,(by rw[Qt];exact SqL.of hl4),(fun t ht=>by obtain⟨h,hh,rfl⟩:=Qp.mp ht;exact hA4 h hh),by rw[Qa];omega,fun D hD=>?_⟩
  have s5:=Zl hD (.dK (ZaU [] ((hs.map fun h=>((h.1,.inl h.2.1,ZfQ h.2.2):Addr×Key×V)).map (·.2))))
  refine⟨_,rfl,D,_,rfl,Zfb Zf hvl,_,rfl,t,_,_,_,rfl,rfl,SqT.of (s5 _ _ ht4),rfl,rfl,_,rfl,Zcv rfl ?_⟩
  refine⟨_,rfl,_,rfl,_,rfl,l,hs,.int e.n,.ref r,.list ((Zck ps).map t3D),true,rfl,SqL.of (s5 _ _ hl4),hA4.mono s5,hn16,hKy,hRi,.inr ⟨_,rfl⟩,.lst (s5 _ _ hr4) (Ze7 ps (hP4.mono s5)),Zgt _,shp,⟨fun _=>hps,fun _=>rfl⟩,fun H6 s6=>⟨_,_,rfl,rfl,_,rfl,Zcv rfl ?_⟩⟩
  have s46:=s5.trans s6
  have hl6:=s46 _ _ hl4
  have hA6:=hA4.mono s46
  have hr6:=s46 _ _ hr4
  have hP6:=hP4.mono s46
  have s06:=s04.trans s46
  clear s5 s6 hvl hD
  refine⟨_,rfl,l,rfl,⟨_,SqL.of hl6⟩,fun D hD=>?_⟩
  refine ZcP (K:=K) (a:=l) (xs:=ZbA hs) (fun i zs σ H13=>(∃v1 v2:Option V,σ=[some (.ref X.m),some (.ref l),some (.ref t),some (.int e.n),some (.ref r),none,v1,v2])∧zs=((ZA (hs.take i)).map (·.1)).map V.str∧i≤hs.length∧H13 D=some (.lst zs)∧Zz H6 H13) ?_ (fun _ _ _ _ h=>SqL.of (h.2.2.2.2 _ _ hl6)) ?_ ?_
  ·exact⟨⟨none,none,rfl⟩,rfl,Qn _,Zf,Zl hD _⟩
  ·rintro i x zs σ H13 hx ⟨⟨v1,v2,rfl⟩,rfl,hi',hB13,s13⟩
   obtain⟨h,hh,rfl⟩:=Zdu hx
   have hil:i<hs.length:=(Qc.mp hh).1
   have hH:=hA6.mono s13 h (Qq hh)
   have kt:=ZbQ hs i hh
   have kl:=Zdx (hs.take i)
   rw[Qy]at kl
   refine⟨h.1,_,rfl,SqT.of hH,rfl,_,_,rfl,_,_,rfl,rfl,?_⟩
   cases hz:h.2.2 with
   | none =>
    rw[hz,Q5]at kt
    exact⟨_,rfl,rfl,_,rfl,Zcv rfl ⟨⟨_,_,rfl⟩,by rw[kt],hil,hB13,s13⟩⟩
   | some z =>
    rw[hz]at kt
    refine⟨_,rfl,rfl,_,rfl,Zed (by intro e;cases e) ⟨_,rfl,hB13,(by rw[Qa,Qa];exact ZE (by omega)),⟨_,_,rfl⟩,?_,hil,Zf,fun b o hb=>?_⟩⟩
    ·rw[kt,Qh,Qh];rfl
    ·rw[Zc (Zb hb hD)];exact s13 b o hb
  rintro zs σ H7 ⟨⟨v1,v2,rfl⟩,rfl,_,hD7,s7⟩
  rw[show (ZbA hs).length=hs.length from Qa _,Qx (Qg _)]at hD7
  have hPO:Zft (ZA hs) e.n (Zck ps):=by
   rcases hps with⟨z0,_⟩|⟨n0,L0,z1,z2,z3⟩
   ·cases z0
   ·cases z1
    injection z2 with z2
    rw[ZcZ z2]
    exact z3
  have hcnt:=hPO.2.2
  obtain⟨u0,hu0,eL⟩:∃u0∈ZA hs,Zck ps=ZaY (ZA hs) u0:=by
   rcases hI with⟨z0,_⟩|⟨u,hu,_,eu⟩
   ·rw[z0]at hin;cases hin
   ·exact⟨u,hu,eu⟩
  have hfar:∀u∈Zck ps,0≤u.2.2∧u.2.2≤1000:=fun u hu=>by
   rw[eL]at hu
   unfold ZaY at hu
   obtain⟨w,hw,rfl⟩:=Qp.mp hu
   have h1:=(Zfs hKy w (QR.mp hw).1).1
   have h2:=(ZdU (cds w.1) (cds u0.1)).1
   rw[Zea]at h2
   exact⟨Int.natCast_nonneg _,by show ((lcp (cds w.1) (cds u0.1):Nat):Int)≤1000;omega⟩
  have hge:=Zha (Zck ps) fun u hu=>(hfar u hu).1
  have hle:=ZhE u0 (ZA hs)
  rw[← eL]at hle
  have hP7:=hP6.mono s7
  have hr7:H7 r=some (.lst (ZdL (ps.map fun p=>(p.1,q3 p.2)))):=by
   have:=s7 _ _ hr6
   unfold ZdL
   rw[Qt]
   exact this
  have hPap:Pap H7 (ps.map fun p=>(p.1,q3 p.2)) (Zck ps):=by
   refine⟨fun t ht=>?_,by unfold Zck;rw[Qt,Qt];rfl,hfar,by omega⟩
   obtain⟨p,hp,rfl⟩:=Qp.mp ht
   exact hP7 p hp
  have hln:(((ZA hs).map (·.1)).map V.str).length=(ZA hs).length:=by rw[Qa,Qa]
  refine⟨_,rfl,D,_,rfl,.inl (SqL.of hD7),_,_,rfl,rfl,_,rfl,r,_,Zck ps,rfl,hr7,hPap,fun H8 s8=>⟨_,_,rfl,rfl,_,rfl,Zcm (by omega) ?_⟩⟩
  have hD8:=s8 _ _ hD7
  have e0:("" : Str).length=0:=by ac_rfl
  have hjl:=ZjE ((ZA hs).map (·.1))
  have hjs:(((ZA hs).map (·.1)).map (·.length)).sum≤28*(ZA hs).length:=by
   rw[Qt]
   exact Zhf _ fun u hu=>(Zfs hKy u hu).1
  have hjz:(Txt.join "" ((ZA hs).map (·.1))).length≤sizeLine:=QH (show _≤448 by omega) (by decide)
  refine⟨rfl,_,rfl, "",D,(ZA hs).map (·.1),rfl,rfl,SqL.of hD8,(by rw[e0,Nat.mul_zero];omega),Txt.join "" ((ZA hs).map (·.1)),rfl,hjz,_,rfl,D,_,rfl,.inl (SqL.of hD8),_,_,rfl,rfl,_,_,rfl,rfl,_,rfl,?_⟩
  rw[show decide ((((Zck ps).map (·.2.2+1)).sum)≤_)=true from decide_eq_true (by rw[hjl,hln];exact hle)]
  refine Zbb ?_
  have s68:=s7.trans s8
  have hl8:=s68 _ _ hl6
  have hA8:=hA6.mono s68
  have hr8:=s68 _ _ hr6
  have hP8:=hP6.mono s68
  refine⟨_,rfl,l,rfl,⟨_,SqL.of hl8⟩,fun D2 hD2=>?_⟩
  refine ZcP (K:=K) (a:=l) (xs:=ZbA hs) (fun i zs σ H13=>(∃v1 v2:Option V,σ=[some (.ref X.m),some (.ref l),some (.ref t),some (.int e.n),some (.ref r),some (.ref D),v1,v2])∧(∃bs:List Bool,zs=bs.map V.bl∧bs.length≤i∧∀b∈bs,b=false)∧i≤hs.length∧H13 D2=some (.lst zs)∧Zz H8 H13) ?_ (fun _ _ _ _ h=>SqL.of (h.2.2.2.2 _ _ hl8)) ?_ ?_
  ·exact⟨⟨none,none,rfl⟩,⟨[],rfl,Qg _,fun b hb=>by cases hb⟩,Qn _,Zf,Zl hD2 _⟩
  ·rintro i x zs σ H13 hx ⟨⟨v1,v2,rfl⟩,⟨bs,rfl,hbl,hbs⟩,hi',hB13,s13⟩
   obtain⟨h,hh,rfl⟩:=Zdu hx
   have hil:i<hs.length:=(Qc.mp hh).1
   have hH:=hA8.mono s13 h (Qq hh)
   refine⟨h.1,_,rfl,SqT.of hH,rfl,_,_,rfl,_,_,rfl,rfl,?_⟩
   by_cases hne:h.2.1=e.n
   ·refine⟨_,rfl,_,rfl,rfl,_,rfl,Zcv (by rw[hne]) ⟨⟨_,_,rfl⟩,⟨bs,rfl,by omega,hbs⟩,hil,hB13,s13⟩⟩
   ·refine⟨_,rfl,_,rfl,rfl,_,rfl,Zed (fun z=>hne (V.int.inj z)) ?_⟩
    have hno:=Zlo hnd hPO hne
    refine⟨_,rfl,_,rfl,_,rfl,l,hs,.int h.2.1,.ref r,.list ((Zck ps).map t3D),false,rfl,SqL.of (s13 _ _ hl8),hA8.mono s13,hn16,hKy,hRi,.inr ⟨_,rfl⟩,.lst (s13 _ _ hr8) (Ze7 ps (hP8.mono s13)),Zgt _,shp,⟨fun z=>(by cases z),fun z=>absurd z hno⟩,fun H14 s14=>?_⟩
    refine⟨s14 _ _ hB13,(by rw[Qa];exact ZE (by omega)),⟨_,_,rfl⟩,⟨bs++[false],by rw[Qh];rfl,by rw[Qs,QF];omega,fun b hb=>?_⟩,hil,Zf,fun b o hb=>?_⟩
    ·rcases Qk.mp hb with hb|hb
     ·exact hbs b hb
     ·exact Ql.mp hb
    ·rw[Zc (Zb hb hD2)];exact s14 _ _ (s13 b o hb)
  rintro zs σ H9 ⟨⟨v1,v2,rfl⟩,⟨bs,rfl,_,hbs⟩,_,hD9,s9⟩
  have hany:bs.any id=false:=by
   cases ha:bs.any id with
   | false=>rfl
   | true =>
    obtain⟨b,hb,hb1⟩:=List.any_eq_true.mp ha
    rw[hbs b hb]at hb1
    cases hb1
  refine⟨D2,bs,rfl,SqL.of hD9,_,rfl,?_⟩
  rw[hany]
  exact q H9 (s06.trans (s68.trans s9))
structure Wp (cR cM:Addr) (H0:Hp) (p m:Addr) (H:Hp) (X:MS):Prop where
 mg:MOk cR cM H X
 em:X.m=m
 few:X.L.length≤16
 ko:KOk X.L
 nb:∀e∈X.L,e.n<X.nb
 fp:∀b,MFp X b→H0 b=none
 np:¬ MFp X p
 sm:Zz H0 H
theorem Wp.same{cR cM:Addr}{H0:Hp}{p m:Addr}{H H':Hp}{X:MS}(h:Wp cR cM H0 p m H X)(s:Zz H H'):Wp cR cM H0 p m H' X:=⟨h.mg.same s,h.em,h.few,h.ko,h.nb,h.fp,h.np,h.sm.trans s⟩
theorem Wp.draw{cR cM:Addr}{H0:Hp}{p m:Addr}{H H':Hp}{X:MS}{c:Int}(h:Wp cR cM H0 p m H X)(L:Zap H p c)(h0:H0 p=none)(B:But p H H'):Wp cR cM H0 p m H' X:=by
 refine⟨h.mg.keep fun b u hb hor=>B b u hb fun e=>?_,h.em,h.few,h.ko,h.nb,h.fp,h.np,fun b o hb=>B b o (h.sm b o hb) (Zb hb h0)⟩
 subst e
 rcases hor with z|⟨xs,z⟩
 ·exact h.np z
 ·obtain⟨a1,a2,hp,_⟩:=L
  rw[hp,z]at hb
  cases hb
theorem KOk.bump{L:List Zr}(h:KOk L)(n:Int):KOk (bump L n):=fun e he=>by
 obtain⟨e',he',rfl⟩:=Qp.mp he
 rw[(ZbF n e').2.2.2.2]
 exact h e' he'
theorem Wp.take{cR cM:Addr}{H0:Hp}{p m:Addr}{H H':Hp}{X:MS}{x:V}{L':List Zr}{s':StL}{w':Option Int}{k q c:Int}(h:Wp cR cM H0 p m H X)(L:Zap H p c)(R:ZhF X.L X.w x L' k q H')(M:ZQ cR cM H' X.m X.rd X.sd L' s' X.nb (X.li+k) (X.lo+q) (Zbq w'))(W:Win (hdM L') (Zw L') w')(ok:ZU (hdM L') s' (Zw L'))(kp:∀b o,H b=some o→¬ Fp X.m X.rd X.sd X.L b→H' b=some o) :
  Wp cR cM H0 p m H' ⟨X.m,X.rd,X.sd,L',s',X.nb,X.li+k,X.lo+q,w'⟩∧Zap H' p c∧(X.w.isSome=true→ZaD (ZaJ L')+1=ZaD (ZaJ X.L)):=by
 have hL:L'=X.L∨∃n,L'=My.bump X.L n:=by
  rcases R with⟨_,_,e,_⟩|⟨e,t,z,_,_,_,_,_,e2,_⟩
  ·exact .inl e
  ·exact .inr ⟨_,e2⟩
 have fpe:∀b,Fp X.m X.rd X.sd L' b↔Fp X.m X.rd X.sd X.L b:=fun b=>R.fp
 refine⟨⟨⟨M,W,ok⟩,h.em,?_,?_,fun e he=>?_,fun b hb=>h.fp b ((fpe b).mp hb),fun z=>h.np ((fpe p).mp z),fun b o hb=>kp b o (h.sm b o hb) fun z=>by rw[h.fp b z]at hb;cases hb⟩,?_,fun hw=>?_⟩
 ·show L'.length≤16
  rcases hL with rfl|⟨n,rfl⟩
  ·exact h.few
  ·unfold My.bump;rw[Qa];exact h.few
 ·show KOk L'
  rcases hL with rfl|⟨n,rfl⟩
  ·exact h.ko
  ·exact h.ko.bump n
 ·show e.n<X.nb
  have he':e∈L':=he
  rcases hL with rfl|⟨n,rfl⟩
  ·exact h.nb e he'
  ·obtain⟨e',he2,rfl⟩:=Qp.mp he'
   rw[(ZbF n e').1]
   exact h.nb e' he2
 ·obtain⟨a1,a2,hp,c0⟩:=L
  exact⟨a1,a2,kp _ _ hp h.np,c0⟩
 ·have nd:(Zei (ZaJ X.L)).Nodup:=by rw[← Zcy];exact h.mg.M.nd
  rcases Zkr h.mg.W R with⟨w0,_⟩|⟨y,z,t,stp,eL,_,_⟩
  ·have W':=h.mg.W
   rw[ZeZ,Zcy]at W'
   rw[W'.one w0]at hw
   cases hw
  ·have:=Zge _ nd stp.1 (Qc.mp stp.2.1).1
   rw[eL]
   exact this
theorem Zkm(L:List Zr)(e:Zr):ZaD (ZaJ (L++[e]))=ZaD (ZaJ L)+(e.ss.length-e.g):=by
 unfold ZaD ZaJ
 rw[Qh,Qh,List.sum_append]
 simp
theorem ZfJ(n:Int):∀L:List Zr,ZaD (ZaJ (ZaL L n))≤ZaD (ZaJ L)
 | []=>Qg _
 | e::L=>by
  have ih:=ZfJ n L
  unfold ZaD ZaJ ZaL at ih ⊢
  rw[QaA]
  split
  ·rw[Qe,Qe,QJ,Qe,Qe,QJ]
   omega
  ·rw[Qe,Qe,QJ]
   omega
theorem ZfG{cR cM:Addr}{H:Hp}{m rd sd:Addr}{L:List Zr}{st:StL}{nb li lo:Int}{best:V}(M:ZQ cR cM H m rd sd L st nb li lo best)(S:ZcY (hdM L) st 8 (Zw L)):ZU (hdM L) st (Zw L):=Zfd 8 (hdM L) st (Zw L) M.up (QH (show (Zw L).length≤60 by unfold Zw;rw[Qa];exact M.few) (by decide)) (by decide) S
theorem Wp.add{cR cM:Addr}{H0:Hp}{p m:Addr}{H H':Hp}{X:MS}{e:Zr}{sd':Addr}{s':StL}{w':Option Int}{k q c:Int}(h:Wp cR cM H0 p m H X)(L:Zap H p c)(hlt:X.L.length<16)(en:e.n=X.nb)(hks:∀s∈e.ss,s.length≤28∧AZ s)(hp0:H e.p=none)(hk0:H e.k=none)(hf0:H e.f=none)(hsd:H sd'=none)(W:Win (hdM (X.L++[e])) (Zw (X.L++[e])) w')(S:ZcY (hdM (X.L++[e])) s' 8 (Zw (X.L++[e])))(M:ZQ cR cM H' X.m X.rd sd' (X.L++[e]) s' (X.nb+1) (X.li+k) (X.lo+q) (Zbq w'))(kp:∀b o,H b=some o→b≠X.m→b≠X.rd→H' b=some o) :
  Wp cR cM H0 p m H' ⟨X.m,X.rd,sd',X.L++[e],s',X.nb+1,X.li+k,X.lo+q,w'⟩∧Zap H' p c:=by
 have fpe:∀b,Fp X.m X.rd sd' (X.L++[e]) b→MFp X b∨H b=none:=fun b hb=>by
  rcases hb with z|z|z|⟨u,hu,z⟩
  ·exact .inl (.inl z)
  ·exact .inl (.inr (.inl z))
  ·rw[z];exact .inr hsd
  ·rcases Qk.mp hu with hu|hu
   ·exact .inl (.inr (.inr (.inr ⟨u,hu,z⟩)))
   ·rw[Ql.mp hu]at z
    rcases z with z|z|z
    ·rw[z];exact .inr hp0
    ·rw[z];exact .inr hk0
    ·rw[z];exact .inr hf0
 have nm:MFp X X.m:=.inl rfl
 have nr:MFp X X.rd:=.inr (.inl rfl)
 refine⟨⟨⟨M,W,ZfG M S⟩,h.em,by show (X.L++[e]).length≤16;rw[Qs,QF];omega,fun u hu=>?_,fun u hu=>?_,fun b hb=>?_,fun z=>?_,fun b o hb=>kp b o (h.sm b o hb) (fun z=>by rw[z,h.fp _ nm]at hb;cases hb) (fun z=>by rw[z,h.fp _ nr]at hb;cases hb)⟩,?_⟩
 ·rcases Qk.mp hu with hu|hu
  ·exact h.ko u hu
  ·rw[Ql.mp hu];exact hks
 ·show u.n<X.nb+1
  rcases Qk.mp hu with hu|hu
  ·have:=h.nb u hu;omega
  ·rw[Ql.mp hu,en];omega
 ·rcases fpe b hb with z|z
  ·exact h.fp b z
  ·exact h.sm.free z
 ·rcases fpe p z with z|z
  ·exact h.np z
  ·obtain⟨a1,a2,hp,_⟩:=L
   rw[z]at hp;cases hp
 ·obtain⟨a1,a2,hp,c0⟩:=L
  exact⟨a1,a2,kp _ _ hp (fun z=>h.np (z ▸ nm)) (fun z=>h.np (z ▸ nr)),c0⟩
theorem Wp.drop{cR cM:Addr}{H0:Hp}{p m:Addr}{H H':Hp}{X:MS}{n:Int}{sd':Addr}{s':StL}{w':Option Int}{k q c:Int}(h:Wp cR cM H0 p m H X)(L:Zap H p c)(hsd:H sd'=none)(W:Win (hdM (ZaL X.L n)) (Zw (ZaL X.L n)) w')(S:ZcY (hdM (ZaL X.L n)) s' 8 (Zw (ZaL X.L n)))(M:ZQ cR cM H' X.m X.rd sd' (ZaL X.L n) s' X.nb (X.li+k) (X.lo+q) (Zbq w'))(kp:∀b o,H b=some o→b≠X.m→b≠X.rd→H' b=some o) :
  Wp cR cM H0 p m H' ⟨X.m,X.rd,sd',ZaL X.L n,s',X.nb,X.li+k,X.lo+q,w'⟩∧Zap H' p c:=by
 have sub:∀u∈ZaL X.L n,u∈X.L:=fun u hu=>(QR.mp hu).1
 have fpe:∀b,Fp X.m X.rd sd' (ZaL X.L n) b→MFp X b∨H b=none:=fun b hb=>by
  rcases hb with z|z|z|⟨u,hu,z⟩
  ·exact .inl (.inl z)
  ·exact .inl (.inr (.inl z))
  ·rw[z];exact .inr hsd
  ·exact .inl (.inr (.inr (.inr ⟨u,sub u hu,z⟩)))
 have nm:MFp X X.m:=.inl rfl
 have nr:MFp X X.rd:=.inr (.inl rfl)
 refine⟨⟨⟨M,W,ZfG M S⟩,h.em,QH (Qac ..) h.few,fun u hu=>h.ko u (sub u hu),fun u hu=>h.nb u (sub u hu),fun b hb=>?_,fun z=>?_,fun b o hb=>kp b o (h.sm b o hb) (fun z=>by rw[z,h.fp _ nm]at hb;cases hb) (fun z=>by rw[z,h.fp _ nr]at hb;cases hb)⟩,?_⟩
 ·rcases fpe b hb with z|z
  ·exact h.fp b z
  ·exact h.sm.free z
 ·rcases fpe p z with z|z
  ·exact h.np z
  ·obtain⟨a1,a2,hp,_⟩:=L
   rw[z]at hp;cases hp
 ·obtain⟨a1,a2,hp,c0⟩:=L
  exact⟨a1,a2,kp _ _ hp (fun z=>h.np (z ▸ nm)) (fun z=>h.np (z ▸ nr)),c0⟩
theorem Zov{L:List Zr}(h:∀e∈L,e.g≤e.ss.length):(Zdh (L.map toL)).sum=((ZaD (ZaJ L):Nat):Int):=by
 induction L with
 | nil=>rfl
 | cons e r ih =>
  have i:=ih fun x hx=>h x (Qm _ hx)
  have g:=h e (by simp)
  unfold Zdh ZaD ZaJ at i ⊢
  rw[Qe,Qe,Qe,Qe,QJ,QJ,i,Int.natCast_add]
  congr 1
  show (e.ss.length:Int)-(e.g:Int)=((e.ss.length-e.g:Nat):Int)
  omega
theorem ZgZ{c:Bool}(b2:Bool){e:(Bool→Hp→Prop)→Prop}{T:Bool→Hp→Prop}{H:Hp}(h1:c=true→∀T':Bool→Hp→Prop,(∀H',Zz H H'→T' b2 H')→e T')(q:∀H',Zz H H'→T (c&&b2) H'):if c=true then e T else T false H:=by
 cases c with
 | true=>rw[if_pos rfl];exact h1 rfl T q
 | false=>rw[if_neg Qi];exact q H (Zz.refl H)
theorem Zis(rd:Addr)(nb li lo:Int)(sd:Addr)(best:V):(mgF rd nb li lo sd best).lookup ("drop_row" : Str)=none:=Zbo _ _ _ _ _ _ (by ac_rfl) (by ac_rfl) (by ac_rfl) (by ac_rfl) (by ac_rfl) (by ac_rfl)
theorem ZjW(rd:Addr)(nb li lo:Int)(sd:Addr)(best:V):(mgF rd nb li lo sd best).lookup ("add_row" : Str)=none:=Zbo _ _ _ _ _ _ (by ac_rfl) (by ac_rfl) (by ac_rfl) (by ac_rfl) (by ac_rfl) (by ac_rfl)
theorem Zk8(rs:List (Addr×List Str))(h:∀x∈rs,x.2.length≤20):(rs.map fun x=>x.2.length).sum≤rs.length*20:=by
 induction rs with
 | nil=>exact Qg _
 | cons x r ih =>
  have:=ih fun y hy=>h y (Qm _ hy)
  have:=h x (by simp)
  rw[Qe,QJ,Qu]
  omega
theorem Zox{f:Addr}{fd:FuncData}(F:Fun K "law" "law" ZcJ f fd)(T:Zao K mg cRow cMerge):ZdB P w K mg base CX0 18 f fd ["_law_script"] (Zjv K):=by
 have f_l_mix:Df P w K mg base 1 "_law_mix" ["_law_cell", "_law_k"] Zky:=ZoZ T
 have f_l_left:Df P w K mg base 1 "_law_left" ["_law_script", "_law_k"] (Zl4 K):=ZmD T
 have f_l_pick:Df P w K mg base 2 "_law_pick" ["_law_left_here", "_law_many_here"] ZdV:=Zmi T f_l_mix
 have f_l_stems:Df P w K mg base 3 "_law_stems" ["_law_left_here"] ZgB:=Zk3 T f_l_pick
 have f_l_key:Df P w K mg base 3 "_law_key" ["_law_left_here", "_law_stems_here"] ZkU:=ZnZ T f_l_pick
 have f_l_keys:Df P w K mg base 4 "_law_keys" ["_law_left_here", "_law_stems_here", "_law_most"] Zij:=Zng T f_l_pick f_l_key
 have f_l_many:Df P w K mg base 3 "_law_many" ["_law_left_here"] Zih:=Zne T f_l_pick
 have f_l_row:Df P w K mg base 5 "_law_row" ["_law_left_here", "_law_stems_here", "_law_most"] Zio:=ZmJ T f_l_keys
 have f_l_rows:Df P w K mg base 6 "_law_rows" ["_law_left_here"] Zi7:=ZkC T f_l_pick f_l_stems f_l_many f_l_row
 have f_alike_from:Df P w K mg base 1 "alike_from" ["one", "other", "far"] Zb1:=ZfP T
 have f_alike:Df P w K mg base 2 "alike" ["one", "other"] Zej:=Zla T f_alike_from
 have f_order_at:Df P w K mg base 1 "order_at" ["one", "other", "at"] ZeY:=Zl0 T
 have f_liken:Df P w K mg base 3 "liken" ["one", "other"] ZgO:=Zlb T f_alike f_order_at
 have f_liken_from:Df P w K mg base 2 "liken_from" ["one", "other", "far"] Zb2:=ZfN T f_alike_from f_order_at
 have f_first_break:Df P w K mg base 4 "first_break" ["keys"] (Zk2 K):=Zk4 T f_liken
 have f_refuse_break:Df P w K mg base 5 "refuse_break" ["number", "keys"] (Zd6 K):=Zkq T f_first_break
 have f_alikes:Df P w K mg base 3 "alikes" ["row"] (ZfI K):=Zkd T f_alike
 have f_halves:Df P w K mg base 1 "halves" ["numbers"] (Zd1 K true):=Zkh T
 have f_Row_to_go:=Zns T (P:=P) (w:=w) (base:=base)
 have f_Row_head:=ZmC T f_Row_to_go
 have f_Row_init:=Zig T f_alikes
 have f_Merge_meet:=ZmM T f_Row_head f_liken_from
 have f_Merge_play:=Zjy T f_Row_head f_halves f_Merge_meet 8
 have f_Merge_play_all:=Zh4 T f_Merge_play
 have f_Merge_init:=ZfW T f_refuse_break f_Row_init f_Merge_play_all
 have f_Merge_coming:=Zj3 T f_Row_head
 have f_way_up:Df P w K mg base 2 "way_up" ["numbers", "n"] Zk1:=ZnY T f_halves
 have f_matches_up:=ZiK T f_way_up
 have f_Merge_play_again:=Zkx T f_Merge_meet
 have f_Merge_send_out:=Zna T f_Row_head f_matches_up f_Merge_play_again
 have f_Merge_take:=ZmR T f_Merge_coming f_Merge_send_out
 have f_Merge_left:=Zl6 T f_Row_to_go
 have f_Merge_heads:=ZjK T f_Row_head
 have f_Merge_add_row:=Zil T f_refuse_break f_Row_init f_Merge_play_all
 have f_Merge_row_of:=ZjO T (P:=P) (w:=w) (base:=base)
 have f_Merge_drop_row:=Zhk T f_Row_to_go f_Merge_row_of f_Merge_play_all
 have f_next_of:=Znp T (P:=P) (w:=w) (base:=base)
 have f_paper_of:=Zkb T f_next_of f_alike
 have f_is_number:=ZnA T (P:=P) (w:=w) (base:=base)
 have f_is_triple:=ZmG T f_is_number
 have f_shows_greater:=ZiR T f_liken_from
 have f_shows_next:=ZkI T f_is_number f_is_triple f_shows_greater
 have f_signs_in:=Zls T (P:=P) (w:=w) (base:=base)
 have f_l_right:=Zlm T f_Merge_heads f_Merge_coming f_next_of f_paper_of f_shows_next f_signs_in
 refine F.ok ZcQ (fun vs H Q E h=>?_) (fun cdv A outer s H vs Q E hr h=>?_)
 ·obtain⟨a,ns,rfl,_⟩:=h
  rfl
 obtain⟨a,sc,rfl,hS,h63,q⟩:=h
 refine⟨_,#[Zd,#[Zdf,PassesOwn.never,#[Zcu,T.b.n_range,#[Za,#[Zu,(Zf3 rfl),T.b.n_max,boot_max,#[Za,#[Zh],#[Za,#[Zu,(Zf2 rfl),T.b.n_min,boot_min,#[Za,#[Zu,(ZdO K),T.b.n_len,Qw,#[Za,‹0›,#[Zg]]],#[Za,#[Zh],#[Zg]]]],#[Zg]]]],#[Zg]]],#[ZJ,1,ZcQ.nd],#[Zd,#[Zx,2,ZcQ.nd,(Or.inl rfl),#[ZC,f_l_left,hr,#[Za,‹0›,#[Za,‹1›,#[Zg]]],(by rfl)]],#[Zd,#[Zx,3,ZcQ.nd,(Or.inl rfl),#[ZC,f_l_rows,hr,#[Za,‹2›,#[Zg]],(by rfl)]],#[Zd,#[Zx,4,ZcQ.nd,(Or.inl rfl),#[Zl7,f_Merge_init,hr,#[Za,‹3›,#[Zg]]]],#[Zd,#[Zx,5,ZcQ.nd,(Or.inl rfl),#[ZC,f_l_pick,hr,#[Za,‹2›,#[Za,#[Zh],#[Zg]]],(by rfl)]],#[Zd,#[Zx,6,ZcQ.nd,(Or.inl rfl),#[ZC,f_l_pick,hr,#[Za,‹2›,#[Za,#[Zh],#[Zg]]],(by rfl)]],#[Zd,#[Zx,7,ZcQ.nd,(Or.inl rfl),#[Zh]],#[Zd,(@Zfm _ _ _ _ _ _ PassesOwn.never (@PW.pt _ _ _ #[Zca,#[Zk,ZcI,#[ZaA,f_Merge_coming,T.cl_Merge,hr,‹4›],#[ZS],(Zo _)],#[Zb0,#[Zk,Zef,‹7›,#[Zh],(Zo _)]]]) #[Zd,#[Zac,#[Zde,#[ZdS,#[ZC,f_l_right,hr,#[Za,‹4›,#[Zg]],(by rfl)]]],#[Zi,#[Zq,#[Zb3]]],#[ZG]],(@ZmI _ _ _ _ _ #[Zac,(@PW.pt _ _ _ #[Zca,#[Zk,Zbh,‹7›,‹5›,(Zo _)],#[Zca,#[Zk,Zbh,‹6›,#[Zh],(Zo _)],#[Zb0,#[Zk,Zef,#[Zu,(ZdO K),T.b.n_len,Qw,#[Za,#[ZaA,f_Merge_heads,T.cl_Merge,hr,‹4›],#[Zg]]],#[Zh],(Zo _)]]]]),#[Zi,#[Zaz,#[ZdG,f_Merge_add_row,T.cl_Merge,hr,‹4›,#[Za,#[ZC,f_l_row,hr,#[Za,‹2›,#[Za,#[ZC,f_l_stems,hr,#[Za,‹2›,#[Zg]],(by rfl)],#[Za,#[Zh],#[Zg]]]],(by rfl)],#[Zg]]]]],#[Zi,#[Zac,(@PW.pt _ _ _ #[Zca,#[Zk,Zbh,‹7›,‹5›,(Zo _)],#[Zb0,#[Zk,Zbh,‹6›,#[Zh],(Zo _)]]]),#[Zi,#[Zaz,#[ZdG,f_Merge_drop_row,T.cl_Merge,hr,‹4›,#[Za,#[ZF,(ixT K),#[ZF,(ixL K),#[ZaA,f_Merge_heads,T.cl_Merge,hr,‹4›],#[Zh]],#[Zh]],#[Zg]]]]],#[Zi,#[Zaz,#[ZaA,f_Merge_take,T.cl_Merge,hr,‹4›]]]]]] #[Zi,#[Zx,7,ZcQ.nd,(Or.inl rfl),#[Z8,Zbl,‹7›,#[Zh]]]])]),#[Zi,#[Zac,(@PW.pt _ _ _ #[Zd7,#[Zde,#[ZdS,#[ZC,f_l_right,hr,#[Za,‹4›,#[Zg]],(by rfl)]]],(@ZdP _ _ _ _ #[Zk,Zgx,#[ZaA,f_Merge_left,T.cl_Merge,hr,‹4›],#[Zh],(Zo _)])]),#[Zi,#[Zq,#[Zb3]]],#[ZG]]]]]]]]]]],#[Zi,#[Zq,#[Zb3]]]],?_⟩
 clear f_l_mix f_l_left f_l_pick f_l_stems f_l_key f_l_keys f_l_many f_l_row f_l_rows f_alike_from f_alike f_order_at f_liken f_liken_from f_first_break f_refuse_break f_alikes f_halves f_Row_to_go f_Row_head f_Row_init f_Merge_meet f_Merge_play f_Merge_play_all f_Merge_init f_Merge_coming f_way_up f_matches_up f_Merge_play_again f_Merge_send_out f_Merge_take f_Merge_left f_Merge_heads f_Merge_add_row f_Merge_row_of f_Merge_drop_row f_next_of f_paper_of f_is_number f_is_triple f_shows_greater f_shows_next f_signs_in f_l_right
 have hlen:(sc.map V.int).length=sc.length:=by rw[Qa]
 refine⟨_,rfl,a,_,rfl,.inl hS,_,_,rfl,_,_,rfl,_,rfl,by split<;>split<;>omega,by split<;>split<;>omega,?_⟩
 refine ZeH (fun i σ H2=>∃v1 v2 v3 v4 v5 v6 v7:Option V,σ=[some (.ref a),v1,v2,v3,v4,v5,v6,v7]∧Zz H H2) ⟨_,_,_,_,_,_,_,rfl,Zz.refl _⟩ ?_ ?_
 ·rintro ii σ H2 hi ⟨v1,v2,v3,v4,v5,v6,v7,rfl,s2⟩
  have hi8:(ii:Int)<65:=by split at hi<;>split at hi<;>omega
  clear hi
  refine⟨_,rfl,_,rfl,a,sc,_,rfl,s2.seq hS,h63,by omega,by omega,fun p H3 hp L3 s3=>?_⟩
  have nHp:H p=none:=s2.free hp
  refine⟨_,rfl,p,0,rfl,L3,by decide,fun r rs c4 H4 hr0 hrs hxs h12 L4 a1 a2 B4=>?_⟩
  have hsrt:∀x∈rs,sortedS x.2=true:=fun x hx=>(hxs x hx).2.2.2.1
  have h28:∀x∈rs,∀s∈x.2,s.length≤28∧AZ s:=fun x hx s hs=>⟨(hxs x hx).2.2.2.2.2 s hs,((hrs.lst x hx).2.2 s hs).2⟩
  have hsum:=Zk8 rs fun x hx=>(hxs x hx).2.2.2.2.1
  have s04:Zz H H4:=fun b o hb=>B4 b o (s3 b o (s2 b o hb)) (Zb hb nHp)
  refine⟨_,rfl,fun m dx hm hdx nmd=>?_⟩
  have s5:Zz H4 (upd (upd H4 dx (.own m)) m (.ins cMerge dx [])):=fun b o hb=>by rw[Zc (Zb hb hm),Zc (Zb hb hdx)];exact hb
  have hm5:(upd (upd H4 dx (.own m)) m (.ins cMerge dx [])) m=some (.ins cMerge dx []):=Zf
  generalize upd (upd H4 dx (.own m)) m (.ins cMerge dx [])=H5 at s5 hm5 ⊢
  refine⟨m,dx,r,rs,rfl,hm5,hrs.same s5,hsrt,fun rd sd L st w0 k0 q0 H6 M6 hnew W6 S6 P6 fp6 k6=>⟨rfl,?_⟩⟩
  have s46:Zz H4 H6:=fun b o hb=>k6 b o (s5 b o hb) (Zb hb hm)
  have fpH:∀b,Fp m rd sd L b→H4 b=none:=fun b hb=>by
   rcases fp6 b hb with z|z
   ·rw[z];exact hm
   ·exact s5.free z
  have eP:=ZkM hnew
  have hl:=ZkL rs
  have nfp:¬ Fp m rd sd L p:=fun z=>by obtain⟨o,ho⟩:=L4.here;rw[fpH p z]at ho;cases ho
  have hLl:L.length=rs.length:=by have:=congrArg List.length hnew.1;unfold Zw at this;rw[Qa,Zeb]at this;exact this
  have W0:Wp cRow cMerge H p m H6 ⟨m,rd,sd,L,st,(rs.length:Int),k0,q0,w0⟩:=by
   refine⟨⟨M6,W6,ZfG M6 S6⟩,rfl,by show L.length≤16;omega,fun e he=>?_,fun e he=>?_,fun b hb=>s04.free (fpH b hb),nfp,s04.trans s46⟩
   ·have:(e.ss,e.g)∈L.map (fun e:Zr=>(e.ss,e.g)):=Qf (f:=fun e:Zr=>(e.ss,e.g)) he
    rw[hnew.2]at this
    obtain⟨x,hx,ex⟩:=Qp.mp this
    have e1:x.2=e.ss:=congrArg Prod.fst ex
    rw[← e1]
    exact h28 x hx
   ·have:e.n∈Zw L:=Qf (f:=fun e:Zr=>e.n) he
    rw[hnew.1]at this
    unfold Zek at this
    obtain⟨j,hj,ej⟩:=Qp.mp this
    have:=Qae.mp hj
    show e.n<(rs.length:Int)
    omega
  have L6:=L4.same s46
  have hlP:ZaD (ZaJ L)≤240:=by rw[eP,hl];omega
  clear s46 fpH eP hl nfp hLl M6 hnew W6 S6 P6 fp6 k6 s5 hm5 hm hdx nmd s04 hsum h28 hsrt hxs hrs hr0 h12 L4 B4 L3 s3 s2 hp
  refine⟨_,rfl,p,c4,_,rfl,L6,by omega,by decide,by decide,fun late H7 la0 la1 L7 B7=>?_⟩
  have W7:=W0.draw L6 nHp B7
  refine⟨_,rfl,p,c4+1,_,rfl,L7,by omega,by decide,by decide,fun way H8 _ _ L8 B8=>?_⟩
  have W8:=W7.draw L7 nHp B8
  clear W0 W7 L6 L7 B7 B8
  refine⟨fun mm σ H9=>∃ (X:MS) (tu c:Int),σ=[some (.ref a),some (.int (0+(ii:Int))),some (.ref p),some (.ref r),some (.ref m),some (.int late),some (.int way),some (.int tu)]∧Wp cRow cMerge H p m H9 X∧Zap H9 p c∧0≤tu∧c≤10400+700*tu∧tu+(ZaD (ZaJ X.L):Nat)≤240+(if late<tu then 6 else 0)∧(mm:Int)=400-tu,⟨400,_,0,_,rfl,W8,L8,by omega,by omega,by rw[if_neg (by omega)];show (0:Int)+(ZaD (ZaJ L):Nat)≤_;omega,rfl⟩,?_⟩
  clear W8 L8
  rintro mm σ H9 ⟨X,tu,c,rfl,W9,L9,tu0,hc,hb,hmm⟩
  have em:=W9.em
  subst em
  have hb6:tu+(ZaD (ZaJ X.L):Nat)≤246:=by split at hb<;>omega
  obtain⟨dx9,hm9⟩:=W9.mg.M.ob
  refine⟨_,rfl,X.m,dx9,_,rfl,hm9,ZcS ..,X.m,X.rd,X.sd,X.L,X.s,X.nb,X.li,X.lo,X.w,rfl,W9.mg.M,W9.mg.W,fun x H10 hcom s10=>⟨rfl,_,rfl,?_⟩⟩
  have W10:=W9.same s10
  have L10:=L9.same s10
  clear W9 L9 hm9
  rcases hcom with⟨rfl,w0⟩|⟨t,e0,z,rfl,he0,_,_,w1⟩
  ·refine Zcv rfl (Zbb ?_)
   refine⟨_,rfl,X,rfl,W10.mg,W10.few,W10.ko,fun H11 s11=>⟨_,rfl,Zbb ?_⟩⟩
   have W11:=W10.same s11
   obtain⟨dx11,hm11⟩:=W11.mg.M.ob
   refine⟨_,rfl,X.m,dx11,_,rfl,hm11,Ziy ..,X.m,X.rd,X.sd,X.L,X.s,X.nb,X.li,X.lo,Zbq X.w,rfl,W11.mg.M,fun H12 s12=>?_⟩
   have nd:(Zei (ZaJ X.L)).Nodup:=by rw[← Zcy];exact W11.mg.M.nd
   have w0':Win (hdP (ZaJ X.L)) (Zei (ZaJ X.L)) none:=by rw[← ZeZ,← Zcy,← Zby];exact w0
   have hz:=Zj0 nd w0' (fun x hx=>by obtain⟨e,he,rfl⟩:=Qp.mp hx;exact(W11.mg.M.each e he).le)
   rw[Zov fun e he=>(W11.mg.M.each e he).le,hz]
   exact⟨rfl,_,rfl,Zcv rfl ⟨_,_,_,_,_,_,_,rfl,(W11.same s12).sm⟩⟩
  ·refine Zed (fun z=>nomatch z) ?_
   refine⟨_,rfl,_,_,rfl,rfl,_,rfl,Zcm (by omega) ?_⟩
   refine⟨_,fun σ' H' h=>h,?_⟩
   refine⟨_,rfl,X,rfl,W10.mg,W10.few,W10.ko,fun H11 s11=>⟨_,rfl,Zbb ?_⟩⟩
   have W11:=W10.same s11
   have L11:=L10.same s11
   clear W10 L10
   obtain⟨dx11,hm11⟩:=W11.mg.M.ob
   have hw:X.w.isSome=true:=by
    have W':=W11.mg.W
    rw[Zby]at w1
    rw[W'.one w1];rfl
   refine⟨fun σ H5=>∃ (Y:MS) (c5:Int),σ=[some (.ref a),some (.int (0+(ii:Int))),some (.ref p),some (.ref r),some (.ref X.m),some (.int late),some (.int way),some (.int tu)]∧Wp cRow cMerge H p X.m H5 Y∧Zap H5 p c5∧c5≤c+700∧tu+1+(ZaD (ZaJ Y.L):Nat)≤240+(if late<tu+1 then 6 else 0),?_,?_⟩
   ·refine⟨_,rfl,_,rfl,rfl,_,rfl,?_⟩
    refine ZgZ (decide (V.int way=V.int 0)&&decide ((X.L.length:Int)<16)) (fun _ T' h1=>?_) (fun H12 s12=>?_)
    ·refine⟨_,rfl,rfl,_,rfl,?_⟩
     refine ZgZ (decide ((X.L.length:Int)<16)) (fun _ T2 h2=>?_) h1
     refine⟨_,rfl,X.m,dx11,_,rfl,hm11,Zdj ..,X.m,X.rd,X.sd,X.L,X.s,X.nb,X.li,X.lo,Zbq X.w,rfl,W11.mg.M,fun l H12 hl0 hds s12=>?_⟩
     obtain⟨hs,ehs,hl,hat⟩:=hds
     have hln:=ZaG.len (show ZaG X.L hs from ehs)
     refine⟨l,_,rfl,.inl (SqL.of hl),_,_,rfl,rfl,_,rfl,?_⟩
     have:=h2 H12 s12
     rw[Qa,hln]
     exact this
    have W12:=W11.same s12
    have L12:=L11.same s12
    clear W11 L11 hm11
    obtain⟨dx12,hm12⟩:=W12.mg.M.ob
    refine ZbJ (fun d=>?_) (fun d=>?_)
    ·have d1:=(Q2 _ _ ▸ d:_∧_)
     have d2:=(Q2 _ _ ▸ d1.2:_∧_)
     have e1:tu=late:=V.int.inj (of_decide_eq_true d1.1)
     have e2:(X.L.length:Int)<16:=of_decide_eq_true d2.2
     refine⟨_,rfl,X.m,dx12,_,rfl,hm12,ZjW ..,_,rfl,_,rfl,p,c,rfl,L12,by omega,fun l ss c13 H13 hl0 hl n1 n4 h24 L13 b1 b2 B13=>?_⟩
     have W13:=W12.draw L12 nHp B13
     refine⟨p,l,c13,5,ss,rfl,L13,by omega,by decide,by decide,hl,n1,n4,h24,fun rr ts c14 H14 hrr0 hrr hts hsrt h28 L14 b3 b4 B14=>?_⟩
     have W14:=W13.draw L13 nHp B14
     refine⟨X.m,X.rd,X.sd,X.L,X.s,X.nb,X.li,X.lo,Zbq X.w,rr,ts,rfl,W14.mg.M,W14.nb,by omega,hrr,by omega,fun x hx=>⟨by have:=(h28 x hx).1;omega,(h28 x hx).2⟩,hsrt,fun e sd' s' w' k q' H15 en es eg hp0 hk0 hf0 hsd W15 S15 P15 M15 kp15=>?_⟩
     obtain⟨W16,L16⟩:=W14.add L14 (by omega) en (by rw[es];exact h28) hp0 hk0 hf0 hsd W15 S15 M15 kp15
     refine⟨_,c14,rfl,W16,L16,by omega,?_⟩
     show tu+1+(ZaD (ZaJ (X.L++[e])):Nat)≤_
     rw[Zkm,es,eg,if_pos (by omega)]
     rw[if_neg (by omega)]at hb
     omega
    ·refine⟨_,rfl,_,rfl,rfl,_,rfl,?_⟩
     refine ZgZ (decide (V.int way=V.int 1)) (fun _ T' h1=>⟨_,rfl,rfl,_,rfl,h1 H12 (Zz.refl _)⟩) (fun H13 s13=>?_)
     have W13:=W12.same s13
     have L13:=L12.same s13
     obtain⟨dx13,hm13⟩:=W13.mg.M.ob
     refine ZbJ (fun d1=>?_) (fun d1=>?_)
     ·have d2:=(Q2 _ _ ▸ d1:_∧_)
      have e1:tu=late:=V.int.inj (of_decide_eq_true d2.1)
      refine⟨_,rfl,X.m,dx13,_,rfl,hm13,Zis ..,_,rfl,X.m,dx13,_,rfl,hm13,Zdj ..,X.m,X.rd,X.sd,X.L,X.s,X.nb,X.li,X.lo,Zbq X.w,rfl,W13.mg.M,fun l H14 hl0 hds s14=>?_⟩
      have W14:=W13.same s14
      have L14:=L13.same s14
      obtain⟨hs,ehs,hl,hat⟩:=hds
      have hO:=ZaG.eq (show ZaG X.L hs from ehs)
      obtain⟨e,he,h0,hh0,e0n⟩:∃e∈X.L,∃h0,hs[0]? = some h0∧h0.2.1=e.n:=by
       obtain⟨e',he',_⟩:=Qp.mp he0
       cases hXL:X.L with
       | nil=>rw[hXL]at he';cases he'
       | cons u v =>
        rw[hXL]at hO
        cases hs with
        | nil=>cases hO
        | cons h0 g =>
         rw[Qe,Qe]at hO
         have hO1:=(List.cons.inj hO).1
         exact⟨u,QM ..,h0,rfl,by rw[hO1]⟩
      have hat0:=hat h0 (Qq hh0)
      rw[e0n]at hat0
      have hix:atI (hs.map fun t=>V.ref t.1) 0=some (.ref h0.1):=Zay (j:=0) (by rw[Qv,hh0];rfl)
      refine⟨l,_,_,_,rfl,rfl,SqL.of hl,hix,h0.1,_,_,_,rfl,rfl,SqT.of hat0,rfl,?_⟩
      refine⟨X.m,X.rd,X.sd,X.L,X.s,X.nb,X.li,X.lo,Zbq X.w,e,rfl,W14.mg.M,he,fun sd' s' w' k q' H15 hsd W15 S15 P15 M15 kp15=>?_⟩
      obtain⟨W16,L16⟩:=W14.drop L14 hsd W15 S15 M15 kp15
      refine⟨_,c,rfl,W16,L16,by omega,?_⟩
      show tu+1+(ZaD (ZaJ (ZaL X.L e.n)):Nat)≤_
      have:=ZfJ e.n X.L
      rw[if_pos (by omega)]
      rw[if_neg (by omega)]at hb
      omega
     ·refine⟨_,rfl,X.m,dx13,_,rfl,hm13,ZiH ..,X.m,X.rd,X.sd,X.L,X.s,X.nb,X.li,X.lo,X.w,rfl,W13.mg.M,W13.mg.W,W13.mg.ok,fun x L14 s14 w14 k14 q14 H14 hR M14 W14 ok14 kp14=>?_⟩
      obtain⟨W15,L15,hlf⟩:=W13.take L13 hR M14 W14 ok14 kp14
      refine⟨_,c,rfl,W15,L15,by omega,?_⟩
      have:=hlf hw
      show tu+1+(ZaD (ZaJ L14):Nat)≤_
      split at hb<;>split<;>omega
   ·rintro σ H5 ⟨Y,c5,rfl,W5,L5,hc5,hb5⟩
    exact⟨_,rfl,_,_,rfl,rfl,mm-1,by omega,Y,tu+1,c5,rfl,W5,L5,by omega,by omega,hb5,by omega⟩
 ·rintro σ H2 ⟨v1,v2,v3,v4,v5,v6,v7,rfl,s2⟩
  exact q H2
end
theorem Z0{K:PySem.W.Frag}{h:Heap}{mg:Str→Option Value}{x:Str}{st:Stmt}{ps:List Str}{f:Addr}{od an:Option Addr}{sl:Array (Option Value)}{oc kV dc pm cd ct:Value}(X:K.In h)(G:h.Ns mainGlobals mg)
  (a:PySem.W.nsIn K mainGlobals x=some (some (.ref f))) (l:K.lookup f=some ⟨oc,od,.func (PySem.W.fnOf x x (Zp st) (Zm st) (Ze st) .none kV dc pm an cd ct),sl⟩) (c:PySem.W.codeIn K cd x=true) (k:PySem.W.keepIn K (.ref f)=true)
  (hb:∀ (kV doc pm:Value) (an:Option Addr) (cdv ct:Value) (us:List Value),us.length=ps.length→bindArgs (PySem.W.fnOf x x (Zp st) (Zm st) (Ze st) .none kV doc pm an cdv ct) ⟨us,[]⟩=pure (ps.zip us)):Top K mg x st ps :=
 ⟨_,_,ZK (st:=st) l c k,QaD X G a,(ZK (st:=st) l c k).binds hb⟩
theorem ZcF:∀us:List Value,us.length=1→∃a0,us=[a0]
 | [a0],_=>⟨a0,rfl⟩
theorem ZdC:∀us:List Value,us.length=2→∃a0 a1,us=[a0,a1]
 | [a0,a1],_=>⟨a0,a1,rfl⟩
theorem ZhZ:∀us:List Value,us.length=3→∃a0 a1 a2,us=[a0,a1,a2]
 | [a0,a1,a2],_=>⟨a0,a1,a2,rfl⟩
theorem ZqC:∀us:List Value,us.length=4→∃a0 a1 a2 a3,us=[a0,a1,a2,a3]
 | [a0,a1,a2,a3],_=>⟨a0,a1,a2,a3,rfl⟩
theorem all_mk{l:PySem.W.OpenLaw}{w:World}{K:PySem.W.Frag}{h:Heap}{mg:Str→Option Value}{fa:Addr}(X:K.In h)(G:h.Ns mainGlobals mg)(hfa:mg "law" = some (.ref fa))
  {cRow:Addr}
  {cMerge:Addr}
  {tkMOST_ROWS:Tok}
  (aCRow:#[Xns,K,"Row",cRow]) (pgRow:PySem.W.plainGet K cRow Str.empty=true) (hdRow:PySem.W.hasDictIn K cRow=true) (poRow:PySem.W.plainOver K cRow=true) (saRow:PySem.W.findIn K (.ref cRow) "__setattr__" = some (some (.builtin "object.__setattr__"))) (mkRow:PySem.W.makesIn K cRow=true) (kcRow:#[Xki,K,cRow])
  (nARow_all_keys:PySem.W.findIn K (.ref cRow) "all_keys" = some none)
  (nARow_fars:PySem.W.findIn K (.ref cRow) "fars" = some none)
  (nARow_gone:PySem.W.findIn K (.ref cRow) "gone" = some none)
  (aCMerge:#[Xns,K,"Merge",cMerge]) (pgMerge:PySem.W.plainGet K cMerge Str.empty=true) (hdMerge:PySem.W.hasDictIn K cMerge=true) (poMerge:PySem.W.plainOver K cMerge=true) (saMerge:PySem.W.findIn K (.ref cMerge) "__setattr__" = some (some (.builtin "object.__setattr__"))) (mkMerge:PySem.W.makesIn K cMerge=true) (kcMerge:#[Xki,K,cMerge])
  (nAMerge_best:PySem.W.findIn K (.ref cMerge) "best" = some none)
  (nAMerge_likened:PySem.W.findIn K (.ref cMerge) "likened" = some none)
  (nAMerge_looked:PySem.W.findIn K (.ref cMerge) "looked" = some none)
  (nAMerge_next_number:PySem.W.findIn K (.ref cMerge) "next_number" = some none)
  (nAMerge_rows:PySem.W.findIn K (.ref cMerge) "rows" = some none)
  (nAMerge_stays:PySem.W.findIn K (.ref cMerge) "stays" = some none)
  (a0:#[Xns,K,"alike",f0]) (l0:#[Xlk,K,f0,oc0,od0,"alike","alike",Zc4,kV0,dc0,pm0,an0,cd0,ct0,sl0]) (c0:#[Xci,K,cd0,"alike"]) (k0:#[Xki,K,f0])
  (a1:#[Xns,K,"liken",f1]) (l1:#[Xlk,K,f1,oc1,od1,"liken","liken",Zdd,kV1,dc1,pm1,an1,cd1,ct1,sl1]) (c1:#[Xci,K,cd1,"liken"]) (k1:#[Xki,K,f1])
  (a2:#[Xns,K,"liken_from",f2]) (l2:#[Xlk,K,f2,oc2,od2,"liken_from","liken_from",ZaZ,kV2,dc2,pm2,an2,cd2,ct2,sl2]) (c2:#[Xci,K,cd2,"liken_from"]) (k2:#[Xki,K,f2])
  (a3:#[Xns,K,"alike_from",f3]) (l3:#[Xlk,K,f3,oc3,od3,"alike_from","alike_from",Za0,kV3,dc3,pm3,an3,cd3,ct3,sl3]) (c3:#[Xci,K,cd3,"alike_from"]) (k3:#[Xki,K,f3])
  (a4:#[Xns,K,"order_at",f4]) (l4:#[Xlk,K,f4,oc4,od4,"order_at","order_at",Zbz,kV4,dc4,pm4,an4,cd4,ct4,sl4]) (c4:#[Xci,K,cd4,"order_at"]) (k4:#[Xki,K,f4])
  (a5:#[Xns,K,"next_of",f5]) (l5:#[Xlk,K,f5,oc5,od5,"next_of","next_of",Zbm,kV5,dc5,pm5,an5,cd5,ct5,sl5]) (c5:#[Xci,K,cd5,"next_of"]) (k5:#[Xki,K,f5])
  (a6:#[Xns,K,"paper_of",f6]) (l6:#[Xlk,K,f6,oc6,od6,"paper_of","paper_of",ZaV,kV6,dc6,pm6,an6,cd6,ct6,sl6]) (c6:#[Xci,K,cd6,"paper_of"]) (k6:#[Xki,K,f6])
  (a7:#[Xns,K,"halves",f7]) (l7:#[Xlk,K,f7,oc7,od7,"halves","halves",Zcp,kV7,dc7,pm7,an7,cd7,ct7,sl7]) (c7:#[Xci,K,cd7,"halves"]) (k7:#[Xki,K,f7])
  (a8:#[Xns,K,"way_up",f8]) (l8:#[Xlk,K,f8,oc8,od8,"way_up","way_up",Zci,kV8,dc8,pm8,an8,cd8,ct8,sl8]) (c8:#[Xci,K,cd8,"way_up"]) (k8:#[Xki,K,f8])
  (a9:#[Xns,K,"first_break",f9]) (l9:#[Xlk,K,f9,oc9,od9,"first_break","first_break",ZaR,kV9,dc9,pm9,an9,cd9,ct9,sl9]) (c9:#[Xci,K,cd9,"first_break"]) (k9:#[Xki,K,f9])
  (a10:#[Xns,K,"alikes",f10]) (l10:#[Xlk,K,f10,oc10,od10,"alikes","alikes",ZcD,kV10,dc10,pm10,an10,cd10,ct10,sl10]) (c10:#[Xci,K,cd10,"alikes"]) (k10:#[Xki,K,f10])
  (a11:#[Xns,K,"refuse_break",f11]) (l11:#[Xlk,K,f11,oc11,od11,"refuse_break","refuse_break",ZaN,kV11,dc11,pm11,an11,cd11,ct11,sl11]) (c11:#[Xci,K,cd11,"refuse_break"]) (k11:#[Xki,K,f11])
  (a12:#[Xns,K,"matches_up",f12]) (l12:#[Xlk,K,f12,oc12,od12,"matches_up","matches_up",Za2,kV12,dc12,pm12,an12,cd12,ct12,sl12]) (c12:#[Xci,K,cd12,"matches_up"]) (k12:#[Xki,K,f12])
  (a13:#[Xns,K,"is_number",f13]) (l13:#[Xlk,K,f13,oc13,od13,"is_number","is_number",Zbc,kV13,dc13,pm13,an13,cd13,ct13,sl13]) (c13:#[Xci,K,cd13,"is_number"]) (k13:#[Xki,K,f13])
  (a14:#[Xns,K,"is_triple",f14]) (l14:#[Xlk,K,f14,oc14,od14,"is_triple","is_triple",Zbi,kV14,dc14,pm14,an14,cd14,ct14,sl14]) (c14:#[Xci,K,cd14,"is_triple"]) (k14:#[Xki,K,f14])
  (a15:#[Xns,K,"shows_next",f15]) (l15:#[Xlk,K,f15,oc15,od15,"shows_next","shows_next",ZaP,kV15,dc15,pm15,an15,cd15,ct15,sl15]) (c15:#[Xci,K,cd15,"shows_next"]) (k15:#[Xki,K,f15])
  (a16:#[Xns,K,"shows_greater",f16]) (l16:#[Xlk,K,f16,oc16,od16,"shows_greater","shows_greater",ZaE,kV16,dc16,pm16,an16,cd16,ct16,sl16]) (c16:#[Xci,K,cd16,"shows_greater"]) (k16:#[Xki,K,f16])
  (a17:#[Xns,K,"signs_in",f17]) (l17:#[Xlk,K,f17,oc17,od17,"signs_in","signs_in",Za8,kV17,dc17,pm17,an17,cd17,ct17,sl17]) (c17:#[Xci,K,cd17,"signs_in"]) (k17:#[Xki,K,f17])
  (a18:#[Xns,K,"_law_mix",f18]) (l18:#[Xlk,K,f18,oc18,od18,"_law_mix","_law_mix",Zc9,kV18,dc18,pm18,an18,cd18,ct18,sl18]) (c18:#[Xci,K,cd18,"_law_mix"]) (k18:#[Xki,K,f18])
  (a19:#[Xns,K,"_law_left",f19]) (l19:#[Xlk,K,f19,oc19,od19,"_law_left","_law_left",Zcz,kV19,dc19,pm19,an19,cd19,ct19,sl19]) (c19:#[Xci,K,cd19,"_law_left"]) (k19:#[Xki,K,f19])
  (a20:#[Xns,K,"_law_pick",f20]) (l20:#[Xlk,K,f20,oc20,od20,"_law_pick","_law_pick",Zcf,kV20,dc20,pm20,an20,cd20,ct20,sl20]) (c20:#[Xci,K,cd20,"_law_pick"]) (k20:#[Xki,K,f20])
  (a21:#[Xns,K,"_law_stems",f21]) (l21:#[Xlk,K,f21,oc21,od21,"_law_stems","_law_stems",Zbk,kV21,dc21,pm21,an21,cd21,ct21,sl21]) (c21:#[Xci,K,cd21,"_law_stems"]) (k21:#[Xki,K,f21])
  (a22:#[Xns,K,"_law_key",f22]) (l22:#[Xlk,K,f22,oc22,od22,"_law_key","_law_key",ZcB,kV22,dc22,pm22,an22,cd22,ct22,sl22]) (c22:#[Xci,K,cd22,"_law_key"]) (k22:#[Xki,K,f22])
  (a23:#[Xns,K,"_law_keys",f23]) (l23:#[Xlk,K,f23,oc23,od23,"_law_keys","_law_keys",Zco,kV23,dc23,pm23,an23,cd23,ct23,sl23]) (c23:#[Xci,K,cd23,"_law_keys"]) (k23:#[Xki,K,f23])
  (a24:#[Xns,K,"_law_row",f24]) (l24:#[Xlk,K,f24,oc24,od24,"_law_row","_law_row",Zc3,kV24,dc24,pm24,an24,cd24,ct24,sl24]) (c24:#[Xci,K,cd24,"_law_row"]) (k24:#[Xki,K,f24])
  (a25:#[Xns,K,"_law_many",f25]) (l25:#[Xlk,K,f25,oc25,od25,"_law_many","_law_many",Zcg,kV25,dc25,pm25,an25,cd25,ct25,sl25]) (c25:#[Xci,K,cd25,"_law_many"]) (k25:#[Xki,K,f25])
  (a26:#[Xns,K,"_law_rows",f26]) (l26:#[Xlk,K,f26,oc26,od26,"_law_rows","_law_rows",ZbK,kV26,dc26,pm26,an26,cd26,ct26,sl26]) (c26:#[Xci,K,cd26,"_law_rows"]) (k26:#[Xki,K,f26])
  (a27:#[Xns,K,"_law_right",f27]) (l27:#[Xlk,K,f27,oc27,od27,"_law_right","_law_right",Za5,kV27,dc27,pm27,an27,cd27,ct27,sl27]) (c27:#[Xci,K,cd27,"_law_right"]) (k27:#[Xki,K,f27])
  (a28:#[Xns,K,"law",f28]) (l28:#[Xlk,K,f28,oc28,od28,"law","law",ZcJ,kV28,dc28,pm28,an28,cd28,ct28,sl28]) (c28:#[Xci,K,cd28,"law"]) (k28:#[Xki,K,f28])
  (a29:#[Xfi,K,cRow,"__init__",f29]) (i29:#[Xif,K,f29]) (l29:#[Xlk,K,f29,oc29,od29,"__init__","Row.__init__",ZaS,kV29,dc29,pm29,an29,cd29,ct29,sl29]) (c29:#[Xci,K,cd29,"Row.__init__"]) (k29:#[Xki,K,f29])
  (a30:#[Xfi,K,cRow,"to_go",f30]) (i30:#[Xif,K,f30]) (l30:#[Xlk,K,f30,oc30,od30,"to_go","Row.to_go",ZaI,kV30,dc30,pm30,an30,cd30,ct30,sl30]) (c30:#[Xci,K,cd30,"Row.to_go"]) (k30:#[Xki,K,f30])
  (a31:#[Xfi,K,cRow,"head",f31]) (i31:#[Xif,K,f31]) (l31:#[Xlk,K,f31,oc31,od31,"head","Row.head",ZaT,kV31,dc31,pm31,an31,cd31,ct31,sl31]) (c31:#[Xci,K,cd31,"Row.head"]) (k31:#[Xki,K,f31])
  (a32:#[Xfi,K,cMerge,"__init__",f32]) (i32:#[Xif,K,f32]) (l32:#[Xlk,K,f32,oc32,od32,"__init__","Merge.__init__",Zau,kV32,dc32,pm32,an32,cd32,ct32,sl32]) (c32:#[Xci,K,cd32,"Merge.__init__"]) (k32:#[Xki,K,f32])
  (a33:#[Xfi,K,cMerge,"coming",f33]) (i33:#[Xif,K,f33]) (l33:#[Xlk,K,f33,oc33,od33,"coming","Merge.coming",Zae,kV33,dc33,pm33,an33,cd33,ct33,sl33]) (c33:#[Xci,K,cd33,"Merge.coming"]) (k33:#[Xki,K,f33])
  (a34:#[Xfi,K,cMerge,"take",f34]) (i34:#[Xif,K,f34]) (l34:#[Xlk,K,f34,oc34,od34,"take","Merge.take",Zav,kV34,dc34,pm34,an34,cd34,ct34,sl34]) (c34:#[Xci,K,cd34,"Merge.take"]) (k34:#[Xki,K,f34])
  (a35:#[Xfi,K,cMerge,"left",f35]) (i35:#[Xif,K,f35]) (l35:#[Xlk,K,f35,oc35,od35,"left","Merge.left",Zaj,kV35,dc35,pm35,an35,cd35,ct35,sl35]) (c35:#[Xci,K,cd35,"Merge.left"]) (k35:#[Xki,K,f35])
  (a36:#[Xfi,K,cMerge,"heads",f36]) (i36:#[Xif,K,f36]) (l36:#[Xlk,K,f36,oc36,od36,"heads","Merge.heads",Zaa,kV36,dc36,pm36,an36,cd36,ct36,sl36]) (c36:#[Xci,K,cd36,"Merge.heads"]) (k36:#[Xki,K,f36])
  (a37:#[Xfi,K,cMerge,"looks",f37]) (i37:#[Xif,K,f37]) (l37:#[Xlk,K,f37,oc37,od37,"looks","Merge.looks",ZaB,kV37,dc37,pm37,an37,cd37,ct37,sl37]) (c37:#[Xci,K,cd37,"Merge.looks"]) (k37:#[Xki,K,f37])
  (a38:#[Xfi,K,cMerge,"add_row",f38]) (i38:#[Xif,K,f38]) (l38:#[Xlk,K,f38,oc38,od38,"add_row","Merge.add_row",Z4,kV38,dc38,pm38,an38,cd38,ct38,sl38]) (c38:#[Xci,K,cd38,"Merge.add_row"]) (k38:#[Xki,K,f38])
  (a39:#[Xfi,K,cMerge,"drop_row",f39]) (i39:#[Xif,K,f39]) (l39:#[Xlk,K,f39,oc39,od39,"drop_row","Merge.drop_row",ZW,kV39,dc39,pm39,an39,cd39,ct39,sl39]) (c39:#[Xci,K,cd39,"Merge.drop_row"]) (k39:#[Xki,K,f39])
  (a40:#[Xfi,K,cMerge,"row_of",f40]) (i40:#[Xif,K,f40]) (l40:#[Xlk,K,f40,oc40,od40,"row_of","Merge.row_of",Zaf,kV40,dc40,pm40,an40,cd40,ct40,sl40]) (c40:#[Xci,K,cd40,"Merge.row_of"]) (k40:#[Xki,K,f40])
  (a41:#[Xfi,K,cMerge,"play_all",f41]) (i41:#[Xif,K,f41]) (l41:#[Xlk,K,f41,oc41,od41,"play_all","Merge.play_all",ZX,kV41,dc41,pm41,an41,cd41,ct41,sl41]) (c41:#[Xci,K,cd41,"Merge.play_all"]) (k41:#[Xki,K,f41])
  (a42:#[Xfi,K,cMerge,"play",f42]) (i42:#[Xif,K,f42]) (l42:#[Xlk,K,f42,oc42,od42,"play","Merge.play",Zaw,kV42,dc42,pm42,an42,cd42,ct42,sl42]) (c42:#[Xci,K,cd42,"Merge.play"]) (k42:#[Xki,K,f42])
  (a43:#[Xfi,K,cMerge,"send_out",f43]) (i43:#[Xif,K,f43]) (l43:#[Xlk,K,f43,oc43,od43,"send_out","Merge.send_out",ZZ,kV43,dc43,pm43,an43,cd43,ct43,sl43]) (c43:#[Xci,K,cd43,"Merge.send_out"]) (k43:#[Xki,K,f43])
  (a44:#[Xfi,K,cMerge,"play_again",f44]) (i44:#[Xif,K,f44]) (l44:#[Xlk,K,f44,oc44,od44,"play_again","Merge.play_again",ZO,kV44,dc44,pm44,an44,cd44,ct44,sl44]) (c44:#[Xci,K,cd44,"Merge.play_again"]) (k44:#[Xki,K,f44])
  (a45:#[Xfi,K,cMerge,"meet",f45]) (i45:#[Xif,K,f45]) (l45:#[Xlk,K,f45,oc45,od45,"meet","Merge.meet",Zax,kV45,dc45,pm45,an45,cd45,ct45,sl45]) (c45:#[Xci,K,cd45,"Merge.meet"]) (k45:#[Xki,K,f45])
  (giMOST_ROWS:PySem.W.nsIn K mainGlobals "MOST_ROWS" = some (some (.int 16 tkMOST_ROWS)))
  (z0:PySem.W.nsIn K mainGlobals "abs" = some none) (z1:PySem.W.nsIn K mainGlobals "any" = some none) (z2:PySem.W.nsIn K mainGlobals "bool" = some none) (z3:PySem.W.nsIn K mainGlobals "dict" = some none) (z4:PySem.W.nsIn K mainGlobals "enumerate" = some none) (z5:PySem.W.nsIn K mainGlobals "int" = some none) (z6:PySem.W.nsIn K mainGlobals "isinstance" = some none) (z7:PySem.W.nsIn K mainGlobals "len" = some none) (z8:PySem.W.nsIn K mainGlobals "list" = some none) (z9:PySem.W.nsIn K mainGlobals "max" = some none) (z10:PySem.W.nsIn K mainGlobals "min" = some none) (z11:PySem.W.nsIn K mainGlobals "range" = some none) (z12:PySem.W.nsIn K mainGlobals "sorted" = some none) (z13:PySem.W.nsIn K mainGlobals "sum" = some none) (z14:PySem.W.nsIn K mainGlobals "tuple" = some none) :
  ∃fd:FuncData,(∀ (s:Shared) (v:Value),BindsTo s fd ⟨[v],[]⟩ [("_law_script",v)])∧∀base:Heap,K.In base→base.Ns mainGlobals mg→ZdB l.prog w K mg base CX0 18 fa fd ["_law_script"] (Zjv K):=by
 have e:=hfa.symm.trans (QaD X G a28)
 cases e
 have T:Zao K mg cRow cMerge:=⟨⟨QE X G z0,QE X G z1,QE X G z2,QE X G z3,QE X G z4,QE X G z5,QE X G z6,QE X G z7,QE X G z8,QE X G z9,QE X G z10,QE X G z11,QE X G z12,QE X G z13,QE X G z14⟩,Z0 X G a0 l0 c0 k0 (fun _ _ _ _ _ _ us hl=>by obtain⟨_,_,rfl⟩:=ZdC us hl;exact rfl),Z0 X G a1 l1 c1 k1 (fun _ _ _ _ _ _ us hl=>by obtain⟨_,_,rfl⟩:=ZdC us hl;exact rfl),Z0 X G a2 l2 c2 k2 (fun _ _ _ _ _ _ us hl=>by obtain⟨_,_,_,rfl⟩:=ZhZ us hl;exact rfl),Z0 X G a3 l3 c3 k3 (fun _ _ _ _ _ _ us hl=>by obtain⟨_,_,_,rfl⟩:=ZhZ us hl;exact rfl),Z0 X G a4 l4 c4 k4 (fun _ _ _ _ _ _ us hl=>by obtain⟨_,_,_,rfl⟩:=ZhZ us hl;exact rfl),Z0 X G a5 l5 c5 k5 (fun _ _ _ _ _ _ us hl=>by obtain⟨_,rfl⟩:=ZcF us hl;exact rfl),Z0 X G a6 l6 c6 k6 (fun _ _ _ _ _ _ us hl=>by obtain⟨_,rfl⟩:=ZcF us hl;exact rfl),Z0 X G a7 l7 c7 k7 (fun _ _ _ _ _ _ us hl=>by obtain⟨_,rfl⟩:=ZcF us hl;exact rfl),Z0 X G a8 l8 c8 k8 (fun _ _ _ _ _ _ us hl=>by obtain⟨_,_,rfl⟩:=ZdC us hl;exact rfl),Z0 X G a9 l9 c9 k9 (fun _ _ _ _ _ _ us hl=>by obtain⟨_,rfl⟩:=ZcF us hl;exact rfl),Z0 X G a10 l10 c10 k10 (fun _ _ _ _ _ _ us hl=>by obtain⟨_,rfl⟩:=ZcF us hl;exact rfl),Z0 X G a11 l11 c11 k11 (fun _ _ _ _ _ _ us hl=>by obtain⟨_,_,rfl⟩:=ZdC us hl;exact rfl),Z0 X G a12 l12 c12 k12 (fun _ _ _ _ _ _ us hl=>by obtain⟨_,_,rfl⟩:=ZdC us hl;exact rfl),Z0 X G a13 l13 c13 k13 (fun _ _ _ _ _ _ us hl=>by obtain⟨_,rfl⟩:=ZcF us hl;exact rfl),Z0 X G a14 l14 c14 k14 (fun _ _ _ _ _ _ us hl=>by obtain⟨_,rfl⟩:=ZcF us hl;exact rfl),Z0 X G a15 l15 c15 k15 (fun _ _ _ _ _ _ us hl=>by obtain⟨_,_,_,rfl⟩:=ZhZ us hl;exact rfl),Z0 X G a16 l16 c16 k16 (fun _ _ _ _ _ _ us hl=>by obtain⟨_,_,_,rfl⟩:=ZhZ us hl;exact rfl),Z0 X G a17 l17 c17 k17 (fun _ _ _ _ _ _ us hl=>by obtain⟨_,rfl⟩:=ZcF us hl;exact rfl),Z0 X G a18 l18 c18 k18 (fun _ _ _ _ _ _ us hl=>by obtain⟨_,_,rfl⟩:=ZdC us hl;exact rfl),Z0 X G a19 l19 c19 k19 (fun _ _ _ _ _ _ us hl=>by obtain⟨_,_,rfl⟩:=ZdC us hl;exact rfl),Z0 X G a20 l20 c20 k20 (fun _ _ _ _ _ _ us hl=>by obtain⟨_,_,rfl⟩:=ZdC us hl;exact rfl),Z0 X G a21 l21 c21 k21 (fun _ _ _ _ _ _ us hl=>by obtain⟨_,rfl⟩:=ZcF us hl;exact rfl),Z0 X G a22 l22 c22 k22 (fun _ _ _ _ _ _ us hl=>by obtain⟨_,_,rfl⟩:=ZdC us hl;exact rfl),Z0 X G a23 l23 c23 k23 (fun _ _ _ _ _ _ us hl=>by obtain⟨_,_,_,rfl⟩:=ZhZ us hl;exact rfl),Z0 X G a24 l24 c24 k24 (fun _ _ _ _ _ _ us hl=>by obtain⟨_,_,_,rfl⟩:=ZhZ us hl;exact rfl),Z0 X G a25 l25 c25 k25 (fun _ _ _ _ _ _ us hl=>by obtain⟨_,rfl⟩:=ZcF us hl;exact rfl),Z0 X G a26 l26 c26 k26 (fun _ _ _ _ _ _ us hl=>by obtain⟨_,rfl⟩:=ZcF us hl;exact rfl),Z0 X G a27 l27 c27 k27 (fun _ _ _ _ _ _ us hl=>by obtain⟨_,rfl⟩:=ZcF us hl;exact rfl),⟨_,_,ZK (st:=ZaS) l29 c29 k29,⟨mkRow,a29,i29,kcRow⟩,(ZK (st:=ZaS) l29 c29 k29).binds (ps:=["self", "keys"]) (fun _ _ _ _ _ _ us hl=>by obtain⟨_,_,rfl⟩:=ZdC us hl;exact rfl),QaD X G aCRow⟩,⟨_,_,ZK (st:=ZaI) l30 c30 k30,⟨a30,i30,k30⟩,(ZK (st:=ZaI) l30 c30 k30).binds (ps:=["self"]) (fun _ _ _ _ _ _ us hl=>by obtain⟨_,rfl⟩:=ZcF us hl;exact rfl)⟩,⟨_,_,ZK (st:=ZaT) l31 c31 k31,⟨a31,i31,k31⟩,(ZK (st:=ZaT) l31 c31 k31).binds (ps:=["self"]) (fun _ _ _ _ _ _ us hl=>by obtain⟨_,rfl⟩:=ZcF us hl;exact rfl)⟩,⟨_,_,ZK (st:=Zau) l32 c32 k32,⟨mkMerge,a32,i32,kcMerge⟩,(ZK (st:=Zau) l32 c32 k32).binds (ps:=["self", "rows"]) (fun _ _ _ _ _ _ us hl=>by obtain⟨_,_,rfl⟩:=ZdC us hl;exact rfl),QaD X G aCMerge⟩,⟨_,_,ZK (st:=Zae) l33 c33 k33,⟨a33,i33,k33⟩,(ZK (st:=Zae) l33 c33 k33).binds (ps:=["self"]) (fun _ _ _ _ _ _ us hl=>by obtain⟨_,rfl⟩:=ZcF us hl;exact rfl)⟩,⟨_,_,ZK (st:=Zav) l34 c34 k34,⟨a34,i34,k34⟩,(ZK (st:=Zav) l34 c34 k34).binds (ps:=["self"]) (fun _ _ _ _ _ _ us hl=>by obtain⟨_,rfl⟩:=ZcF us hl;exact rfl)⟩,⟨_,_,ZK (st:=Zaj) l35 c35 k35,⟨a35,i35,k35⟩,(ZK (st:=Zaj) l35 c35 k35).binds (ps:=["self"]) (fun _ _ _ _ _ _ us hl=>by obtain⟨_,rfl⟩:=ZcF us hl;exact rfl)⟩,⟨_,_,ZK (st:=Zaa) l36 c36 k36,⟨a36,i36,k36⟩,(ZK (st:=Zaa) l36 c36 k36).binds (ps:=["self"]) (fun _ _ _ _ _ _ us hl=>by obtain⟨_,rfl⟩:=ZcF us hl;exact rfl)⟩,⟨_,_,ZK (st:=ZaB) l37 c37 k37,⟨a37,i37,k37⟩,(ZK (st:=ZaB) l37 c37 k37).binds (ps:=["self"]) (fun _ _ _ _ _ _ us hl=>by obtain⟨_,rfl⟩:=ZcF us hl;exact rfl)⟩,⟨_,_,ZK (st:=Z4) l38 c38 k38,⟨a38,i38,k38⟩,(ZK (st:=Z4) l38 c38 k38).binds (ps:=["self", "row"]) (fun _ _ _ _ _ _ us hl=>by obtain⟨_,_,rfl⟩:=ZdC us hl;exact rfl)⟩,⟨_,_,ZK (st:=ZW) l39 c39 k39,⟨a39,i39,k39⟩,(ZK (st:=ZW) l39 c39 k39).binds (ps:=["self", "n"]) (fun _ _ _ _ _ _ us hl=>by obtain⟨_,_,rfl⟩:=ZdC us hl;exact rfl)⟩,⟨_,_,ZK (st:=Zaf) l40 c40 k40,⟨a40,i40,k40⟩,(ZK (st:=Zaf) l40 c40 k40).binds (ps:=["self", "n"]) (fun _ _ _ _ _ _ us hl=>by obtain⟨_,_,rfl⟩:=ZdC us hl;exact rfl)⟩,⟨_,_,ZK (st:=ZX) l41 c41 k41,⟨a41,i41,k41⟩,(ZK (st:=ZX) l41 c41 k41).binds (ps:=["self"]) (fun _ _ _ _ _ _ us hl=>by obtain⟨_,rfl⟩:=ZcF us hl;exact rfl)⟩,⟨_,_,ZK (st:=Zaw) l42 c42 k42,⟨a42,i42,k42⟩,(ZK (st:=Zaw) l42 c42 k42).binds (ps:=["self", "numbers"]) (fun _ _ _ _ _ _ us hl=>by obtain⟨_,_,rfl⟩:=ZdC us hl;exact rfl)⟩,⟨_,_,ZK (st:=ZZ) l43 c43 k43,⟨a43,i43,k43⟩,(ZK (st:=ZZ) l43 c43 k43).binds (ps:=["self", "number"]) (fun _ _ _ _ _ _ us hl=>by obtain⟨_,_,rfl⟩:=ZdC us hl;exact rfl)⟩,⟨_,_,ZK (st:=ZO) l44 c44 k44,⟨a44,i44,k44⟩,(ZK (st:=ZO) l44 c44 k44).binds (ps:=["self", "meeting", "comer"]) (fun _ _ _ _ _ _ us hl=>by obtain⟨_,_,_,rfl⟩:=ZhZ us hl;exact rfl)⟩,⟨_,_,ZK (st:=Zax) l45 c45 k45,⟨a45,i45,k45⟩,(ZK (st:=Zax) l45 c45 k45).binds (ps:=["self", "one", "other", "far"]) (fun _ _ _ _ _ _ us hl=>by obtain⟨_,_,_,_,rfl⟩:=ZqC us hl;exact rfl)⟩,⟨pgRow,hdRow,poRow,saRow⟩,nARow_all_keys,nARow_fars,nARow_gone,⟨pgMerge,hdMerge,poMerge,saMerge⟩,nAMerge_best,nAMerge_likened,nAMerge_looked,nAMerge_next_number,nAMerge_rows,nAMerge_stays,⟨_,QaD X G giMOST_ROWS⟩⟩
 exact⟨PySem.W.fnOf "law" "law" (Zp ZcJ) (Zm ZcJ) (Ze ZcJ) .none kV28 dc28 pm28 an28 cd28 ct28,fun s v=>.of_eq rfl,fun base _ _=>Zox (ZK (st:=ZcJ) l28 c28 k28) T⟩
theorem walk{l:PySem.W.OpenLaw}{q:Program}{loose:List Str}{XP:(Str→Option Value)→Heap→Prop}{YP:World→Heap→Prop}{d:DefRec}{K:Params→PySem.W.Frag}(hn:l.most=some 63)(hdf:d.params.defaults=[])
  (hY:∀ (w:World) (h:Heap),YP w h→(K w.params).In h)
  (F:∀ (w:World) (mg:Str→Option Value) (fa:Addr) (h:Heap),(K w.params).In h→h.Ns mainGlobals mg→mg d.name=some (.ref fa) →
   ∃fd:FuncData,(∀ (s:Shared) (u:Value),BindsTo s fd ⟨[u],[]⟩ [("_law_script",u)])∧∀base:Heap,(K w.params).In base→base.Ns mainGlobals mg→ZdB l.prog w (K w.params) mg base CX0 18 fa fd ["_law_script"] (Zjv (K w.params))) :
  PySem.W.WalkO q loose XP YP l.row.toRowW d [] (fun f vs=>PySem.call f vs) :=
 L2.walk_of (n:=63) (k:=18) (x := "_law_script") (CX:=fun _=>CX0) (sp:=fun w=>Zjv (K w.params)) hn (by decide) hdf ⟨rfl,by decide,by decide,rfl⟩ hY F (fun _ _ a ns hl _ hS=>⟨a,ns,rfl,hS,hl,fun _=>rfl⟩) fun _ _ _ _ _ z=>z
end My
open PySem PySem.W PyProof.Rows
namespace PySem.W.Fast
def tw9509577067179784924:=0
def tw15583556804270991550:=0
def tw10134693939964699339:=0
def tw8412677141183953506:=0
def tw8007364864484551750:=0
def tw14613681521635651409:=0
def tw12485491484474649704:=0
def tw1068667662927576682:=0
def tw13997466273430412725:=0
def tw18392602143141304853:=0
def tw14751574467536788684:=0
def tw2801246493535299244:=0
def tw17224713571784173175:=0
def tw13989921494715152558:=0
def tw4320909878728341689:=0
def tw7371323822204891508:=0
def tw13259275825059166644:=0
def tw1573272299651909503:=0
def tw14591824379346299384:=0
def tw9116959178429633432:=0
def tw12082399499528647555:=0
def tw18291110253810842746:=0
def tw17434926399026160133:=0
def tw6662224268687506427:=0
def tw4540923351814489412:=0
def tw7957144998797365884:=0
def tw11318073034050691531:=0
def tw13113410421772387955:=0
def tw8971520494751625427:=0
def tw5458054452940822760:=0
def tw9488995407926269460:=0
def tw16310259892657602403:=0
def tw13265070529507722417:=0
def tw9597777976958030435:=0
def tw12109519052914723236:=0
def tw16877205497188880735:=0
def tw14085559052499310625:=0
def tw11127396928673830169:=0
def tw17988885482226436046:=0
def tw13628786755350087167:=0
def tw12483503727770874133:=0
def tw7779636226110006365:=0
def tw13168295330012341737:=0
def tw18182451499560782615:=0
def tw4904364730463710882:=0
def tw5045679401481670850:=0
def tw11645459707075577088:=0
def tw483130644260658278:=0
def tw8739645125664767136:=0
def tw7221291034587548262:=0
def tw11955239559524799079:=0
def tw5644025326034889584:=0
def tw14120805909291160194:=0
def tw10554821536727381801:=0
def tw17167214856282804747:=0
def tw4587419155908517621:=0
def tw14995355719258203818:=0
def tw10606524816079062581:=0
def tw12519733118819397698:=0
def tw2642843691517801431:=0
def tw5905645916696418984:=0
def tw4002542779601178384:=0
def tw5427966346459204226:=0
def tw8092510676281289910:=0
def tw6464777398577250594:=0
def tw7566363914035958670:=0
def tw10580338786559845333:=0
def tw11059326164539345648:=0
def tw8906019213060324023:=0
def tw7022757381599273966:=0
def tw4060116019355171720:=0
def tw5485100580314532929:=0
def tw10879221574738284790:=0
def tw10521615195511716385:=0
def tw2577333748776374740:=0
def tw6370016866825017485:=0
def tw1513795075659674455:=0
def tw1437519075448962587:=0
def tw4731673471891563041:=0
def tw2120776281629397354:=0
def tw10829538692558928490:=0
def tw11359362339341777654:=0
def tw10965521665626445237:=0
def tw16424163008898321177:=0
def tw17507509400856285487:=0
def tw13721632582994204523:=0
def tw16099841100083391732:=0
def tw6694355136629035510:=0
def tw10981184983364677575:=0
def tw5168126732904478725:=0
def tw17152684133266264842:=0
def tw1968709400164276602:=0
def tw11518592994661571273:=0
def tw9340217531876965709:=0
def tw1916460542859861452:=0
def tw15175907019874642286:=0
def tw11480326586376201759:=0
def tw796647799394979409:=0
def tw4848877566620671724:=0
def tw15914044493892767763:=0
def tw8241080268056074703:=0
def tw16740624273098137345:=0
def tw16272828222034390261:=0
def tw1282784863980131704:=0
def tw2326473702156647856:=0
def tw240072401632064773:=0
def tw11288552708936220404:=0
def tw10027864128235286344:=0
def tw5104452021803510859:=0
def tw11645027697055545837:=0
def tw2621006925401696162:=0
def tw13852621480318018806:=0
def tw11710210794570857146:=0
def tw9905474281972649266:=0
def tw650615415602562443:=0
def tw6747175168237021095:=0
def tw14580016711918715785:=0
def tw7486434512012409768:=0
def tw13562774688142697187:=0
def tw3444845838455676024:=0
def tw15542848433199698676:=0
def tw12522938948181990782:=0
def tw4180836384675123132:=0
def tw17075020889532152468:=0
def tw5890717608853392494:=0
def tw11764238932824956904:=0
def tw9701770283411260906:=0
def tw14319064891712445816:=0
def tw13101878528797114839:=0
def tw2812656208559774729:=0
def tw15322721382059846256:=0
def tw16893224096865913491:=0
def tw8859924771920175424:=0
def tw13301216104607926858:=0
def tw15539503925847702020:=0
def tw1494370231875320689:=0
def tw16080635518841836849:=0
def tw11571058809273428207:=0
def tw12092721606535680351:=0
def tw9293621563374335113:=0
def tw8518482729263865256:=0
def tw11724067376767405685:=0
def tw14169698737531959938:=0
def tw6079267093110340305:=0
def tw2190923545340360667:=0
def tw3401134487348223913:=0
def tw6000398334418312687:=0
def tw17840918635055314614:=0
def tw6215225690094112628:=0
def tw17616771238145580368:=0
def tw9769811300226260233:=0
def tw2938795367646716551:=0
def tw14119630812521251159:=0
def tw3045458519242431001:=0
def tw15227772598542415136:=0
def tw9078149601242495480:=0
def tw9172800752293993708:=0
def tw11851173504898497828:=0
def tw90316396836988250:=0
def tw8832356838666623906:=0
def tw14597785187989799910:=0
def tw17191589698898411144:=0
def tw4273953075379709000:=0
def tw10101658259556497793:=0
def tw15141349912553208906:=0
def tw15183961096231520879:=0
def tw3055999814213635715:=0
def tw3333320094594876258:=0
def tw9405855608969536000:=0
def tw8475798865329693432:=0
def tw14524163847556005964:=0
def tw14002397045748639261:=0
def tw17405503308546313668:=0
def tw15517813009900775755:=0
def tw14920405315557567622:=0
def tw2499603550026641590:=0
def tw12027272662845033424:=0
def tw15338670728231836611:=0
def tw6531666784693987558:=0
def tw2876478237791971612:=0
def tw2111059445930914582:=0
def tw10099247453190808018:=0
def tw7855439267342517745:=0
def tw12622158392372729995:=0
def tw8977737276719414397:=0
def tw931959542422562373:=0
def tw11762227297075049409:=0
def tw9522069313874044805:=0
def tw12201270740355679760:=0
def tw2629227772565982228:=0
def tw16226092798718786329:=0
def tw14988959788001479748:=0
def tw6813326754604808169:=0
def tw11274335210307820756:=0
def tw8971153914916479966:=0
def tw11849170208022108024:=0
def tw15024901336216513839:=0
def tw14889031777025291004:=0
def tw8197100023496391513:=0
def tw17925753842193852810:=0
def tw16503430651931552303:=0
def tw5868966968483569669:=0
def tw7318287635177115482:=0
def tw16814108030987702420:=0
def tw5862686903507428202:=0
def tw14067492431120435829:=0
def tw6881941148819121867:=0
def tw7793490227472041601:=0
def tw17097797779986848023:=0
def tw17081684327966383263:=0
def tw10359997397342117872:=0
def tw5740572197238016350:=0
def tw11505352890345621450:=0
def tw15196684709653167595:=0
def tw4312473595161019812:=0
def tw9599320014071898108:=0
def tw2347728958718267757:=0
def tw1701163425775824878:=0
def tw16696026165483768384:=0
def tw6549829760444572142:=0
def tw12212432472607327195:=0
def tw16760568828017767387:=0
def tw5751126068077050129:=0
def tw8117364714378811187:=0
def tw3134117233605382976:=0
def tw312597255060804702:=0
def tw2619568471665760347:=0
def tw9412793655374472634:=0
def tw4752098229947090468:=0
def tw11731886961259492828:=0
def tw11178812631230051592:=0
def tw5212474251916933639:=0
def tw3009980179682730856:=0
def tw3300701303822537076:=0
def tw14828875435843228213:=0
def tw16380076047562174600:=0
def tw15794143033196343425:=0
def tw16412464913781552114:=0
def tw3716791128668889050:=0
def tw490288301919027428:=0
def tw17243992386339220189:=0
def tw11165093424697778438:=0
def tw2231826442541521006:=0
def tw12988544911208872358:=0
def tw6265423508855477810:=0
def tw9296585730395085767:=0
def tw12182661628311968664:=0
def tw12319976971607247168:=0
def tw11044487303232994069:=0
def tw9263146410618464942:=0
def tw16182541566568162862:=0
def tw8555972187923362624:=0
def tw4931700959882378517:=0
def tw5716663046655212888:=0
def tw14793747094493927179:=0
def tw3096549680810041533:=0
def tw7517719188220732979:=0
def tw11038863752227172721:=0
def tw11790588588999699211:=0
def tw7116845540442267471:=0
def tw18076247813430464630:=0
def tw3538469549460097802:=0
def tw15582349440071469039:=0
def tw12058741814695440085:=0
def tw12645886586208129185:=0
def tw7778152321994058477:=0
def tw15891433910132927384:=0
def tw6203313082527017343:=0
def tw17488246183035150128:=0
def tw18099985844157442200:=0
def tw15724161286975044600:=0
def tw15577379865835487324:=0
def tw13562697003680842508:=0
def tw12732725690329105833:=0
def tw6694367121710001985:=0
def tw11295725013444464334:=0
def tw13760886121352253479:=0
def tw10244686011647946333:=0
def tw1560523708861674557:=0
def tw9274625580582156112:=0
def tw8089093658421549897:=0
def tw15368202359078987012:=0
def tw16470374197280973816:=0
def tw5706486914008664811:=0
def tw9603612169590157965:=0
def tw7136402748184325035:=0
def tw10752493661919968340:=0
def tw6904850993499272257:=0
def tw17126455114301957477:=0
def tw3549971711515808831:=0
def tw4492161612838000083:=0
def tw13221120733479189111:=0
def tw3860844716626336164:=0
def tw7705642563118229363:=0
def tw7779485588377249115:=0
def tw5524815393000435498:=0
def tw412891514837402598:=0
def tw8431912980386607105:=0
def tw12165139748931100038:=0
def tw11959300979356170838:=0
def tw12058725811709158702:=0
def tw2373008582224233503:=0
def tw8002255613167434930:=0
def tw11961542747887309970:=0
def tw13487196753044838464:=0
def tw16568156953828620755:=0
def tw14969610533989429628:=0
def tw904590673382143820:=0
def tw5489255409165757709:=0
def tw16110393253575981940:=0
def tw8031278311893504324:=0
def tw11969749610748622554:=0
def tw2264858446095381001:=0
def tw15476107793504694451:=0
def tw10436555339024564880:=0
def tw11395431636553909571:=0
def tw9507034160661101163:=0
def tw1321715599695411003:=0
def tw8134133896823792612:=0
def tw9613110622664212070:=0
def tw15012836791048068655:=0
def tw13639359622023350409:=0
def tw18382670861543116704:=0
def tw10220390899920835109:=0
def tw16319670593133606414:=0
def tw10279681803644090156:=0
def tw3515553024234938692:=0
def tw4214984636961209873:=0
def tw6255746381884662321:=0
def tw11062475537042100695:=0
def tw9358660416281228491:=0
def tw5803968079112165720:=0
def tw497360402759323666:=0
def tw4961784021901939833:=0
def tw16751566993221695964:=0
def tw433846239194878218:=0
def tw1720430693001348527:=0
def tw12061456952432633624:=0
def tw7270747708648529500:=0
def tw12323239982884477426:=0
def tw13636318679564000075:=0
def tw5615194076295149475:=0
def tw7347686286573339982:=0
def tw7972040683535160832:=0
def tw12097101228850816230:=0
def tw7906397829985910551:=0
def tw17796749235930955060:=0
def tw1007810007138337903:=0
def tw1360629379138266079:=0
def tw6483090020462414943:=0
def tw10282896799346432034:=0
def tw736258418410671012:=0
def tw13098706691562458844:=0
def tw16267692754433684074:=0
def tw12970625234508429300:=0
def tw6151100367829568407:=0
def tw6812575996277695088:=0
def tw15114490163491481126:=0
def tw5463052748876971111:=0
def tw13081107545087111855:=0
def tw1733893131331274726:=0
def tw15873507941318999225:=0
def tw11717082141137790066:=0
def tw16182888605152226431:=0
def tw6169054283322131600:=0
def tw16957246905860128361:=0
def tw2889149587898130833:=0
def tw5013506118578145439:=0
def tw5907448312850333793:=0
def tw8964128070553515231:=0
def tw11278124774876711747:=0
def tw3705844620348847355:=0
def tw18120179310349180370:=0
def tw2844520391403800713:=0
def tw14784675382076520398:=0
def tw1886589787183856971:=0
def tw7492684130408879081:=0
def tw5217508636798819844:=0
def tw125797875842318161:=0
def tw2319294068082269367:=0
def tw16279937769703301993:=0
def tw4538271176986454452:=0
def tw7508208780728945577:=0
def tw3634015009328304879:=0
def tw2237704039918433415:=0
def tw18306094877093047225:=0
def tw14015387131519891821:=0
def tw16675312637696277193:=0
def tw948382972980724094:=0
def tw4255530944077929172:=0
def tw7827509608934514890:=0
def tw11613741463545456639:=0
def tw11042002506208687983:=0
def tw14934090475614790921:=0
def tw5789314778018358471:=0
def tw16723330105465869190:=0
def tw11393022264223568041:=0
def tw15902595751408892405:=0
def tw15904123327391047925:=0
def tw15781229796262000170:=0
def tw3939512370990868348:=0
def tw17813612036243083983:=0
def tw1941764723947812927:=0
def tw13673300016521083840:=0
def tw12336776147896317095:=0
def tw10877821620537467380:=0
def tw9850618918994343928:=0
def tw298726891864094955:=0
def tw10502321703931416773:=0
def tw8762796409840292220:=0
def tw3846945669171118929:=0
def tw6433005525923960595:=0
def tw8140932678511356373:=0
def tw8919710062680884416:=0
def tw16317138756404104367:=0
def tw10894169627129247454:=0
def tw16494633431313586229:=0
def tw15782792998835839559:=0
def tw3943805744140475439:=0
def tw10000125677824105342:=0
def tw5825979461280515854:=0
def tw8443348079232477054:=0
def tw12019712446858251729:=0
def tw9243912193954417904:=0
def tw3697941166806465465:=0
def tw8170634369231790792:=0
def tw3746148507208172024:=0
def tw15941269341576418313:=0
def tw2159766463187532451:=0
def tw3309927661907580390:=0
def tw10102396840413328091:=0
def tw13215610578170291089:=0
def tw13604972893929675226:=0
def tw4015344553843532629:=0
def tw13789035217194961972:=0
def tw1370952864656256635:=0
def tw15267036131972307641:=0
def tw14155053265655823666:=0
def tw8344669616639353288:=0
def tw2792999524591209944:=0
def tw14397056874490419226:=0
def tw176565059885076535:=0
def tw9369943875478007628:=0
def tw888740610908883600:=0
def tw10975616284868262517:=0
def tw17100343671530751106:=0
def tw2202416540442591734:=0
def tw3674833043062993340:=0
def tw11060042801823750522:=0
def tw15024689169967915224:=0
def tw17532772387062626096:=0
def tw306279915530963563:=0
def tw7808446368812897910:=0
def tw3272323993995558026:=0
def tw6270726185818908550:=0
def tw9575715292368435773:=0
def tw17755931272194283680:=0
def tw16285429745396514549:=0
def tw9784676250373532324:=0
def tw3672005320264517696:=0
def tw4170691310101872133:=0
def tw4289260802954397385:=0
def tw4378126102136625249:=0
end PySem.W.Fast
set_option maxRecDepth 100000 in
set_option maxHeartbeats 0 in
theorem PySem.Challenge.cw_mergetree_k64_whole_a_paper_behind_each_holds : PySem.Challenge.rw_mergetree_k64_whole_a_paper_behind_each.Holds := by
 w_on;o_law;k_head;(case hw=>w_witness2)
 k_fill
 refine My.walk (l:=PySem.Challenge.rw_mergetree_k64_whole_a_paper_behind_each) rfl rfl (fun w h Y=>PySem.W.kIn_of Y) ?F
 case F =>
  intro w mg fa h KX G hmg
  refine' My.all_mk KX G hmg ?aCRow ?pgRow ?hdRow ?poRow ?saRow ?mkRow ?kcRow ?nARow_all_keys ?nARow_fars ?nARow_gone ?aCMerge ?pgMerge ?hdMerge ?poMerge ?saMerge ?mkMerge ?kcMerge ?nAMerge_best ?nAMerge_likened ?nAMerge_looked ?nAMerge_next_number ?nAMerge_rows ?nAMerge_stays ?a0 ?l0 ?c0 ?k0 ?a1 ?l1 ?c1 ?k1 ?a2 ?l2 ?c2 ?k2 ?a3 ?l3 ?c3 ?k3 ?a4 ?l4 ?c4 ?k4 ?a5 ?l5 ?c5 ?k5 ?a6 ?l6 ?c6 ?k6 ?a7 ?l7 ?c7 ?k7 ?a8 ?l8 ?c8 ?k8 ?a9 ?l9 ?c9 ?k9 ?a10 ?l10 ?c10 ?k10 ?a11 ?l11 ?c11 ?k11 ?a12 ?l12 ?c12 ?k12 ?a13 ?l13 ?c13 ?k13 ?a14 ?l14 ?c14 ?k14 ?a15 ?l15 ?c15 ?k15 ?a16 ?l16 ?c16 ?k16 ?a17 ?l17 ?c17 ?k17 ?a18 ?l18 ?c18 ?k18 ?a19 ?l19 ?c19 ?k19 ?a20 ?l20 ?c20 ?k20 ?a21 ?l21 ?c21 ?k21 ?a22 ?l22 ?c22 ?k22 ?a23 ?l23 ?c23 ?k23 ?a24 ?l24 ?c24 ?k24 ?a25 ?l25 ?c25 ?k25 ?a26 ?l26 ?c26 ?k26 ?a27 ?l27 ?c27 ?k27 ?a28 ?l28 ?c28 ?k28 ?a29 ?i29 ?l29 ?c29 ?k29 ?a30 ?i30 ?l30 ?c30 ?k30 ?a31 ?i31 ?l31 ?c31 ?k31 ?a32 ?i32 ?l32 ?c32 ?k32 ?a33 ?i33 ?l33 ?c33 ?k33 ?a34 ?i34 ?l34 ?c34 ?k34 ?a35 ?i35 ?l35 ?c35 ?k35 ?a36 ?i36 ?l36 ?c36 ?k36 ?a37 ?i37 ?l37 ?c37 ?k37 ?a38 ?i38 ?l38 ?c38 ?k38 ?a39 ?i39 ?l39 ?c39 ?k39 ?a40 ?i40 ?l40 ?c40 ?k40 ?a41 ?i41 ?l41 ?c41 ?k41 ?a42 ?i42 ?l42 ?c42 ?k42 ?a43 ?i43 ?l43 ?c43 ?k43 ?a44 ?i44 ?l44 ?c44 ?k44 ?a45 ?i45 ?l45 ?c45 ?k45 ?giMOST_ROWS ?z0 ?z1 ?z2 ?z3 ?z4 ?z5 ?z6 ?z7 ?z8 ?z9 ?z10 ?z11 ?z12 ?z13 ?z14
  (case aCRow=>k_is)
  (case pgRow=>k_is)
  (case hdRow=>k_is)
  (case poRow=>k_is)
  (case saRow=>k_is)
  (case mkRow=>k_is)
  (case kcRow=>k_is)
  (case nARow_all_keys=>k_is)
  (case nARow_fars=>k_is)
  (case nARow_gone=>k_is)
  (case aCMerge=>k_is)
  (case pgMerge=>k_is)
  (case hdMerge=>k_is)
  (case poMerge=>k_is)
  (case saMerge=>k_is)
  (case mkMerge=>k_is)
  (case kcMerge=>k_is)
  (case nAMerge_best=>k_is)
  (case nAMerge_likened=>k_is)
  (case nAMerge_looked=>k_is)
  (case nAMerge_next_number=>k_is)
  (case nAMerge_rows=>k_is)
  (case nAMerge_stays=>k_is)
  (case a0|l0|c0|k0=>k_is)
  (case a1|l1|c1|k1=>k_is)
  (case a2|l2|c2|k2=>k_is)
  (case a3|l3|c3|k3=>k_is)
  (case a4|l4|c4|k4=>k_is)
  (case a5|l5|c5|k5=>k_is)
  (case a6|l6|c6|k6=>k_is)
  (case a7|l7|c7|k7=>k_is)
  (case a8|l8|c8|k8=>k_is)
  (case a9|l9|c9|k9=>k_is)
  (case a10|l10|c10|k10=>k_is)
  (case a11|l11|c11|k11=>k_is)
  (case a12|l12|c12|k12=>k_is)
  (case a13|l13|c13|k13=>k_is)
  (case a14|l14|c14|k14=>k_is)
  (case a15|l15|c15|k15=>k_is)
  (case a16|l16|c16|k16=>k_is)
  (case a17|l17|c17|k17=>k_is)
  (case a18|l18|c18|k18=>k_is)
  (case a19|l19|c19|k19=>k_is)
  (case a20|l20|c20|k20=>k_is)
  (case a21|l21|c21|k21=>k_is)
  (case a22|l22|c22|k22=>k_is)
  (case a23|l23|c23|k23=>k_is)
  (case a24|l24|c24|k24=>k_is)
  (case a25|l25|c25|k25=>k_is)
  (case a26|l26|c26|k26=>k_is)
  (case a27|l27|c27|k27=>k_is)
  (case a28|l28|c28|k28=>k_is)
  (case a29|i29|l29|c29|k29=>k_is)
  (case a30|i30|l30|c30|k30=>k_is)
  (case a31|i31|l31|c31|k31=>k_is)
  (case a32|i32|l32|c32|k32=>k_is)
  (case a33|i33|l33|c33|k33=>k_is)
  (case a34|i34|l34|c34|k34=>k_is)
  (case a35|i35|l35|c35|k35=>k_is)
  (case a36|i36|l36|c36|k36=>k_is)
  (case a37|i37|l37|c37|k37=>k_is)
  (case a38|i38|l38|c38|k38=>k_is)
  (case a39|i39|l39|c39|k39=>k_is)
  (case a40|i40|l40|c40|k40=>k_is)
  (case a41|i41|l41|c41|k41=>k_is)
  (case a42|i42|l42|c42|k42=>k_is)
  (case a43|i43|l43|c43|k43=>k_is)
  (case a44|i44|l44|c44|k44=>k_is)
  (case a45|i45|l45|c45|k45=>k_is)
  (case giMOST_ROWS=>k_is)
  (case z0=>k_is)
  (case z1=>k_is)
  (case z2=>k_is)
  (case z3=>k_is)
  (case z4=>k_is)
  (case z5=>k_is)
  (case z6=>k_is)
  (case z7=>k_is)
  (case z8=>k_is)
  (case z9=>k_is)
  (case z10=>k_is)
  (case z11=>k_is)
  (case z12=>k_is)
  (case z13=>k_is)
  (case z14=>k_is)
