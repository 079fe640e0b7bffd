import PyProof.Rows.All
import Wide.All
import OpenK.AllK
import Wide.FinOn
import Lean
import PyProof.EqAt
import PyProof.EqKinds
import PyProof.TupleCall
import PyProof.AttrMissHeap
import KE.KEqDict
import KE.KItemsList
import PyProof.WalksMore
import PySem.Challenge.RW_mergetree_k49_what_sorts_cost
set_option maxHeartbeats 4000000
set_option maxRecDepth 100000
set_option Elab.async false
set_option linter.all false
local macro_rules|`(tactic|ac_rfl)=>`(tactic|decide +kernel)
abbrev Qa:=@List.length_map
abbrev Qb:=@List.getElem?_eq_getElem
abbrev Qc:=@List.mem_singleton
abbrev Qd:=@List.getElem?_eq_some_iff
abbrev Qe:=@List.mem_append
abbrev Qf:=@List.length_append
abbrev Qg:=@List.map_append
abbrev Qh:=@Nat.le_refl
abbrev Qi:=@List.getD_eq_getElem?_getD
abbrev Qj:=@List.mem_append_left
abbrev Qk:=@List.getElem?_map
abbrev Ql:=@List.mem_append_right
abbrev Qm:=@List.length_singleton
abbrev Qn:=@List.map_cons
abbrev Qo:=@List.mem_map_of_mem
abbrev Qp:=@Option.some.inj
abbrev Qq:=@List.mem_of_mem_erase
abbrev Qr:=@List.mem_of_getElem?
abbrev Qs:=@PySem.Heap.get?_push_of_some
abbrev Qt:=@Bool.false_ne_true
abbrev Qu:=@PySem.boot_len
abbrev Qv:=@Nat.zero_le
abbrev Qw:=@List.mem_cons_of_mem
abbrev Qx:=@List.mem_map
abbrev Qy:=@PySem.Heap.lt_size
abbrev Qz:=@List.take_of_length_le
abbrev QA:=@List.length_take
abbrev QB:=@List.size_toArray
abbrev QC:=@List.map_map
abbrev QD:=@List.getElem?_eq_none
abbrev QE:=@List.length_cons
abbrev QF:=@Nat.lt_of_lt_of_le
abbrev QG:=@List.mem_cons
abbrev QH:=@List.map_congr_left
abbrev QI:=@List.append_nil
abbrev QJ:=@PySem.F.plainAttrs_list
abbrev QK:=@List.take_add_one
abbrev QL:=@PySem.Heap.get?_push_size
abbrev QM:=@Nat.le_trans
abbrev QN:=@List.getElem?_append_right
abbrev QO:=@PySem.F.slot_list_append
abbrev QP:=@PySem.F.type_list_append
abbrev QR:=@PySem.W.mg_none_of
abbrev QS:=@Nat.ne_of_lt
abbrev QT:=@List.sum_cons
abbrev QU:=@List.getElem?_append_left
abbrev QV:=@List.length_drop
abbrev QW:=@List.nodup_append
abbrev QX:=@List.eq_nil_of_length_eq_zero
abbrev QY:=@List.length_pos_of_mem
abbrev QZ:=@List.nodup_cons
abbrev Q0:=@List.getElem_mem
abbrev Q1:=@List.append_assoc
abbrev Q2:=@List.mem_cons_self
abbrev Q3:=@PySem.W.kia_one
abbrev Q4:=@List.filterMap_cons
abbrev Q5:=@List.mem_range
abbrev Q6:=@List.length_erase_of_mem
abbrev Q7:=@Int.toNat_natCast
abbrev Q8:=@List.mem_of_mem_take
abbrev Q9:=@List.ext_getElem?
abbrev Qaa:=@PySem.mem_of_lookup
abbrev Qab:=@List.getElem?_range
abbrev Qac:=@PyProof.Rows.callWith_type1
abbrev Qad:=@PySem.Heap.get?_update_of_ne
abbrev Qae:=@Nat.min_le_right
abbrev Qaf:=@List.getLastD_eq_getLast?
abbrev Qag:=@List.sum_append
abbrev Qah:=@List.find?_cons
abbrev Qai:=@List.map_nil
abbrev Qaj:=@List.mem_of_mem_drop
abbrev Qak:=@Nat.lt_irrefl
abbrev Qal:=@List.pairwise_singleton
abbrev Qam:=@List.Perm.refl
abbrev Qan:=@Nat.lt_of_le_of_lt
abbrev Qao:=@List.find?_cons_of_neg
abbrev Qap:=@Nat.add_sub_cancel
abbrev Qaq:=@List.reverse_cons
abbrev Qar:=@List.length_range
abbrev Qas:=@List.mem_erase_of_ne
abbrev Qat:=@List.pairwise_append
abbrev Qau:=@List.getElem?_of_mem
abbrev Qav:=@Bool.and_eq_true
abbrev Qaw:=@List.lookup_cons
abbrev Qax:=@List.getElem?_eq_none_iff
abbrev Qay:=@List.pairwise_iff_getElem
abbrev Qaz:=@List.any_cons
abbrev QaA:=@List.getLast?_eq_getLast
abbrev QaB:=@List.range_succ
abbrev QaC:=@Int.emod_lt_of_pos
abbrev QaD:=@Nat.le_succ
abbrev QaE:=@Int.le_refl
abbrev QaF:=@Option.map_eq_some_iff
abbrev QaG:=@List.length_eq_one_iff
abbrev QaH:=@Int.add_zero
abbrev QaI:=@List.flatMap_cons
abbrev QaM:=@List.mem_reverse
abbrev QaN:=@List.map_take
namespace L2
open PySem PySem.Spec PyProof.Rows
abbrev Key:=Sum Int Str
def ZfM:Key→Value→Bool
 | .inl k,v=>Value.isInt k v
 | .inr x,v=>Value.isStrOf x v
def ZrJ(w:World):Key→Int
 | .inl k=>hashInt k
 | .inr x=>hashStr w x
theorem Zah:∀ {k:Key} {v:Value},ZfM k v=true→(∃i t,k=Sum.inl i∧v=Value.int i t)∨(∃x t,k=Sum.inr x∧v=Value.str x t)
 | .inl i,v,h=>by
  obtain⟨t,e⟩:=Value.isInt_shape (k:=i) (v:=v) h
  exact .inl ⟨i,t,rfl,e⟩
 | .inr x,v,h=>by
  obtain⟨t,e⟩:=Value.isStrOf_shape (x:=x) (v:=v) h
  exact .inr ⟨x,t,rfl,e⟩
theorem ZkT(i:Int)(t:Tok):ZfM (.inl i) (.int i t)=true:=by simp[ZfM,Value.isInt]
theorem Zk6(x:Str)(t:Tok):ZfM (.inr x) (.str x t)=true:=by simp[ZfM,Value.isStrOf]
theorem Zpa(a b:Int):decide ((Sum.inl a:Key)=Sum.inl b)=(a == b):=by
 by_cases e:a=b
 ·subst e;simp
 ·have h:¬ (Sum.inl a:Key)=Sum.inl b:=fun q=>e (Sum.inl.inj q)
  rw[decide_eq_false h]
  exact(beq_eq_false_iff_ne.mpr e).symm
theorem ZoV(a b:Str):decide ((Sum.inr a:Key)=Sum.inr b)=decide (a=b):=by
 by_cases e:a=b
 ·subst e;simp
 ·have h:¬ (Sum.inr a:Key)=Sum.inr b:=fun q=>e (Sum.inr.inj q)
  rw[decide_eq_false h,decide_eq_false e]
theorem Zo3(a:Int)(b:Str):decide ((Sum.inl a:Key)=Sum.inr b)=false:=decide_eq_false (fun q=>nomatch q)
theorem Zpw(a:Str)(b:Int):decide ((Sum.inr a:Key)=Sum.inl b)=false:=decide_eq_false (fun q=>nomatch q)
def ZK(prog:Program)(w:World):PySem.KeyKind prog w Key where
 is:=ZfM
 hash:=ZrJ w
 inj:=fun v a b ha hb=>by
  rcases Zah ha with⟨i,t,rfl,rfl⟩|⟨x,t,rfl,rfl⟩
  ·rcases Zah hb with⟨j,u,rfl,e⟩|⟨y,u,rfl,e⟩
   ·injection e with e1 _;rw[e1]
   ·exact nomatch e
  ·rcases Zah hb with⟨j,u,rfl,e⟩|⟨y,u,rfl,e⟩
   ·exact nomatch e
   ·injection e with e1 _;rw[e1]
 byValue:=fun k v h=>by
  rcases Zah h with⟨i,t,rfl,rfl⟩|⟨x,t,rfl,rfl⟩<;>rfl
 pyHash:=fun hv h=>by
  rcases Zah hv with⟨i,t,rfl,rfl⟩|⟨x,t,rfl,rfl⟩
  ·exact wpAny_pyHash_int h
  ·exact wpAny_pyHash_str h
 eqBool:=fun hu hv h=>by
  rcases Zah hu with⟨i,t,rfl,rfl⟩|⟨x,t,rfl,rfl⟩
  ·rcases Zah hv with⟨j,u,rfl,rfl⟩|⟨y,u,rfl,rfl⟩
   ·rw[Zpa]at h;exact wpAny_eqBool_int h
   ·rw[Zo3]at h;exact SeqAt.EqAt.int_str i t y u _ _ _ _ h
  ·rcases Zah hv with⟨j,u,rfl,rfl⟩|⟨y,u,rfl,rfl⟩
   ·rw[Zpw]at h;exact SeqAt.EqAt.str_int x t j u _ _ _ _ h
   ·rw[ZoV]at h;exact wpAny_eqBool_str h
 «strs»:=fun k x t v h=>by
  rcases Zah h with⟨i,u,rfl,e⟩|⟨y,u,rfl,e⟩
  ·exact nomatch e
  ·injection e with e1 _
   subst e1
   cases v<;>rfl
theorem Zi6(prog:Program)(w:World)(k:Key)(v:Value):(ZK prog w).is k v=ZfM k v:=rfl
theorem Ze1(prog:Program)(w:World)(i:Int)(t:Tok):(ZK prog w).is (.inl i) (.int i t)=true:=ZkT i t
theorem ZeW(prog:Program)(w:World)(x:Str)(t:Tok):(ZK prog w).is (.inr x) (.str x t)=true:=Zk6 x t
inductive V where
 | non|bl (b:Bool)|int (i:Int)|str (x:Str)|byt (b:Array UInt8)|flt (b:UInt64)|ref (a:Addr)|ty (n:String)
 deriving DecidableEq
def ZD:V→Value→Prop
 | .non,u=>u=Value.none
 | .bl b,u=>u=Value.bool b
 | .int i,u=>∃t,u=Value.int i t
 | .str x,u=>∃t,u=Value.str x t
 | .byt b,u=>∃t,u=Value.bytes b t
 | .flt b,u=>∃t,u=Value.float b t
 | .ref a,u=>u=Value.ref a
 | .ty n,u=>u=Value.type n
abbrev Zy:List V→List Value→Prop:=Paired ZD
theorem Zy.length{xs:List V}{us:List Value}(r:Zy xs us):xs.length=us.length:=Paired.length r
theorem Zy.get:∀ {xs:List V} {us:List Value} {i:Nat} {x:V},Zy xs us→xs[i]? = some x→∃u,us[i]? = some u∧ZD x u
 | _,_,_,_,.nil,e=>by simp at e
 | _,_,0,_,.cons r _,e=>by simp at e;subst e;exact⟨_,rfl,r⟩
 | _,_,i+1,x,.cons _ t,e=>by
  obtain⟨u,h1,h2⟩:=Zy.get (i:=i) (x:=x) t (by simpa using e)
  exact⟨u,by simpa using h1,h2⟩
theorem Zy.set{x:V}{u:Value}(r:ZD x u):∀ {xs:List V} {us:List Value} (i:Nat),Zy xs us→Zy (xs.set i x) (us.set i u)
 | _,_,_,.nil=>.nil
 | _,_,0,.cons _ t=>.cons r t
 | _,_,i+1,.cons q t=>.cons q (Zy.set r i t)
theorem Zy.append:∀ {xs ys:List V} {us ws:List Value},Zy xs us→Zy ys ws→Zy (xs++ys) (us++ws)
 | _,_,_,_,.nil,s=>s
 | _,_,_,_,.cons r t,s=>.cons r (Zy.append t s)
theorem Zy.take:∀ {xs:List V} {us:List Value} (n:Nat),Zy xs us→Zy (xs.take n) (us.take n)
 | _,_,0,_=>.nil
 | _,_,_+1,.nil=>.nil
 | _,_,n+1,.cons r t=>.cons r (Zy.take n t)
theorem Zy.drop:∀ {xs:List V} {us:List Value} (n:Nat),Zy xs us→Zy (xs.drop n) (us.drop n)
 | _,_,0,r=>r
 | _,_,_+1,.nil=>.nil
 | _,_,n+1,.cons _ t=>Zy.drop n t
def Zc8:Option V→Option Value→Prop
 | some v,some u=>ZD v u
 | none,none=>True
 | _,_=>False
def KV{κ:Type}:List (κ×V)→List (κ×Value)→Prop:=Paired fun (p:κ×V) (q:κ×Value)=>p.1=q.1∧ZD p.2 q.2
def kV:Key→V
 | .inl i=>.int i
 | .inr x=>.str x
inductive HO where
  | lst (xs:List V)
  | tup (xs:List V)
  | dK (kvs:List (Key×V))|dT (kvs:List (List Key×V))
  | set (S:Int→Bool) (n:Nat)
  | ins (C dx:Addr) (fs:List (Str×V))
  | own (x:Addr)
  | xd (fs:List (Str×V))
  | met (f x:Addr)
  | rng (lo hi:Int)
  | frz (o:Obj) (u:HO)
  | tbl (ps:Array Value)
  | ext (φ:Heap→Prop)
abbrev Hp:=Addr→Option HO
def upd(H:Hp)(a:Addr)(o:HO):Hp:=fun b=>if b=a then some o else H b
theorem Zc{H:Hp}{a:Addr}{o:HO}:upd H a o a=some o:=by unfold upd;rw[if_pos rfl]
theorem Zd{H:Hp}{a b:Addr}{o:HO}(h:b≠a):upd H a o b=H b:=by unfold upd;rw[if_neg h]
theorem Zjo{H:Hp}{a b:Addr}{o u:HO}(h:H a=some o)(h':H b=some u)(d:o≠u):a≠b:=by
 intro e;subst e;rw[h]at h';exact d (Qp h')
theorem Zb{H:Hp}{a b:Addr}{o:HO}(h:H a=some o)(h':H b=none):a≠b:=by
 intro e;subst e;rw[h]at h';cases h'
section
variable (P:Program) (w:World)
def Zap(H:Hp)(h:Heap)(a:Addr):HO→Prop
 | .lst xs=>xs.length≤sizeLine∧∃ (its:List Value) (n:Nat),Zy xs its∧h.get? a=some { cls:=.type "list",data:=.seq its.toArray n }
 | .tup xs=>xs.length≤sizeLine∧∃its:List Value,Zy xs its∧IsTup h a its.toArray
 | .dK kvs=>kvs.length≤sizeLine∧(a == sysModules)=false∧∃vs,KV kvs vs∧h.DictOf (ZK P w) a vs
 | .dT kvs=>kvs.length≤sizeLine∧(a == sysModules)=false∧∃xs:List (List Key×Addr×Value),
   Paired (fun (p:List Key×V) (q:List Key×Addr×Value)=>p.1=q.1∧H q.2.1=some (.tup (p.1.map kV))∧ZD p.2 q.2.2) kvs xs ∧
   ∃o es ep,h.get? a=some o∧o.ExactDict∧o.data=.dict es ep∧es.toList=xs.map (entryOfKey (tupleKind (ZK P w)))∧(xs.map (·.1)).Nodup
 | .set S n=>h.SetOf (intKind P w) a S n
 | .ins C dx fs=>H dx=some (.own a)∧fs.length≤1000∧dx≠a∧h.get? a=some (PySem.W.instObj C dx) ∧
   ∃mA,h.Ns1 dx mA∧(∀f,Zc8 (fs.lookup f) (mA f))∧PySem.Within mA (fs.map (·.1))
 | .own _=>∃o,h.get? a=some o
 | .xd fs=>∃mA,h.Ns1 a mA∧∀f,Zc8 (fs.lookup f) (mA f)
 | .rng lo hi=>∃t u v,h.get? a=some { cls:=.type "range",data:=.fields #[.int lo t,.int hi u,.int 1 v] }
 | .frz o u=>h.get? a=some o∧Zap H h a u
 | .tbl ps=>h.get? a=some { cls:=.none,data:=.fields ps }
 | .met f x=>h.get? a=some (PySem.W.methodObj (.ref f) (.ref x))
 | .ext φ=>φ h∧(∃o,h.get? a=some o)∧∀h1 h2:Heap,φ h1→(∀o,h1.get? a=some o→h2.get? a=some o)→φ h2
def HOk(H:Hp)(h:Heap):Prop:=∀a o,H a=some o→Zap P w H h a o
end
section
variable {P:Program} {w:World} {H H':Hp} {h h':Heap} {a:Addr} {o:HO}
theorem Zap.lt(x:Zap P w H h a o):a<h.objs.size:=by
 cases o with
 | lst xs=>obtain⟨_,_,_,_,e⟩:=x;exact Qy e
 | tup xs=>obtain⟨_,_,_,p⟩:=x;exact p.lt
 | dK kvs=>obtain⟨_,_,_,_,o,_,_,e,_⟩:=x;exact Qy e
 | dT kvs=>obtain⟨_,_,_,_,o,_,_,e,_⟩:=x;exact Qy e
 | set S n=>obtain⟨o,_,_,_,e,_⟩:=x;exact Qy e
 | ins C dx fs=>obtain⟨_,_,_,e,_⟩:=x;exact Qy e
 | own y=>obtain⟨_,e⟩:=x;exact Qy e
 | xd fs=>obtain⟨_,⟨_,_,_,e,_⟩,_⟩:=x;exact Qy e
 | rng lo hi=>obtain⟨_,_,_,e⟩:=x;exact Qy e
 | frz ob u=>obtain⟨e,_⟩:=x;exact Qy e
 | tbl ps=>exact Qy (show h.get? a=some _ from x)
 | met f y=>exact Qy (show h.get? a=some _ from x)
 | ext φ=>obtain⟨_,⟨_,e⟩,_⟩:=x;exact Qy e
theorem Paired.mapP{α β:Type}{F G:α→β→Prop}:∀ {l₁:List α} {l₂:List β},Paired F l₁ l₂→(∀a b,F a b→G a b)→Paired G l₁ l₂
 | _,_,.nil,_=>.nil
 | _,_,.cons r t,f=>.cons (f _ _ r) (Paired.mapP t f)
theorem Zap.stay(x:Zap P w H h a o)(k:∀b u,(b=a∨H b=some (.own a))→h.get? b=some u→h'.get? b=some u)
  (ho:∀b,H b=some (.own a)→H' b=some (.own a)) (ht:∀b xs,H b=some (.tup xs)→H' b=some (.tup xs)):Zap P w H' h' a o:=by
 induction o with
 | lst xs=>obtain⟨z,its,n,r,e⟩:=x;exact⟨z,its,n,r,k _ _ (.inl rfl) e⟩
 | tup xs=>obtain⟨z,its,r,ob,e,c⟩:=x;exact⟨z,its,r,ob,k _ _ (.inl rfl) e,c⟩
 | dK kvs=>obtain⟨z,y,vs,r,ob,es,ep,e,c⟩:=x;exact⟨z,y,vs,r,ob,es,ep,k _ _ (.inl rfl) e,c⟩
 | dT kvs =>
  obtain⟨z,y,xs,r,ob,es,ep,e,c⟩:=x
  exact⟨z,y,xs,Paired.mapP r fun p q z=>⟨z.1,ht _ _ z.2.1,z.2.2⟩,ob,es,ep,k _ _ (.inl rfl) e,c⟩
 | set S n=>obtain⟨ob,es,ep,t,e,c⟩:=x;exact⟨ob,es,ep,t,k _ _ (.inl rfl) e,c⟩
 | ins C dx fs =>
  obtain⟨d,z,ne,e,mA,⟨od,es,ep,e2,c⟩,r⟩:=x
  exact⟨ho _ d,z,ne,k _ _ (.inl rfl) e,mA,⟨od,es,ep,k _ _ (.inr d) e2,c⟩,r⟩
 | own y=>obtain⟨ob,e⟩:=x;exact⟨ob,k _ _ (.inl rfl) e⟩
 | xd fs=>obtain⟨mA,⟨od,es,ep,e,c⟩,r⟩:=x;exact⟨mA,⟨od,es,ep,k _ _ (.inl rfl) e,c⟩,r⟩
 | rng lo hi=>obtain⟨t,u,v,e⟩:=x;exact⟨t,u,v,k _ _ (.inl rfl) e⟩
 | frz ob u ih=>obtain⟨e,q⟩:=x;exact⟨k _ _ (.inl rfl) e,ih q⟩
 | tbl ps =>
  have e:h.get? a=some { cls:=.none,data:=.fields ps }:=x
  show h'.get? a=some { cls:=.none,data:=.fields ps }
  exact k a _ (.inl rfl) e
 | met f y =>
  have e:h.get? a=some (PySem.W.methodObj (.ref f) (.ref y)):=x
  show h'.get? a=some (PySem.W.methodObj (.ref f) (.ref y))
  exact k a _ (.inl rfl) e
 | ext φ=>obtain⟨p,⟨o,e⟩,st⟩:=x;exact⟨st _ _ p fun o q=>k _ _ (.inl rfl) q,⟨o,k _ _ (.inl rfl) e⟩,st⟩
theorem HOk.lt(x:HOk P w H h)(e:H a=some o):a<h.objs.size:=(x a o e).lt
theorem HOk.fresh(x:HOk P w H h)(e:h.objs.size≤a):H a=none:=by
 cases q:H a with
 | none=>rfl
 | some u=>exact absurd (QF (x.lt q) e) (Qak _)
theorem HOk.kept(x:HOk P w H h)(k:∀b u,h.get? b=some u→h'.get? b=some u):HOk P w H h':=fun a o e =>
 (x a o e).stay (fun b u _ q=>k b u q) (fun _ q=>q) fun _ _ q=>q
theorem HOk.laid(x:HOk P w H h)(k:∀b u,h.get? b=some u→h'.get? b=some u)(hp:h.objs.size≤a)(new:Zap P w (upd H a o) h' a o):HOk P w (upd H a o) h':=fun b u e=>by
 have hn:=x.fresh hp
 by_cases hb:b=a
 ·subst hb;rw[Zc]at e;cases e;exact new
 ·rw[Zd hb]at e
  exact(x b u e).stay (fun c v _ q=>k c v q) (fun c q=>by rw[Zd (Zb q hn)];exact q) fun c xs q=>by rw[Zd (Zb q hn)];exact q
end
def Rd(H:Hp)(a:Addr)(u:HO):Prop:=H a=some u∨∃o,H a=some (.frz o u)
theorem Rd.ok{P:Program}{w:World}{H:Hp}{h:Heap}{a:Addr}{u:HO}(r:Rd H a u)(x:HOk P w H h):Zap P w H h a u:=by
 rcases r with r|⟨o,r⟩
 ·exact x a u r
 ·obtain⟨_,q⟩:=x a _ r
  exact q
def Mut:Option HO→Prop
 | some (.lst _)=>True
 | some (.dK _)=>True
 | some (.dT _)=>True
 | some (.set _ _)=>True
 | some (.ins _ _ _)=>True
 | some (.ext _)=>True
 | _=>False
section
variable {P:Program} {w:World} {H:Hp} {h h':Heap} {x e:Addr} {o':HO}
theorem HOk.write(ok:HOk P w H h)(mu:Mut (H x))(he:e=x∨H e=some (.own x))(k:∀b u,b≠e→h.get? b=some u→h'.get? b=some u)(heo:∃u,h'.get? e=some u)
  (new:Zap P w (upd H x o') h' x o'):HOk P w (upd H x o') h':=fun b u q=>by
 have nown:∀c y,H c=some (.own y)→c≠x:=fun c y r z=>by subst z;rw[r]at mu;exact mu
 have ntup:∀c xs,H c=some (.tup xs)→c≠x:=fun c xs r z=>by subst z;rw[r]at mu;exact mu
 by_cases hb:b=x
 ·subst hb;rw[Zc]at q;cases q;exact new
 ·rw[Zd hb]at q
  by_cases hbe:b=e
  ·have q':H b=some (.own x):=by
    rcases he with z|z
    ·exact absurd (hbe.trans z) hb
    ·rw[hbe];exact z
   rw[q]at q';cases q'
   obtain⟨v,hv⟩:=heo
   exact⟨v,by rw[hbe];exact hv⟩
  ·refine(ok b u q).stay (fun c v hc r=>k c v ?_ r) (fun c r=>by rw[Zd (nown c b r)];exact r) fun c xs r=>by rw[Zd (ntup c xs r)];exact r
   rcases hc with rfl|hc
   ·exact hbe
   ·rintro rfl
    rcases he with z|z
    ·exact nown c b hc z
    ·rw[hc]at z;cases z;exact hb rfl
end
structure Un (fs ex:List Addr) (H H':Hp) (h h':Heap):Prop where
 keep:∀b o,h.get? b=some o→H b=none→b ∉ fs→b ∉ ex→h'.get? b=some o
 slot:∀b o,h.get? b=some o→H b=none→b∈fs→b ∉ ex→∃sl,h'.get? b=some { o with slots:=sl }
 free:∀b o,h.get? b=some o→H b=none→b ∉ ex→H' b=none
 there:∀b o,h.get? b=some o→b ∉ ex→∃o',h'.get? b=some o'
 tups:∀b xs,H b=some (.tup xs)→H' b=some (.tup xs)
 frzs:∀b o u,H b=some (.frz o u)→H' b=some (.frz o u)
 tbls:∀b ps,H b=some (.tbl ps)→∃more,H' b=some (.tbl (ps++more))
section
variable {fs fs' ex ex':List Addr} {H H1 H2:Hp} {h h1 h2 h':Heap} {a x e:Addr} {o:HO}
theorem Un.any(u:Un fs ex H H1 h h1){b:Addr}{ob:Obj}(q:h.get? b=some ob)(n:H b=none)(hx:b ∉ ex):∃sl,h1.get? b=some { ob with slots:=sl }:=by
 by_cases hb:b∈fs
 ·exact u.slot b ob q n hb hx
 ·exact⟨ob.slots,u.keep b ob q n hb hx⟩
theorem Un.kept(k:∀b u,h.get? b=some u→h'.get? b=some u):Un fs ex H H h h' :=
 ⟨fun b ob q _ _ _=>k b ob q,fun b ob q _ _ _=>⟨ob.slots,k b ob q⟩,fun _ _ _ n _=>n,fun b ob q _=>⟨ob,k b ob q⟩,fun _ _ q=>q,fun _ _ _ q=>q,fun _ ps q=>⟨#[],by rw[q];simp⟩⟩
theorem Un.refl:Un fs ex H H h h:=Un.kept fun _ _ q=>q
theorem Un.laid(k:∀b u,h.get? b=some u→h'.get? b=some u)(hp:h.objs.size≤a)(hn:H a=none):Un fs ex H (upd H a o) h h' where
 keep:=fun b u q _ _ _=>k b u q
 slot:=fun b u q _ _ _=>⟨u.slots,k b u q⟩
 free:=fun b u q n _=>by rw[Zd (QS (QF (Qy q) hp))];exact n
 there:=fun b u q _=>⟨u,k b u q⟩
 tups:=fun b xs q=>by rw[Zd (Zb q hn)];exact q
 frzs:=fun b u xs q=>by rw[Zd (Zb q hn)];exact q
 tbls:=fun b ps q=>⟨#[],by rw[Zd (Zb q hn),q];simp⟩
theorem Un.write(mu:Mut (H x))(he:e=x∨H e=some (.own x))(k:∀b u,b≠e→h.get? b=some u→h'.get? b=some u)(heo:∃u,h'.get? e=some u):Un fs ex H (upd H x o) h h':=by
 have hx:∀b,H b=none→b≠x:=fun b n z=>by subst z;rw[n]at mu;exact mu
 have hb:∀b,H b=none→b≠e:=fun b n z=>by
  subst z
  rcases he with r|r
  ·exact hx b n r
  ·rw[n]at r;cases r
 have hm:∀b u,H b=some u→¬ Mut (some u)→b≠x:=fun b u q nm z=>by subst z;rw[q]at mu;exact nm mu
 refine⟨fun b u q n _ _=>k b u (hb b n) q,fun b u q n _ _=>⟨u.slots,k b u (hb b n) q⟩,fun b u q n _=>by rw[Zd (hx b n)];exact n,fun b u q _=>?_,
  fun b xs q=>by rw[Zd (hm b _ q fun z=>z)];exact q,fun b u xs q=>by rw[Zd (hm b _ q fun z=>z)];exact q,fun b ps q=>⟨#[],by rw[Zd (hm b _ q fun z=>z),q];simp⟩⟩
 by_cases hbe:b=e
 ·subst hbe;exact heo
 ·exact⟨u,k b u hbe q⟩
end
def trk(h:Heap)(H:Hp):List Addr:=(List.range h.objs.size).filter fun a=>(H a).isSome
def Zho(h:Heap)(H:Hp):Heap:=PySem.W.hideAll h (trk h H)
theorem Zkc(h:Heap)(H:Hp):(Zho h H).objs.size=h.objs.size:=PySem.W.hideAll_size _ _
theorem Zlb{h:Heap}{H:Hp}{b:Addr}{o:Obj}(e:h.get? b=some o)(n:H b=none):(Zho h H).get? b=some o :=
 PySem.W.hideAll_get _ e fun hm=>by
  have q:(H b).isSome=true:=(List.mem_filter.mp hm).2
  rw[n]at q;simp at q
theorem ZnY{h:Heap}{H:Hp}{b:Addr}{o:Obj}(e:(Zho h H).get? b=some o):h.get? b=some o∧H b=none:=by
 have e':h.get? b=some o:=PySem.W.of_hideAll (trk h H) e
 refine⟨e',?_⟩
 cases q:H b with
 | none=>rfl
 | some x =>
  have hm:b∈trk h H:=List.mem_filter.mpr ⟨Q5.mpr (Qy e'),by simp[q]⟩
  have z:(Zho h H).get? b=none:=PySem.W.hideAll_none (trk h H) hm
  rw[z]at e;cases e
def Zoa(g h:Heap)(L:Addr):List (Addr×Obj):=(List.range h.objs.size).filterMap fun a=>if a=L∨(g.get? a).isSome=true then none else (h.get? a).map fun o=>(a,o)
def rest(g h:Heap)(L d:Addr):List (Addr×Obj):=(Zoa g h L).filter fun p=>decide (p.1≠d)
structure Mod (K:PySem.W.Frag) (mg:Str→Option Value) (base:Heap):Prop where
 kin:K.In base
 glob:base.Ns mainGlobals mg
 blt:∃mb,base.Ns builtinsNs mb∧∀x:Str,x ≠ "__name__"→mb x=bootBuiltins x
 nolimit:base.NoLimit
structure Cx where
 prog:Program
 w:World
 K:PySem.W.Frag
 mg:Str→Option Value
 base:Heap
 A:Around
 N:List Str
 s₀:Shared
 H₀:Hp
 env:Env
 outer:List Env
 stack:List Env
 ex:List Addr
 fn:Str→Bool
 calm:Bool
 pn:List (Addr×Obj)
 xe:Value→Shared→Prop
def frs(l:List Env):List Addr:=l.filterMap (·.frame)
abbrev Cx.fs(X:Cx):List Addr:=frs X.outer
def Vis(sc:Scope)(x:Str):Prop:=sc.names.lookup x=some .local∨sc.names.lookup x=some .cell∨sc.names.lookup x=some .free
def Loc(sc:Scope)(x:Str):Prop:=sc.names.lookup x=some .local∨sc.names.lookup x=some .cell
def Zrw(env:Env)(h:Heap)(m:Str→Option Value)(x:Str)(u:Value):Prop :=
 (env.kindOf x=some .local∧m x=some u)∨((env.kindOf x=some .cell∨env.kindOf x=some .free)∧∃c,env.cells.lookup x=some c∧h.IsCell c (some u))
structure Cx.Ok (X:Cx):Prop where
 mod:Mod X.K X.mg X.base
 kind:X.env.scope.kind=.function
 glob:X.env.globals=mainGlobals
 blt:X.env.builtins=builtinsNs
 above:X.s₀.heap.objs.size≤X.env.locals
 inj:∀x y c,X.env.cells.lookup x=some c→X.env.cells.lookup y=some c→x=y
 has:∀x,(X.env.kindOf x=some .cell∨X.env.kindOf x=some .free)→∃c,X.env.cells.lookup x=some c
 cab:∀x c,X.fn x=true→X.env.cells.lookup x=some c→X.s₀.heap.objs.size≤c
 hd:X.calm=true→X.A.handled=none
 frames:X.A.frames=some X.stack
 stk:X.stack=X.outer∨(X.stack=X.env::X.outer∧X.env.frame=some X.env.locals)
 exf:∀b∈X.ex,b≠X.env.locals∧∀x c,X.env.cells.lookup x=some c→c≠b
 bs:∀b o,X.base.get? b=some o→X.s₀.heap.get? b=some o∧X.H₀ b=none
 bsz:X.base.objs.size≤X.s₀.heap.objs.size
 noex:∀b o,X.base.get? b=some o→b ∉ X.ex
 exfs:∀b∈X.ex,b ∉ X.fs
 funs:X.s₀.heap.FunFrames X.base X.outer
 frf:∀b∈X.fs,X.H₀ b=none
structure Inv (X:Cx) (pins:List (Addr×Obj)) (σ:List (Option V)) (H:Hp) (s:Shared):Prop where
 ok:X.Ok
 os:s.os=X.s₀.os
 bare:AllBare s.gens
 base:Un X.fs X.ex X.H₀ H X.s₀.heap s.heap
 loc:∃m,s.heap.Ns X.env.locals m∧∀ (i:Nat) (x:Str) (v:V),X.N[i]? = some x→σ[i]? = some (some v)→Vis X.env.scope x→∃u,ZD v u∧Zrw X.env s.heap m x u
 cell:∀x c,X.env.cells.lookup x=some c→∃v,s.heap.IsCell c v
 free:H X.env.locals=none
 freeC:∀x c,X.env.cells.lookup x=some c→H c=none
 pin:∀p∈X.pn++pins,s.heap.get? p.1=some p.2∧H p.1=none∧p.1≠X.env.locals∧p.1 ∉ X.fs∧∀v,p.2.data≠.cell v
 hok:HOk X.prog X.w H s.heap
 len:σ.length=X.N.length
section
variable {X:Cx} {pins:List (Addr×Obj)} {σ:List (Option V)} {H H':Hp} {s:Shared} {h':Heap}
theorem Cx.Ok.nofr(ok:X.Ok){b:Addr}{o:Obj}(e:X.base.get? b=some o):b ∉ X.fs:=fun hb=>by
 have:=(ok.funs.mem hb).1
 rw[e]at this;cases this
theorem Inv.bs(I:Inv X pins σ H s):∀b o,X.base.get? b=some o→s.heap.get? b=some o∧H b=none:=fun b o e =>
 ⟨I.base.keep b o (I.ok.bs b o e).1 (I.ok.bs b o e).2 (I.ok.nofr e) (I.ok.noex b o e),I.base.free b o (I.ok.bs b o e).1 (I.ok.bs b o e).2 (I.ok.noex b o e)⟩
theorem Inv.bk(I:Inv X pins σ H s):∀b o,X.base.get? b=some o→s.heap.get? b=some o:=fun b o e=>(I.bs b o e).1
theorem Inv.mod(I:Inv X pins σ H s):Mod X.K X.mg X.base:=I.ok.mod
theorem Inv.kIn(I:Inv X pins σ H s):X.K.In s.heap:=I.ok.mod.kin.keeps I.bk
theorem Inv.lt(I:Inv X pins σ H s):X.env.locals<s.heap.objs.size:=let ⟨_,hn,_⟩:=I.loc;hn.lt
theorem Inv.sz(I:Inv X pins σ H s):X.s₀.heap.objs.size≤s.heap.objs.size:=QM I.ok.above (Nat.le_of_lt I.lt)
theorem Inv.nofs(I:Inv X pins σ H s){a:Addr}(h:s.heap.objs.size≤a):a ∉ X.fs:=fun hb=>by
 obtain⟨_,o,ho,_⟩:=I.ok.funs.mem hb
 exact absurd (QF (Qy ho) (QM I.sz h)) (Qak _)
theorem Inv.cne(I:Inv X pins σ H s):∀x c,X.env.cells.lookup x=some c→c≠X.env.locals:=fun x c e z=>by
 obtain⟨v,o,ho,hd⟩:=I.cell x c e
 obtain⟨m,⟨o',es,ep,ho',hd',_⟩,_⟩:=I.loc
 rw[z,ho']at ho;cases ho;rw[hd']at hd;cases hd
theorem Inv.funs(I:Inv X pins σ H s):s.heap.FunFrames X.base X.outer:=by
 have all:∀ (l:List Env),(∀b∈frs l,b∈X.fs)→X.s₀.heap.FunFrames X.base l→s.heap.FunFrames X.base l:=by
  intro l
  induction l with
  | nil=>intro _ _;trivial
  | cons env r ih =>
   intro hs hl
   obtain⟨hk,⟨L,o,hf,hn,ho,hd⟩,hr⟩:=hl
   have hL:L∈X.fs:=hs L (by unfold frs;rw[Q4,hf];exact Q2)
   obtain⟨sl,e⟩:=I.base.slot L o ho (I.ok.frf L hL) hL fun z=>I.ok.exfs L z hL
   exact⟨hk,⟨L,_,hf,hn,e,hd⟩,ih (fun b hb=>hs b (by unfold frs;rw[Q4,hf];exact Qw _ hb)) hr⟩
 exact all X.outer (fun _ hb=>hb) I.ok.funs
theorem Inv.stack(I:Inv X pins σ H s):s.heap.FunFrames X.base X.stack:=by
 rcases I.ok.stk with e|⟨e,hf⟩
 ·rw[e];exact I.funs
 ·rw[e]
  obtain⟨m,hn,_⟩:=I.loc
  refine .cons (by rw[I.ok.kind];decide) hf hn ?_ I.funs
  exact Heap.get?_none_of_le (QM I.ok.bsz I.ok.above)
theorem Inv.stkSub(I:Inv X pins σ H s):∀b∈frs X.stack,b∈X.env.locals::X.fs:=fun b hb=>by
 rcases I.ok.stk with e|⟨e,hf⟩
 ·rw[e]at hb;exact Qw _ hb
 ·rw[e]at hb
  unfold frs at hb
  rw[Q4,hf]at hb
  exact hb
theorem Inv.stkFree(I:Inv X pins σ H s):∀b∈frs X.stack,H b=none:=fun b hb=>by
 rcases QG.mp (I.stkSub b hb) with e|hb
 ·rw[e];exact I.free
 ·obtain⟨_,o,ho,_⟩:=I.ok.funs.mem hb
  exact I.base.free b o ho (I.ok.frf b hb) fun z=>I.ok.exfs b z hb
theorem Inv.step{g':Array GenState}{t':Nat}{d':Drawn}{ch:List Addr}(I:Inv X pins σ H s)
  (hch:∀b∈ch,(b∈X.ex∨X.s₀.heap.objs.size≤b)∧b≠X.env.locals∧(∀x c,X.env.cells.lookup x=some c→c≠b)∧∀p∈X.pn++pins,p.1≠b)
  (keep:∀b o,b≠X.env.locals→b ∉ X.fs→b ∉ ch→s.heap.get? b=some o→H b=none→h'.get? b=some o)
  (slot:∀b o,b≠X.env.locals→b∈X.fs→b ∉ ch→s.heap.get? b=some o→H b=none→∃sl,h'.get? b=some { o with slots:=sl }) (free:∀b o,b ∉ ch→s.heap.get? b=some o→H b=none→H' b=none)
  (there:∀b o,b ∉ ch→s.heap.get? b=some o→∃o',h'.get? b=some o')
  (tups:∀b xs,H b=some (.tup xs)→H' b=some (.tup xs)) (frzs:∀b o u,H b=some (.frz o u)→H' b=some (.frz o u)) (tbls:∀b ps,H b=some (.tbl ps)→∃more,H' b=some (.tbl (ps++more)))
  (ns:∀m,s.heap.Ns X.env.locals m→h'.Ns X.env.locals m) (hok:HOk X.prog X.w H' h') (hg:AllBare g') :
  Inv X pins σ H' { s with heap:=h',gens:=g',drawn:=d',toks:=t' }:=by
 have neL:∀b o,X.s₀.heap.get? b=some o→b≠X.env.locals:=fun b o e=>QS (QF (Qy e) I.ok.above)
 have neC:∀b o,X.s₀.heap.get? b=some o→b ∉ X.ex→b ∉ ch:=fun b o e hx hb=>by
  rcases(hch b hb).1 with z|z
  ·exact hx z
  ·exact absurd (QF (Qy e) z) (Qak _)
 have cellK:∀x c,X.env.cells.lookup x=some c→∀v,s.heap.IsCell c v→h'.IsCell c v:=fun x c e v ⟨o,ho,hd⟩=>by
  have nch:c ∉ ch:=fun z=>(hch c z).2.2.1 x c e rfl
  by_cases hc:c∈X.fs
  ·obtain⟨sl,q⟩:=slot c o (I.cne x c e) hc nch ho (I.freeC x c e)
   exact⟨_,q,hd⟩
  ·exact⟨o,keep c o (I.cne x c e) hc nch ho (I.freeC x c e),hd⟩
 refine⟨I.ok,I.os,hg,⟨fun b o e n hb hx=>?_,fun b o e n hb hx=>?_,fun b o e n hx=>?_,fun b o e hx=>?_,fun b xs e=>tups b xs (I.base.tups b xs e),fun b o xs e=>frzs b o xs (I.base.frzs b o xs e),fun b ps e=>?_⟩,?_,fun x c e=>?_,?_,fun x c e=>?_,fun p hp=>?_,hok,I.len⟩
 ·exact keep b o (neL b o e) hb (neC b o e hx) (I.base.keep b o e n hb hx) (I.base.free b o e n hx)
 ·obtain⟨sl,e1⟩:=I.base.slot b o e n hb hx
  obtain⟨sl',e2⟩:=slot b _ (neL b o e) hb (neC b o e hx) e1 (I.base.free b o e n hx)
  exact⟨sl',e2⟩
 ·obtain⟨o',e1⟩:=I.base.there b o e hx
  exact free b o' (neC b o e hx) e1 (I.base.free b o e n hx)
 ·obtain⟨o',e1⟩:=I.base.there b o e hx
  exact there b o' (neC b o e hx) e1
 ·obtain⟨m1,e1⟩:=I.base.tbls b ps e
  obtain⟨m2,e2⟩:=tbls b _ e1
  exact⟨m1++m2,by rw[e2,Array.append_assoc]⟩
 ·obtain⟨m,hn,hl⟩:=I.loc
  refine⟨m,ns m hn,fun i x v e1 e2 e3=>?_⟩
  obtain⟨u,r,l⟩:=hl i x v e1 e2 e3
  refine⟨u,r,?_⟩
  rcases l with l|⟨k,c,e,z⟩
  ·exact .inl l
  ·exact .inr ⟨k,c,e,cellK x c e _ z⟩
 ·obtain⟨v,z⟩:=I.cell x c e
  exact⟨v,cellK x c e v z⟩
 ·obtain⟨m,⟨o,_,_,ho,_⟩,_⟩:=I.loc
  exact free _ o (fun z=>(hch _ z).2.1 rfl) ho I.free
 ·obtain⟨v,o,ho,hd⟩:=I.cell x c e
  exact free c o (fun z=>(hch c z).2.2.1 x c e rfl) ho (I.freeC x c e)
 ·obtain⟨e,n,ne,nf,d⟩:=I.pin p hp
  have nch:p.1 ∉ ch:=fun z=>(hch p.1 z).2.2.2 p hp rfl
  exact⟨keep p.1 p.2 ne nf nch e n,free p.1 p.2 nch e n,ne,nf,d⟩
theorem Inv.un{t':Nat}(I:Inv X pins σ H s)(u:Un X.fs [] H H' s.heap h')(hok:HOk X.prog X.w H' h'):Inv X pins σ H' { s with heap:=h',toks:=t' }:=by
 obtain⟨m,⟨o,es,ep,ho,r⟩,_⟩:=id I.loc
 obtain⟨sl,hL⟩:=u.any ho I.free (by simp)
 exact I.step (g':=s.gens) (d':=s.drawn) (ch:=[]) (fun _ z=>nomatch z) (fun b o _ hb _ e n=>u.keep b o e n hb (by simp)) (fun b o _ hb _ e n=>u.slot b o e n hb (by simp)) (fun b o _ e n=>u.free b o e n (by simp)) (fun b o _ e=>u.there b o e (by simp)) u.tups u.frzs u.tbls (fun m' hm=>by
  obtain⟨o',es',ep',ho',r'⟩:=hm
  rw[ho]at ho';cases ho'
  exact⟨_,es',ep',hL,r'⟩) hok I.bare
theorem Inv.call{g':Array GenState}{t':Nat}{d':Drawn}{ch:List Addr}(I:Inv X pins σ H s)(u:Un (frs X.stack) ch H H' s.heap h')(hok:HOk X.prog X.w H' h')(hg:AllBare g')
  (hch:∀b∈ch,(b∈X.ex∨X.s₀.heap.objs.size≤b)∧b≠X.env.locals∧(∀x c,X.env.cells.lookup x=some c→c≠b)∧∀p∈X.pn++pins,p.1≠b) :
  Inv X pins σ H' { s with heap:=h',gens:=g',drawn:=d',toks:=t' }:=by
 obtain⟨m,⟨o,es,ep,ho,r⟩,_⟩:=id I.loc
 obtain⟨sl,hL⟩:=u.any ho I.free fun z=>(hch _ z).2.1 rfl
 exact I.step (ch:=ch) hch (fun b o hL hb hc e n=>u.keep b o e n (fun z=>(QG.mp (I.stkSub b z)).elim hL hb) hc) (fun b o _ _ hc e n=>u.any e n hc) (fun b o hc e n=>u.free b o e n hc) (fun b o hc e=>u.there b o e hc) u.tups u.frzs u.tbls (fun m' hm=>by
  obtain⟨o',es',ep',ho',r'⟩:=hm
  rw[ho]at ho';cases ho'
  exact⟨_,es',ep',hL,r'⟩) hok hg
theorem Inv.turned{t':Nat}{it:Addr}(I:Inv X pins σ H s)(k:∀b o,b≠it→s.heap.get? b=some o→h'.get? b=some o)(hn:H it=none)(hL:it≠X.env.locals)
  (h1:it∈X.ex∨X.s₀.heap.objs.size≤it) (h2:∀x c,X.env.cells.lookup x=some c→c≠it) (h3:∀p∈X.pn++pins,p.1≠it):Inv X pins σ H { s with heap:=h',toks:=t' }:=by
 have nit:∀b u,H b=some u→b≠it:=fun b u e z=>by rw[z,hn]at e;cases e
 refine I.step (g':=s.gens) (d':=s.drawn) (ch:=[it]) (fun b hb=>?_) (fun b o _ _ hc e _=>k b o (fun z=>hc (by simp[z])) e) (fun b o _ _ hc e _=>⟨o.slots,k b o (fun z=>hc (by simp[z])) e⟩) (fun _ _ _ _ n=>n)
  (fun b o hc e=>⟨o,k b o (fun z=>hc (by simp[z])) e⟩) (fun _ _ e=>e) (fun _ _ _ e=>e) (fun b ps e=>⟨#[],by rw[e];simp⟩) (fun m hm=>?_) (fun b u e=>?_) I.bare
 ·have e:b=it:=by simpa using hb
  subst e
  exact⟨h1,hL,h2,h3⟩
 ·obtain⟨o,es,ep,ho,r⟩:=hm
  exact⟨o,es,ep,k _ o (Ne.symm hL) ho,r⟩
 ·refine(I.hok b u e).stay (fun c v hc q=>k c v ?_ q) (fun _ q=>q) fun _ _ q=>q
  rcases hc with z|z
  ·rw[z];exact nit b u e
  ·exact nit c _ z
theorem Inv.tok(I:Inv X pins σ H s)(t:Nat):Inv X pins σ H { s with toks:=t }:=I.un (h':=s.heap) (t':=t) Un.refl I.hok
theorem Inv.kept{t':Nat}(I:Inv X pins σ H s)(k:∀b u,s.heap.get? b=some u→h'.get? b=some u):Inv X pins σ H { s with heap:=h',toks:=t' }:=I.un (Un.kept k) (I.hok.kept k)
theorem Inv.laid{a:Addr}{o:HO}{t':Nat}(I:Inv X pins σ H s)(k:∀b u,s.heap.get? b=some u→h'.get? b=some u)(hp:s.heap.objs.size≤a)(new:Zap X.prog X.w (upd H a o) h' a o) :
  Inv X pins σ (upd H a o) { s with heap:=h',toks:=t' }:=I.un (Un.laid k hp (I.hok.fresh hp)) (I.hok.laid k hp new)
theorem Inv.write{x e:Addr}{o:HO}{t':Nat}(I:Inv X pins σ H s)(mu:Mut (H x))(he:e=x∨H e=some (.own x))(k:∀b u,b≠e→s.heap.get? b=some u→h'.get? b=some u)(heo:∃u,h'.get? e=some u)
  (new:Zap X.prog X.w (upd H x o) h' x o):Inv X pins σ (upd H x o) { s with heap:=h',toks:=t' }:=I.un (Un.write mu he k heo) (I.hok.write mu he k heo new)
theorem Inv.pins_of{pins':List (Addr×Obj)}(I:Inv X pins σ H s)(h:∀p∈pins',s.heap.get? p.1=some p.2∧H p.1=none∧p.1≠X.env.locals∧p.1 ∉ X.fs∧∀v,p.2.data≠.cell v):Inv X pins' σ H s :=
 ⟨I.ok,I.os,I.bare,I.base,I.loc,I.cell,I.free,I.freeC,fun p hp=>(Qe.mp hp).elim (fun z=>I.pin p (Qj _ z)) (h p),I.hok,I.len⟩
theorem Zip{N:List Str}(hN:N.Nodup){i j:Nat}{x:Str}(a:N[i]? = some x)(b:N[j]? = some x):i=j:=by
 obtain⟨h1,e1⟩:=Qd.mp a
 obtain⟨h2,e2⟩:=Qd.mp b
 exact(List.getElem_inj hN).mp (e1.trans e2.symm)
theorem Zgp{M:Model}{A:Around}{E:Value→Shared→Prop}{i:Nat}{x:Str}{v:V}{u:Value}{Q:Unit→Shared→Prop}(I:Inv X pins σ H s)(hN:X.N.Nodup)(hi:X.N[i]? = some x)(hx:Loc X.env.scope x)(r:ZD v u)
  (h:∀s',Inv X pins (σ.set i (some v)) H s'→(∃a,Heap.SameBut a s.heap s'.heap∧(a=X.env.locals∨X.env.cells.lookup x=some a))→Q () s') (hf:X.fn x=true∨X.env.scope.names.lookup x=some .local:=by first|exact .inl rfl|exact .inr rfl|assumption):wpAny M A (storeName X.env x u) Q E s:=by
 obtain⟨m,hn,hl⟩:=id I.loc
 have hcls:(X.env.scope.kind == .class||(X.env.scope.kind == .module&&X.env.locals != X.env.globals))=false:=by rw[I.ok.kind];rfl
 have hiσ:i<σ.length:=by rw[I.len];exact(Qd.mp hi).1
 have cne:=I.cne
 have tracked:∀ {a:Addr} {h':Heap},(∃o,s.heap.get? a=some o∧H a=none)→Heap.SameBut a s.heap h'→HOk X.prog X.w H h':=fun {a h'} ha hs b ob e=>by
  obtain⟨_,_,hfree⟩:=ha
  refine(I.hok b ob e).stay (fun c w' hc q=>(hs.2 c ?_).trans q) (fun _ q=>q) fun _ _ q=>q
  rintro rfl
  rcases hc with rfl|hc
  ·rw[hfree]at e;cases e
  ·rw[hfree]at hc;cases hc
 rcases hx with hk|hk
 ·refine wpAny_storeName_local hk hn (fun h' hn' hs=>?_) hcls
  obtain⟨oL,_,_,hoL,_⟩:=id hn
  refine h _ ⟨I.ok,I.os,I.bare,⟨fun b o e n hb hx=>?_,fun b o e n hb hx=>?_,I.base.free,fun b o e hx=>?_,I.base.tups,I.base.frzs,I.base.tbls⟩,⟨_,hn',fun j y v' e1 e2 e3=>?_⟩,fun y c e=>?_,I.free,I.freeC,fun p hp=>?_,tracked ⟨oL,hoL,I.free⟩ hs,by simpa using I.len⟩ ⟨_,hs,.inl rfl⟩
  ·exact(hs.2 b (QS (QF (Qy e) I.ok.above))).trans (I.base.keep b o e n hb hx)
  ·obtain⟨sl,e1⟩:=I.base.slot b o e n hb hx
   exact⟨sl,(hs.2 b (QS (QF (Qy e) I.ok.above))).trans e1⟩
  ·obtain⟨o',e1⟩:=I.base.there b o e hx
   exact⟨o',(hs.2 b (QS (QF (Qy e) I.ok.above))).trans e1⟩
  ·by_cases hj:j=i
   ·subst hj
    rw[hi]at e1;cases e1
    rw[List.getElem?_set_self hiσ]at e2
    cases e2
    exact⟨u,r,.inl ⟨hk,by simp⟩⟩
   ·rw[List.getElem?_set_ne (Ne.symm hj)]at e2
    obtain⟨u',r',q⟩:=hl j y v' e1 e2 e3
    refine⟨u',r',?_⟩
    rcases q with⟨k,e⟩|⟨k,c,e,z⟩
    ·refine .inl ⟨k,?_⟩
     have:y≠x:=fun e=>hj (Zip hN e1 (e ▸ hi))
     simp[this,e]
    ·exact .inr ⟨k,c,e,z.sameBut hs (cne y c e)⟩
  ·obtain⟨w',z⟩:=I.cell y c e
   exact⟨w',z.sameBut hs (cne y c e)⟩
  ·obtain⟨e,n,ne,nf,d⟩:=I.pin p hp
   exact⟨(hs.2 p.1 ne).trans e,n,ne,nf,d⟩
 ·have hfn:X.fn x=true:=by
   rcases hf with z|z
   ·exact z
   ·rw[z]at hk;cases hk
  obtain⟨c,hc⟩:=I.ok.has x (.inl hk)
  obtain⟨w',z⟩:=I.cell x c hc
  refine wpAny_storeName_cell I.ok.kind hk hc z (fun h' hc' hs=>?_)
  obtain⟨oc,hoc,hocd⟩:=id z
  refine h { s with heap:=h' } ⟨I.ok,I.os,I.bare,⟨fun b o e n hb hx=>?_,fun b o e n hb hx=>?_,I.base.free,fun b o e hx=>?_,I.base.tups,I.base.frzs,I.base.tbls⟩,⟨m,hn.sameBut hs (Ne.symm (cne x c hc)),fun j y v' e1 e2 e3=>?_⟩,fun y c' e=>?_,I.free,I.freeC,fun p hp=>?_,tracked ⟨oc,hoc,I.freeC x c hc⟩ hs,by simpa using I.len⟩ ⟨c,hs,.inr hc⟩
  ·exact(hs.2 b (QS (QF (Qy e) (I.ok.cab x c hfn hc)))).trans (I.base.keep b o e n hb hx)
  ·obtain⟨sl,e1⟩:=I.base.slot b o e n hb hx
   exact⟨sl,(hs.2 b (QS (QF (Qy e) (I.ok.cab x c hfn hc)))).trans e1⟩
  ·obtain⟨o',e1⟩:=I.base.there b o e hx
   exact⟨o',(hs.2 b (QS (QF (Qy e) (I.ok.cab x c hfn hc)))).trans e1⟩
  ·by_cases hj:j=i
   ·subst hj
    rw[hi]at e1;cases e1
    rw[List.getElem?_set_self hiσ]at e2
    cases e2
    exact⟨u,r,.inr ⟨.inl hk,c,hc,hc'⟩⟩
   ·rw[List.getElem?_set_ne (Ne.symm hj)]at e2
    obtain⟨u',r',q⟩:=hl j y v' e1 e2 e3
    refine⟨u',r',?_⟩
    rcases q with q|⟨k,c',e,z'⟩
    ·exact .inl q
    ·refine .inr ⟨k,c',e,z'.sameBut hs ?_⟩
     rintro rfl
     exact hj (Zip hN e1 (I.ok.inj _ _ _ e hc ▸ hi))
  ·by_cases hcc:c'=c
   ·subst hcc;exact⟨_,hc'⟩
   ·obtain⟨w2,z2⟩:=I.cell y c' e
    exact⟨w2,z2.sameBut hs hcc⟩
  ·obtain⟨e,n,ne,nf,d⟩:=I.pin p hp
   refine⟨(hs.2 p.1 ?_).trans e,n,ne,nf,d⟩
   intro q
   rw[q,hoc]at e
   have q':oc=p.2:=Qp e
   exact d w' (by rw[← q'];exact hocd)
theorem Zdv{M:Model}{A:Around}{E:Value→Shared→Prop}{i:Nat}{x:Str}{v:V}{u:Value}{Q:Unit→Shared→Prop}(I:Inv X pins σ H s)(hN:X.N.Nodup)(hi:X.N[i]? = some x)(hx:Loc X.env.scope x)(r:ZD v u)
  (h:∀s',Inv X pins (σ.set i (some v)) H s'→Q () s') (hf:X.fn x=true∨X.env.scope.names.lookup x=some .local:=by first|exact .inl rfl|exact .inr rfl|assumption):wpAny M A (storeName X.env x u) Q E s :=
 Zgp I hN hi hx r (fun s' I' _=>h s' I') hf
theorem Inv.call'{s':Shared}{ch:List Addr}(I:Inv X pins σ H s)(ho:s'.os=s.os)(u:Un (frs X.stack) ch H H' s.heap s'.heap)(hok:HOk X.prog X.w H' s'.heap)(hg:AllBare s'.gens)
  (hch:∀b∈ch,(b∈X.ex∨X.s₀.heap.objs.size≤b)∧b≠X.env.locals∧(∀x c,X.env.cells.lookup x=some c→c≠b)∧∀p∈X.pn++pins,p.1≠b):Inv X pins σ H' s':=by
 obtain⟨h',g',d',t',o'⟩:=s'
 have e:o'=s.os:=ho
 subst e
 exact I.call (g':=g') (t':=t') (d':=d') u hok hg hch
end
abbrev XK:=Value→Option Addr→Hp→Prop
abbrev St:=List (Option V)
abbrev VK:=V→Hp→Prop
abbrev TE:=St→Hp→VK→Prop
abbrev TT:=St→Hp→(Bool→Hp→Prop)→Prop
abbrev TA:=St→Hp→(List V→Hp→Prop)→Prop
structure ZeF where
 nx:St→Hp→Prop
 rt:VK
 bk:St→Hp→Prop:=fun _ _=>False
 ct:St→Hp→Prop:=fun _ _=>False
abbrev TS:=ZeF→St→Hp→Prop
def EP(X:Cx)(pins:List (Addr×Obj))(σ:St)(Q:VK)(u:Value)(s':Shared):Prop:=∃v H',Inv X pins σ H' s'∧ZD v u∧Q v H'
def TP(X:Cx)(pins:List (Addr×Obj))(σ:St)(Q:Bool→Hp→Prop)(b:Bool)(s':Shared):Prop:=∃H',Inv X pins σ H' s'∧Q b H'
def AP(X:Cx)(pins:List (Addr×Obj))(σ:St)(Q:List V→Hp→Prop)(us:List Value)(s':Shared):Prop:=∃vs H',Inv X pins σ H' s'∧Zy vs us∧Q vs H'
def SP(X:Cx)(pins:List (Addr×Obj))(D:ZeF)(f:Flow)(s':Shared):Prop :=
 match f with
 | .next=>∃σ' H',Inv X pins σ' H' s'∧D.nx σ' H'
 | .brk=>∃σ' H',Inv X pins σ' H' s'∧D.bk σ' H'
 | .cont=>∃σ' H',Inv X pins σ' H' s'∧D.ct σ' H'
 | .ret u=>∃v σ' H',Inv X pins σ' H' s'∧ZD v u∧D.rt v H'
def PE(X:Cx)(e:Expr)(t:TE):Prop :=
 ∀ (pins:List (Addr×Obj)) (s:Shared) (σ:St) (H:Hp) (Q:VK),Inv X pins σ H s→t σ H Q→wpAny (model X.prog X.w) X.A (eval e X.env) (EP X pins σ Q) X.xe s
def PT(X:Cx)(e:Expr)(t:TT):Prop :=
 ∀ (pins:List (Addr×Obj)) (s:Shared) (σ:St) (H:Hp) (Q:Bool→Hp→Prop),Inv X pins σ H s→t σ H Q→wpAny (model X.prog X.w) X.A (isTrue e X.env (eval e X.env)) (TP X pins σ Q) X.xe s
def PW(X:Cx)(e:Expr)(t:TT):Prop :=
 ∀ (whole:Sem Value) (pins:List (Addr×Obj)) (s:Shared) (σ:St) (H:Hp) (Q:Bool→Hp→Prop),Inv X pins σ H s→t σ H Q→wpAny (model X.prog X.w) X.A (isTrue e X.env whole) (TP X pins σ Q) X.xe s
theorem PW.pt{X:Cx}{e:Expr}{t:TT}(h:PW X e t):PT X e t:=h _
def PA(X:Cx)(es:List Expr)(t:TA):Prop :=
 ∀ (pos:Pos) (pins:List (Addr×Obj)) (s:Shared) (σ:St) (H:Hp) (Q:List V→Hp→Prop),Inv X pins σ H s→t σ H Q→wpAny (model X.prog X.w) X.A (spliced (backTo pos (starEach es X.env))) (AP X pins σ Q) X.xe s
def PS(X:Cx)(st:Stmt)(t:TS):Prop :=
 ∀ (pins:List (Addr×Obj)) (s:Shared) (σ:St) (H:Hp) (D:ZeF),Inv X pins σ H s→t D σ H→wpAny (model X.prog X.w) X.A (exec st X.env) (SP X pins D) X.xe s
def PSs(X:Cx)(st:List Stmt)(t:TS):Prop :=
 ∀ (pins:List (Addr×Obj)) (s:Shared) (σ:St) (H:Hp) (D:ZeF),Inv X pins σ H s→t D σ H→wpAny (model X.prog X.w) X.A (execs st X.env) (SP X pins D) X.xe s
theorem thn{α:Type}{t:Sem α}{Q Q':α→Shared→Prop}{M:Model}{A:Around}{E:Value→Shared→Prop}{s:Shared}(h:wpAny M A t Q E s)(hQ:∀a s,Q a s→Q' a s):wpAny M A t Q' E s:=wpAny_mono h hQ fun _ _ x=>x
section
variable {X:Cx}
def Zol(i:Nat):TE:=fun σ H Q=>∃v,σ[i]? = some (some v)∧Q v H
def tC(v:V):TE:=fun _ H Q=>Q v H
theorem ZiC{i:Nat}{x:Str}{pos:Pos}(hN:X.N[i]? = some x)(hv:Vis X.env.scope x)(hd:(x == ("__debug__" : Str))=false:=by decide)(hcd:(x == ("__classdict__" : Str))=false:=by decide):PE X (.Name x pos) (Zol i):=by
 intro pins s σ H Q I h
 obtain⟨v,e,h⟩:=h
 obtain⟨m,hn,hl⟩:=I.loc
 obtain⟨u,r,l⟩:=hl i x v hN e hv
 have fin:EP X pins σ Q u s:=⟨v,H,I,r,h⟩
 rcases l with⟨hk,hm⟩|⟨hk,c,hc,hcell⟩
 ·exact wpAny_Name (wpAny_loadName_local I.ok.kind hk hn hm fin) hd
 ·rcases hk with hk|hk
  ·exact wpAny_Name (wpAny_loadName_cell I.ok.kind hk hc hcell fin) hd
  ·exact wpAny_Name (wpAny_loadName_free I.ok.kind hk hc hcell fin hcd) hd
theorem Zh{i j pos}:PE X (.Constant (.int i) j pos) (tC (.int i)):=fun _ _ _ H _ I h=>wpAny_Constant_int ⟨.int i,H,I.tok _,⟨_,rfl⟩,h⟩
theorem ZfU{b j pos}:PE X (.Constant (.bool b) j pos) (tC (.bl b)):=fun _ _ _ H _ I h=>Constant_bool ⟨.bl b,H,I,rfl,h⟩
theorem ZaA{j pos}:PE X (.Constant .none j pos) (tC .non):=fun _ _ _ H _ I h=>Constant_none ⟨.non,H,I,rfl,h⟩
theorem ZaS{x j pos}:PE X (.Constant (.str x) j pos) (tC (.str x)):=fun _ _ _ H _ I h=>Calls.Constant_str ⟨.str x,H,I.tok _,⟨_,rfl⟩,h⟩
def Gl(X:Cx)(x:Str):Prop:=X.env.kindOf x=some .globalImplicit
theorem Zjg{E:Value→Shared→Prop}{pins:List (Addr×Obj)}{s:Shared}{σ:St}{H:Hp}{x:Str}{u:Value}{pos:Pos}{Q:Value→Shared→Prop}(I:Inv X pins σ H s)(hg:Gl X x)(hm:X.mg x=some u)(h:Q u s)
  (hd:(x == ("__debug__" : Str))=false:=by decide):wpAny (model X.prog X.w) X.A (eval (.Name x pos) X.env) Q E s :=
 Calls.Name_function_global I.ok.kind hg (Calls.loadGlobal_global (by rw[I.ok.glob];exact I.mod.glob.keeps I.bk) hm h) hd
theorem ZeE{E:Value→Shared→Prop}{pins:List (Addr×Obj)}{s:Shared}{σ:St}{H:Hp}{x:Str}{u:Value}{pos:Pos}{Q:Value→Shared→Prop}(I:Inv X pins σ H s)(hg:Gl X x)(hm:X.mg x=none)(hv:bootBuiltins x=some u)(h:Q u s)
  (hn:x ≠ "__name__":=by decide) (hd:(x == ("__debug__" : Str))=false:=by decide):wpAny (model X.prog X.w) X.A (eval (.Name x pos) X.env) Q E s:=by
 obtain⟨mb,h1,h2⟩:=I.mod.blt
 exact Calls.Name_function_global I.ok.kind hg (Calls.loadGlobal_builtin (by rw[I.ok.glob];exact I.mod.glob.keeps I.bk) hm (by rw[I.ok.blt];exact h1.keeps I.bk) ((h2 x hn).trans hv) h) hd
theorem Zn4{x:Str}{v:V}{u:Value}{pos:Pos}(hg:Gl X x)(hm:X.mg x=none)(hv:bootBuiltins x=some u)(r:ZD v u)(hn:x ≠ "__name__":=by decide)(hd:(x == ("__debug__" : Str))=false:=by decide):PE X (.Name x pos) (tC v) :=
 fun _ _ _ H _ I h=>ZeE I hg hm hv ⟨v,H,I,r,h⟩ hn hd
def t2I(ta tb:TE)(k:Int→Int→Hp→Prop):St→Hp→Prop:=fun σ H=>ta σ H fun x H1=>tb σ H1 fun y H2=>∃i j,x=.int i∧y=.int j∧k i j H2
def tAdd(ta tb:TE):TE:=fun σ H Q=>t2I ta tb (fun i j H2=>Q (.int (i+j)) H2) σ H
def tSub(ta tb:TE):TE:=fun σ H Q=>t2I ta tb (fun i j H2=>Q (.int (i-j)) H2) σ H
def tMul(ta tb:TE):TE:=fun σ H Q=>t2I ta tb (fun i j H2=>(-(2 ^ 64)<i∧i<2 ^ 64)∧Q (.int (i*j)) H2) σ H
variable {a b:Expr} {ta tb:TE} {pos:Pos}
def PC(X:Cx)(op:CmpOp)(a b:Expr)(t:TE):Prop :=
 ∀ (pins:List (Addr×Obj)) (s:Shared) (σ:St) (H:Hp) (Q:VK),Inv X pins σ H s→t σ H Q →
  wpAny (model X.prog X.w) X.A (eval a X.env) (fun v s₁=>wpAny (model X.prog X.w) X.A (eval b X.env) (fun u s₂=>wpAny (model X.prog X.w) X.A (compareOp op v u) (EP X pins σ Q) X.xe s₂) X.xe s₁) X.xe s
def ZkK(p:Int→Int→Bool)(ta tb:TE):TE:=fun σ H Q=>t2I ta tb (fun i j H2=>Q (.bl (p i j)) H2) σ H
abbrev tLt:TE→TE→TE:=ZkK fun i j=>decide (i<j)
abbrev tLe:TE→TE→TE:=ZkK fun i j=>decide (i≤j)
abbrev tGt:TE→TE→TE:=ZkK fun i j=>decide (j<i)
abbrev tGe:TE→TE→TE:=ZkK fun i j=>decide (j≤i)
abbrev tEqI:TE→TE→TE:=ZkK fun i j=>decide (i=j)
abbrev tNeI:TE→TE→TE:=ZkK fun i j=>!decide (i=j)
def tIsN(ta:TE):TE:=fun σ H Q=>ta σ H fun x H1=>Q (.bl (decide (x=.non))) H1
def tNotN(ta:TE):TE:=fun σ H Q=>ta σ H fun x H1=>Q (.bl (!decide (x=.non))) H1
def tB(t:TE):TT:=fun σ H Q=>t σ H fun x H1=>∃c,x=.bl c∧Q c H1
theorem Zjb{e:Expr}{t:TE}(h:PE X e t)(he:∀whole,isTrue e X.env whole=(do let v ← whole;standAt e.pos;holding [v] (truthy v)):=by intro _;rfl):PT X e (tB t):=by
 intro pins s σ H Q I hw
 refine isTrue_plain (thn (h pins s σ H _ I hw) ?_) (he _)
 rintro v s1 ⟨x,H1,I1,r1,q1⟩
 obtain⟨d,rfl,q⟩:=q1
 cases r1
 exact wpAny_truthy_bool ⟨H1,I1,q⟩
variable {tA tB':TT} {rest:List Expr}
def ZrC(t u:TT):TT:=fun σ H Q=>t σ H fun c H1=>if c=true then u σ H1 Q else Q false H1
def tOr(t u:TT):TT:=fun σ H Q=>t σ H fun c H1=>if c=true then Q true H1 else u σ H1 Q
def ZrE(t:TT):TT:=fun σ H Q=>t σ H fun c H1=>Q (!c) H1
theorem ZdE(ha:PT X a tA):PW X (.BoolOp .And [a] pos) tA:=by
 intro wh pins s σ H Q I h
 refine isTrue_and (thn (ha pins s σ H Q I h) fun c s1 e=>?_)
 cases c with
 | true=>exact isTrue_and_nil e
 | false=>exact e
theorem ZiQ(ha:PT X a tA):PW X (.BoolOp .Or [a] pos) tA:=by
 intro wh pins s σ H Q I h
 refine isTrue_or (thn (ha pins s σ H Q I h) fun c s1 e=>?_)
 cases c with
 | false=>exact isTrue_or_nil e
 | true=>exact e
theorem Zdo(ha:PT X a tA)(hb:PW X (.BoolOp .And (b::rest) pos) tB'):PW X (.BoolOp .And (a::b::rest) pos) (ZrC tA tB'):=by
 intro wh pins s σ H Q I h
 refine isTrue_and (thn (ha pins s σ H _ I h) ?_)
 rintro c s1 ⟨H1,I1,q1⟩
 cases c with
 | true=>exact hb wh pins s1 σ H1 Q I1 q1
 | false=>exact⟨H1,I1,q1⟩
theorem ZlO(ha:PT X a tA)(hb:PW X (.BoolOp .Or (b::rest) pos) tB'):PW X (.BoolOp .Or (a::b::rest) pos) (tOr tA tB'):=by
 intro wh pins s σ H Q I h
 refine isTrue_or (thn (ha pins s σ H _ I h) ?_)
 rintro c s1 ⟨H1,I1,q1⟩
 cases c with
 | true=>exact⟨H1,I1,q1⟩
 | false=>exact hb wh pins s1 σ H1 Q I1 q1
theorem Zln(ha:PT X a tA):PT X (.UnaryOp .Not a pos) (ZrE tA):=by
 intro pins s σ H Q I h
 exact isTrue_not (ha pins s σ H (fun c H1=>Q (!c) H1) I h)
def Zq0(ta tb:TE):TE:=fun σ H Q=>ta σ H fun x H1=>∃c,x=.bl c∧if c=true then tb σ H1 Q else Q (.bl false) H1
def tOrV(ta tb:TE):TE:=fun σ H Q=>ta σ H fun x H1=>∃c,x=.bl c∧if c=true then Q (.bl true) H1 else tb σ H1 Q
def Zqr(ta:TE):TE:=fun σ H Q=>ta σ H fun x H1=>∃c,x=.bl c∧Q (.bl (!c)) H1
theorem ZiH{op}{t:TE}(h:PE X a t):PE X (.BoolOp op [a] pos) t:=fun pins s σ H Q I hw=>BoolOp_one (h pins s σ H Q I hw)
theorem Ziy(ha:PE X a ta)(hb:PE X (.BoolOp .And (b::rest) pos) tb):PE X (.BoolOp .And (a::b::rest) pos) (Zq0 ta tb):=by
 intro pins s σ H Q I h
 refine BoolOp_and (thn (ha pins s σ H _ I h) ?_)
 rintro v s1 ⟨x,H1,I1,r1,q1⟩
 obtain⟨c,rfl,q1⟩:=q1
 cases r1
 refine wpAny_truthy_bool ?_
 cases c with
 | true=>exact hb pins s1 σ H1 Q I1 q1
 | false=>exact⟨.bl false,H1,I1,rfl,q1⟩
theorem Zll(ha:PE X a ta):PE X (.UnaryOp .Not a pos) (Zqr ta):=by
 intro pins s σ H Q I h
 refine UnaryOp_ (thn (ha pins s σ H _ I h) ?_)
 rintro v s1 ⟨x,H1,I1,r1,q1⟩
 obtain⟨c,rfl,q1⟩:=q1
 cases r1
 exact not_of (wpAny_truthy_bool ⟨.bl (!c),H1,I1,rfl,q1⟩)
def tIf(t:TT)(ta tb:TE):TE:=fun σ H Q=>t σ H fun c H1=>if c=true then ta σ H1 Q else tb σ H1 Q
theorem Zbb{c:Expr}(hc:PT X c tA)(ha:PE X a ta)(hb:PE X b tb):PE X (.IfExp c a b pos) (tIf tA ta tb):=by
 intro pins s σ H Q I h
 refine wpAny_IfExp (thn (hc pins s σ H _ I h) ?_)
 rintro d s1 ⟨H1,I1,q1⟩
 cases d with
 | true=>exact ha pins s1 σ H1 Q I1 q1
 | false=>exact hb pins s1 σ H1 Q I1 q1
end
def SqL(K:PySem.W.Frag)(H:Hp)(a:Addr)(xs:List V):Prop :=
 Rd H a (.lst xs) ∨
  ∃ (o:Obj) (its:Array Value) (n:Nat),K.lookup a=some o∧o.cls=.type "list"∧o.dict=none∧o.data=.seq its n∧its.size≤sizeLine∧Zy xs its.toList
def SqT(K:PySem.W.Frag)(H:Hp)(a:Addr)(xs:List V):Prop :=
 Rd H a (.tup xs) ∨
  ∃ (o:Obj) (its:Array Value) (n:Nat),K.lookup a=some o∧o.cls=.type "tuple"∧o.data=.seq its n∧its.size≤sizeLine∧Zy xs its.toList
def ZrN:Value→Option V
 | .none=>some .non
 | .bool b=>some (.bl b)
 | .int i _=>some (.int i)
 | .str x _=>some (.str x)
 | .bytes b _=>some (.byt b)
 | .float b _=>some (.flt b)
 | .ref a=>some (.ref a)
 | .type n=>some (.ty n)
 | _=>none
theorem ZD.abs{x:V}{u:Value}(r:ZD x u):ZrN u=some x:=by
 cases x with
 | non=>cases r;rfl
 | bl _=>cases r;rfl
 | int _=>obtain⟨t,rfl⟩:=r;rfl
 | str _=>obtain⟨t,rfl⟩:=r;rfl
 | byt _=>obtain⟨t,rfl⟩:=r;rfl
 | flt _=>obtain⟨t,rfl⟩:=r;rfl
 | ref _=>cases r;rfl
 | ty _=>cases r;rfl
theorem ZD.inj{x y:V}{u:Value}(r:ZD x u)(q:ZD y u):x=y:=Qp (r.abs.symm.trans q.abs)
theorem Zy.inj:∀ {xs ys:List V} {us:List Value},Zy xs us→Zy ys us→xs=ys
 | _,_,_,.nil,.nil=>rfl
 | _,_,_,.cons r t,.cons r' t'=>by rw[r.inj r',Zy.inj t t']
section
variable {X:Cx} {pins:List (Addr×Obj)} {σ:St} {H:Hp} {s:Shared} {a:Addr} {xs ys:List V}
theorem SqL.of{K:PySem.W.Frag}(h:H a=some (.lst xs)):SqL K H a xs:=.inl (.inl h)
theorem SqT.of{K:PySem.W.Frag}(h:H a=some (.tup xs)):SqT K H a xs:=.inl (.inl h)
theorem Inv.list(I:Inv X pins σ H s)(h:SqL X.K H a xs):∃its:List Value,Zy xs its∧PlainL s.heap a its.toArray∧xs.length≤sizeLine:=by
 rcases h with h|⟨o,its,n,hk,hc,hd,hs,hz,r⟩
 ·obtain⟨z,its,n,r,e⟩:=h.ok I.hok
  exact⟨its,r,⟨_,n,e,rfl,rfl,rfl⟩,z⟩
 ·refine⟨its.toList,r,⟨o,n,I.kIn a o hk,hc,hd,by simpa using hs⟩,?_⟩
  have e:=r.length
  simp only[Array.length_toList]at e
  omega
theorem Inv.tuple(I:Inv X pins σ H s)(h:SqT X.K H a xs):∃its:List Value,Zy xs its∧IsTup s.heap a its.toArray∧xs.length≤sizeLine:=by
 rcases h with h|⟨o,its,n,hk,hc,hs,hz,r⟩
 ·obtain⟨z,its,r,p⟩:=h.ok I.hok
  exact⟨its,r,p,z⟩
 ·refine⟨its.toList,r,⟨o,I.kIn a o hk,hc,n,by simpa using hs⟩,?_⟩
  have e:=r.length
  simp only[Array.length_toList]at e
  omega
theorem Inv.list_inj(I:Inv X pins σ H s)(h:SqL X.K H a xs)(h':SqL X.K H a ys):xs=ys:=by
 obtain⟨its,r,⟨o,n,e,_,_,d⟩,_⟩:=I.list h
 obtain⟨its',r',⟨o',n',e',_,_,d'⟩,_⟩:=I.list h'
 rw[e]at e';cases e'
 rw[d]at d'
 injection d' with d1 _
 have:its=its':=by simpa using congrArg Array.toList d1
 subst this
 exact r.inj r'
theorem Inv.tuple_inj(I:Inv X pins σ H s)(h:SqT X.K H a xs)(h':SqT X.K H a ys):xs=ys:=by
 obtain⟨its,r,⟨o,e,_,n,d⟩,_⟩:=I.tuple h
 obtain⟨its',r',⟨o',e',_,n',d'⟩,_⟩:=I.tuple h'
 rw[e]at e';cases e'
 rw[d]at d'
 injection d' with d1 _
 have:its=its':=by simpa using congrArg Array.toList d1
 subst this
 exact r.inj r'
end
abbrev Cx.wish(X:Cx)(E:Value→Shared→Prop):Cx:={ X with xe:=E }
abbrev Cx.nox(X:Cx):Cx:=X.wish fun _ _=>False
theorem Cx.Ok.wish{X:Cx}(ok:X.Ok)(E:Value→Shared→Prop):(X.wish E).Ok :=
 ⟨ok.mod,ok.kind,ok.glob,ok.blt,ok.above,ok.inj,ok.has,ok.cab,ok.hd,ok.frames,ok.stk,ok.exf,ok.bs,ok.bsz,ok.noex,ok.exfs,ok.funs,ok.frf⟩
theorem Cx.Ok.unwish{X:Cx}{E:Value→Shared→Prop}(ok:(X.wish E).Ok):X.Ok :=
 ⟨ok.mod,ok.kind,ok.glob,ok.blt,ok.above,ok.inj,ok.has,ok.cab,ok.hd,ok.frames,ok.stk,ok.exf,ok.bs,ok.bsz,ok.noex,ok.exfs,ok.funs,ok.frf⟩
section
variable {X:Cx} {pins:List (Addr×Obj)} {σ:St} {H:Hp} {s:Shared} {E:Value→Shared→Prop}
theorem Inv.wish(I:Inv X pins σ H s)(E:Value→Shared→Prop):Inv (X.wish E) pins σ H s:=⟨I.ok.wish E,I.os,I.bare,I.base,I.loc,I.cell,I.free,I.freeC,I.pin,I.hok,I.len⟩
theorem Inv.unwish(I:Inv (X.wish E) pins σ H s):Inv X pins σ H s:=⟨I.ok.unwish,I.os,I.bare,I.base,I.loc,I.cell,I.free,I.freeC,I.pin,I.hok,I.len⟩
theorem SP.unwish{D:ZeF}{f:Flow}{s':Shared}(h:SP (X.wish E) pins D f s'):SP X pins D f s':=by
 cases f with
 | next=>obtain⟨σ',H',I,q⟩:=h;exact⟨σ',H',I.unwish,q⟩
 | brk=>obtain⟨σ',H',I,q⟩:=h;exact⟨σ',H',I.unwish,q⟩
 | cont=>obtain⟨σ',H',I,q⟩:=h;exact⟨σ',H',I.unwish,q⟩
 | ret u=>obtain⟨v,σ',H',I,r,q⟩:=h;exact⟨v,σ',H',I.unwish,r,q⟩
theorem PSs.nox{st:List Stmt}{t:TS}(h:PSs X.nox st t):PSs X st t:=fun pins s σ H D I hw =>
 wpAny_mono (h pins s σ H D (I.wish _) hw) (fun _ _ q=>q.unwish) fun _ _ z=>False.elim z
end
section
variable {X:Cx} {st:Stmt} {rest:List Stmt} {t u:TS} {e:Expr} {te:TE} {pos:Pos}
def ZqZ:TS:=fun D σ H=>D.nx σ H
def Zrg(t u:TS):TS:=fun D σ H=>t { D with nx:=u D } σ H
theorem ZF:PSs X [] ZqZ:=fun _ _ σ H _ I h=>wpAny_execs_nil ⟨σ,H,I,h⟩
theorem Zf(h1:PS X st t)(h2:PSs X rest u):PSs X (st::rest) (Zrg t u):=by
 intro pins s σ H D I h
 refine wpAny_execs_cons (thn (h1 pins s σ H { D with nx:=u D } I h) fun f s1 q=>?_)
 cases f with
 | next =>
  obtain⟨σ',H',I',q⟩:=q
  exact h2 pins s1 σ' H' D I' q
 | ret v=>exact q
 | brk=>exact q
 | cont=>exact q
theorem Zj(h1:PS X st t):PSs X [st] t:=by
 intro pins s σ H D I h
 refine wpAny_execs_cons (thn (h1 pins s σ H D I h) fun f s1 q=>?_)
 cases f with
 | next=>exact wpAny_execs_nil q
 | ret v=>exact q
 | brk=>exact q
 | cont=>exact q
def tBreak:TS:=fun D σ H=>D.bk σ H
def tCont:TS:=fun D σ H=>D.ct σ H
theorem Inv.quiet{pins:List (Addr×Obj)}{σ:St}{H:Hp}{s:Shared}(I:Inv X pins σ H s):interactive X.env=false:=by simp[interactive,I.ok.kind]
def ZqH(te:TE):TS:=fun D σ H=>te σ H fun _ H1=>D.nx σ H1
theorem ZaU(he:PE X e te)(hs:swapsWith e none pos.line X.env=pure false:=by rfl):PS X (.Expr e pos) (ZqH te):=by
 intro pins s σ H D I h
 exact wpAny_Expr_any (thn (he pins s σ H _ I h) fun v s1 ⟨x,H1,I1,r1,q1⟩=>⟨σ,H1,I1,q1⟩) I.quiet hs
def Zrp(te:TE):TS:=fun D σ H=>te σ H D.rt
theorem Zp(he:PE X e te):PS X (.Return (some e) pos) (Zrp te):=by
 intro pins s σ H D I h
 exact wpAny_Return_some (thn (he pins s σ H _ I h) fun v s1 ⟨x,H1,I1,r1,q1⟩=>⟨x,σ,H1,I1,r1,q1⟩)
def tRetN:TS:=fun D _ H=>D.rt .non H
def ZrT(c:TT)(t u:TS):TS:=fun D σ H=>c σ H fun b H1=>if b=true then t D σ H1 else u D σ H1
theorem Zae{c:Expr}{a b:List Stmt}{tc:TT}(hc:PT X c tc)(ha:PSs X a t)(hb:PSs X b u):PS X (.If c a b pos) (ZrT tc t u):=by
 intro pins s σ H D I h
 refine wpAny_If (thn (hc pins s σ H _ I h) ?_)
 rintro d s1 ⟨H1,I1,q1⟩
 cases d with
 | true=>exact ha pins s1 σ H1 D I1 q1
 | false=>exact hb pins s1 σ H1 D I1 q1
def tNever:TS:=fun _ _ _=>False
end
abbrev TG:=V→St→Hp→(St→Hp→Prop)→Prop
abbrev TGs:=List V→St→Hp→(St→Hp→Prop)→Prop
def PG(X:Cx)(target:Expr)(t:TG):Prop :=
 ∀ (pins:List (Addr×Obj)) (s:Shared) (σ:St) (H:Hp) (v:V) (u:Value) (Q:St→Hp→Prop),Inv X pins σ H s→ZD v u→t v σ H Q →
  wpAny (model X.prog X.w) X.A (assign target X.env u) (fun _ s'=>∃σ' H',Inv X pins σ' H' s'∧Q σ' H') X.xe s
def PGs(X:Cx)(ts:List Expr)(t:TGs):Prop :=
 ∀ (pins:List (Addr×Obj)) (s:Shared) (σ:St) (H:Hp) (vs:List V) (us:List Value) (Q:St→Hp→Prop),Inv X pins σ H s→Zy vs us→t vs σ H Q →
  wpAny (model X.prog X.w) X.A (assignInOrder ((assignEach ts X.env).map (·.2)) us) (fun _ s'=>∃σ' H',Inv X pins σ' H' s'∧Q σ' H') X.xe s
abbrev ZkP:=V→V→V→Hp→(Hp→Prop)→Prop
def ZmT(X:Cx)(t:ZkP):Prop :=
 ∀ (pins:List (Addr×Obj)) (s:Shared) (σ:St) (H:Hp) (o i v:V) (ov iv u:Value) (Q:Hp→Prop),Inv X pins σ H s→ZD o ov→ZD i iv→ZD v u→t o i v H Q →
  wpAny (model X.prog X.w) X.A (setItem ov iv u) (fun _ s'=>∃H',Inv X pins σ H' s'∧Q H') X.xe s
abbrev TIp:=V→V→Hp→VK→Prop
def PIp(X:Cx)(op:Operator)(t:TIp):Prop :=
 ∀ (pins:List (Addr×Obj)) (s:Shared) (σ:St) (H:Hp) (x y:V) (v u:Value) (Q:VK),Inv X pins σ H s→ZD x v→ZD y u→t x y H Q →
  wpAny (model X.prog X.w) X.A (inplaceOp op v u) (EP X pins σ Q) X.xe s
section
variable {X:Cx} {pos:Pos}
def ZjL(i:Nat):TG:=fun v σ H Q=>Q (σ.set i (some v)) H
theorem Zx{i:Nat}{x:Str}(hN:X.N.Nodup)(hi:X.N[i]? = some x)(hx:Loc X.env.scope x)(hf:X.fn x=true∨X.env.scope.names.lookup x=some .local:=by first|exact .inl rfl|exact .inr rfl|assumption):PG X (.Name x pos) (ZjL i):=by
 intro pins s σ H v u Q I r h
 exact wpAny_assign_Name (Zdv I hN hi hx r (fun s' I'=>⟨_,H,I',h⟩) hf)
def Zrr:TGs:=fun vs σ H Q=>vs=[]∧Q σ H
def ZqS(t:TG)(u:TGs):TGs:=fun vs σ H Q=>∃v r,vs=v::r∧t v σ H fun σ' H'=>u r σ' H' Q
theorem ZaL:PGs X [] Zrr:=by
 intro pins s σ H vs us Q I r h
 obtain⟨e,h⟩:=h
 subst e
 cases r
 exact assignInOrder_nil ⟨σ,H,I,h⟩
theorem Zv{e:Expr}{es:List Expr}{t:TG}{u:TGs}(h1:PG X e t)(h2:PGs X es u)
  (hs:(assignEach (e::es) X.env).map (·.2)=assign e X.env::(assignEach es X.env).map (·.2):=by rfl):PGs X (e::es) (ZqS t u):=by
 intro pins s σ H vs us Q I r h
 obtain⟨v,vr,e1,h⟩:=h
 subst e1
 cases r with
 | cons r rr =>
  rw[hs]
  refine assignInOrder_cons (thn (h1 pins s σ H _ _ _ I r h) ?_)
  rintro _ s1 ⟨σ1,H1,I1,q1⟩
  exact h2 pins s1 σ1 H1 _ _ Q I1 rr q1
def Zq1(K:PySem.W.Frag)(n:Nat)(t:TGs):TG:=fun v σ H Q=>∃a xs,v=.ref a∧SqT K H a xs∧xs.length=n∧t xs σ H Q
theorem ZpI{es:List Expr}{k:Nat}{t:TGs}{n:Nat}(hc:X.calm=true)(h:PGs X es t)
  (hn:(assignEach es X.env).length=n:=by rfl) (hst:(assignEach es X.env).findIdx? (·.1)=none:=by rfl):PG X (.Tuple es k pos) (Zq1 X.K n t):=by
 intro pins s σ H v u Q I r hw
 obtain⟨a,xs,e1,hq,hl,hw⟩:=hw
 subst e1
 cases r
 obtain⟨its,rv,ht,hz⟩:=I.tuple hq
 refine assign_Tuple_tuple (I.ok.hd hc) ht (by simp[hn,← hl,rv.length]) hst fun h' hx=>?_
 have I1:Inv X pins σ H { s with heap:=h' }:=I.kept (t':=s.toks) fun b o e=>hx b o (QS (Qy e)) e
 exact h pins _ σ H xs _ Q I1 (by simpa using rv) hw
def ZrK(to ti:TE)(t:ZkP):TG:=fun v σ H Q=>to σ H fun o H1=>ti σ H1 fun i H2=>t o i v H2 fun H3=>Q σ H3
theorem Zdl{o i:Expr}{to ti:TE}{t:ZkP}(ho:PE X o to)(hi:PE X i ti)(hs:ZmT X t)
  (ha:∀v,assign (.Subscript o i pos) X.env v=(do
   let ov ← holding [v] (eval o X.env)
   let iv ← holding [v,ov] (eval i X.env)
   standAt pos
   holding [v,ov,iv] (setItem ov iv v)
   release [v,ov,iv] []):=by intro _;rfl):PG X (.Subscript o i pos) (ZrK to ti t):=by
 intro pins s σ H v u Q I r h
 rw[ha]
 refine wpAny_bind (wpAny_holding (thn (ho pins s σ H _ I h) ?_))
 rintro ov s1 ⟨x,H1,I1,r1,q1⟩
 refine wpAny_bind (wpAny_holding (thn (hi pins s1 σ H1 _ I1 q1) ?_))
 rintro iv s2 ⟨y,H2,I2,r2,q2⟩
 refine wpAny_bind (wpAny_standAt (wpAny_bind (wpAny_holding (thn (hs pins s2 σ H2 x y v ov iv u _ I2 r1 r2 r q2) ?_))))
 rintro _ s3 ⟨H3,I3,q3⟩
 exact wpAny_release ⟨σ,H3,I3,q3⟩
def ZoU(te:TE)(g:TG):TS:=fun D σ H=>te σ H fun x H1=>g x σ H1 D.nx
theorem ZaT{tg e:Expr}{te:TE}{g:TG}(he:PE X e te)(hg:PG X tg g)(hs:swapsWithSole [tg] e pos.line X.env=pure false:=by rfl)(hw:swappedStores [tg] e X.env=pure none:=by rfl)
  (h1:(assignEach [tg] X.env).map (·.2)=[assign tg X.env]:=by rfl):PS X (.Assign [tg] e pos) (ZoU te g):=by
 intro pins s σ H D I h
 refine wpAny_Assign_stores (thn (he pins s σ H _ I h) ?_) hs hw
 rintro v s1 ⟨x,H1,I1,r1,q1⟩
 rw[h1]
 exact thn (hg pins s1 σ H1 x v _ I1 r1 q1) fun _ s2 q=>q
theorem Zw{i:Nat}{x:Str}{e:Expr}{te:TE}{pos':Pos}(hN:X.N.Nodup)(hi:X.N[i]? = some x)(hx:Loc X.env.scope x)(he:PE X e te)(hs:swapsWith e (some (.Name x pos')) pos.line X.env=pure false:=by rfl)(hf:X.fn x=true∨X.env.scope.names.lookup x=some .local:=by first|exact .inl rfl|exact .inr rfl|assumption) :
  PS X (.Assign [.Name x pos'] e pos) (ZoU te (ZjL i)):=by
 intro pins s σ H D I h
 refine wpAny_Assign_Name (thn (he pins s σ H _ I h) ?_) hs
 rintro v s1 ⟨y,H1,I1,r1,q1⟩
 exact Zdv I1 hN hi hx r1 (fun s2 I2=>⟨_,H1,I2,q1⟩) hf
def ZrF(i j:Nat)(ta:TA):TS:=fun D σ H=>ta σ H fun vs H1=>∃v w,vs=[v,w]∧D.nx ((σ.set i (some v)).set j (some w)) H1
theorem ZpD{i j:Nat}{x y:Str}{a b:Expr}{ta:TA}{px py pt:Pos}{kt k2 pt2}(hc:X.calm=true)(hN:X.N.Nodup)(hi:X.N[i]? = some x)(hj:X.N[j]? = some y)(hij:i≠j)
  (hx:X.env.scope.names.lookup x=some .local) (hy:X.env.scope.names.lookup y=some .local) (ha:PA X [a,b] ta)
  (hw:swappedStores [.Tuple [.Name x px,.Name y py] kt pt] (.Tuple [a,b] k2 pt2) X.env=pure (some [x,y]))
  (hs:swapsWithSole [.Tuple [.Name x px,.Name y py] kt pt] (.Tuple [a,b] k2 pt2) pos.line X.env=pure false:=by rfl) :
  PS X (.Assign [.Tuple [.Name x px,.Name y py] kt pt] (.Tuple [a,b] k2 pt2) pos) (ZrF i j ta):=by
 intro pins s σ H D I h
 rw[exec_Assign_arm]
 refine wpAny_bind (wpAny_standAt ?_)
 rw[hs]
 refine wpAny_bind (wpAny_pure ?_)
 rw[if_neg (by decide)]
 refine wpAny_bind (Tuple_ (thn (ha _ pins s σ H _ I h) ?_))
 rintro us s1 ⟨vs,H1,I1,r1,q1⟩
 obtain⟨v,w,e1,q1⟩:=q1
 subst e1
 obtain⟨u1,u2,rfl,rv,rw'⟩:∃u1 u2,us=[u1,u2]∧ZD v u1∧ZD w u2:=by
  cases r1 with
  | cons p q =>
   cases q with
   | cons p' q' =>
    cases q'
    exact⟨_,_,rfl,p,p'⟩
 refine wpAny_newObj_type ?_ (by show 2≤sizeLine;decide)
 have I2:Inv X pins σ H1 { s1 with heap:=s1.heap.push { cls:=.type "tuple",data:=.seq [u1,u2].toArray } }:=I1.kept (t':=s1.toks) fun b o e=>Qs _ e
 rw[hw]
 refine wpAny_bind (wpAny_pure ?_)
 show wpAny (model X.prog X.w) X.A (do rule "assign.swapped-stores";let items ← unpackItems (.ref s1.heap.objs.size) 2 none;assignInOrder [fun v=>bindName X.env y v,fun v=>bindName X.env x v] items.reverse;pure Flow.next) _ _ _
 refine wpAny_bind (wpAny_rule (wpAny_bind (unpackItems_tuple (items:=#[u1,u2]) (I.ok.hd hc) (IsTup.new s1.heap _) fun h' hx'=>?_)))
 have I3:=I2.kept (h':=h') (t':=s1.toks) fun b o e=>hx' b o (QS (Qy e)) e
 show wpAny _ _ (assignInOrder [fun v=>bindName X.env y v,fun v=>bindName X.env x v] [u2,u1] >>= fun _=>pure Flow.next) _ _ _
 refine wpAny_bind (assignInOrder_cons (wpAny_bindName (Zdv I3 hN hj (.inl hy) rw' (fun s2 I4=>?_) (.inr hy))))
 refine assignInOrder_cons (wpAny_bindName (Zdv I4 hN hi (.inl hx) rv (fun s3 I5=>assignInOrder_nil (wpAny_pure ?_)) (.inr hx)))
 rw[List.set_comm _ _ (Ne.symm hij)]at I5
 exact⟨_,H1,I5,q1⟩
def ZrI(i:Nat)(te:TE)(ti:TIp):TS:=fun D σ H=>∃x,σ[i]? = some (some x)∧te σ H fun y H1=>ti x y H1 fun z H2=>D.nx (σ.set i (some z)) H2
theorem Zlj{i:Nat}{x:Str}{e:Expr}{te:TE}{op:Operator}{ti:TIp}{pos':Pos}(hN:X.N.Nodup)(hi:X.N[i]? = some x)(hx:Loc X.env.scope x)(he:PE X e te)(ho:PIp X op ti)(hf:X.fn x=true∨X.env.scope.names.lookup x=some .local:=by first|exact .inl rfl|exact .inr rfl|assumption) :
  PS X (.AugAssign (.Name x pos') op e pos) (ZrI i te ti):=by
 intro pins s σ H D I h
 obtain⟨v,e1,h⟩:=h
 obtain⟨m,hn,hl⟩:=I.loc
 have vis:Vis X.env.scope x:=by rcases hx with k|k;exact .inl k;exact .inr (.inl k)
 obtain⟨u,r,l⟩:=hl i x v hi e1 vis
 refine wpAny_AugAssign_Name ?_
 have go:wpAny (model X.prog X.w) X.A (eval e X.env) (fun w s₂=>wpAny (model X.prog X.w) X.A (inplaceOp op u w) (fun r s₃=>wpAny (model X.prog X.w) X.A (storeName X.env x r) (fun _=>SP X pins D .next) X.xe s₃) X.xe s₂) X.xe s:=by
  refine thn (he pins s σ H _ I h) ?_
  rintro w s1 ⟨y,H1,I1,r1,q1⟩
  refine thn (ho pins s1 σ H1 v y u w _ I1 r r1 q1) ?_
  rintro z s2 ⟨zv,H2,I2,r2,q2⟩
  exact Zdv I2 hN hi hx r2 (fun s3 I3=>⟨_,H2,I3,q2⟩) hf
 rcases l with⟨hk,hm⟩|⟨hk,c,hc,hcell⟩
 ·exact wpAny_loadName_local I.ok.kind hk hn hm go
 ·rcases hk with hk|hk
  ·exact wpAny_loadName_cell I.ok.kind hk hc hcell go
  ·rcases hx with k|k
   ·have:X.env.scope.names.lookup x=some .free:=hk
    rw[k]at this;cases this
   ·have:X.env.scope.names.lookup x=some .free:=hk
    rw[k]at this;cases this
def tAugS(to ti te:TE)(tget:V→V→Hp→VK→Prop)(tip:TIp)(tset:ZkP):TS:=fun D σ H=>to σ H fun o H1=>ti σ H1 fun i H2=>tget o i H2 fun x H3=>te σ H3 fun y H4=>tip x y H4 fun z H5=>tset o i z H5 fun H6=>D.nx σ H6
def PGet(X:Cx)(t:V→V→Hp→VK→Prop):Prop :=
 ∀ (pins:List (Addr×Obj)) (s:Shared) (σ:St) (H:Hp) (o i:V) (ov iv:Value) (Q:VK),Inv X pins σ H s→ZD o ov→ZD i iv→t o i H Q →
  wpAny (model X.prog X.w) X.A (getItem ov iv) (EP X pins σ Q) X.xe s
def ipI(f:Int→Int→Int):TIp:=fun x y H Q=>∃i j,x=.int i∧y=.int j∧Q (.int (f i j)) H
theorem Zmj:PIp X .Add (ipI fun i j=>i+j):=by
 intro pins s σ H x y v u Q I r1 r2 h
 obtain⟨i,j,e1,e2,q⟩:=h
 subst e1;subst e2
 obtain⟨t,rfl⟩:=r1
 obtain⟨t',rfl⟩:=r2
 exact iadd_int ⟨.int _,H,I.tok _,⟨_,rfl⟩,q⟩
end
section
variable {X:Cx} {pos:Pos}
def ZpG(c:TT)(tb:TS):TS:=fun D σ H=>∃W:Nat→St→Hp→Prop,(∃m,W m σ H)∧∀m σ H,W m σ H →
 c σ H fun b H1=>if b=true then ∃N:St→Hp→Prop,(∀σ' H',N σ' H'→∃m',m'<m∧W m' σ' H')∧tb { D with nx:=N,ct:=N,bk:=D.nx } σ H1 else D.nx σ H1
theorem Zea{c:Expr}{body:List Stmt}{tc:TT}{tb:TS}(hp:PassesOwn (model X.prog X.w) X.A X.env X.xe)(hc:PT X c tc)(hb:PSs X body tb):PS X (.While c body [] pos) (ZpG tc tb):=by
 intro pins s σ H D I h
 obtain⟨W,⟨m0,w0⟩,turn⟩:=h
 refine wpAny_While (codeAny_whileLoop (fun n s'=>∃σ' H',Inv X pins σ' H' s'∧W n σ' H') ?_ m0 ⟨σ,H,I,w0⟩)
 rintro n s1 ⟨σ1,H1,I1,w1⟩
 refine wpAny_passesOwn hp (thn (hc pins s1 σ1 H1 _ I1 (turn n σ1 H1 w1)) ?_)
 rintro b s2 ⟨H2,I2,q2⟩
 cases b with
 | true =>
  obtain⟨N,hN,q2⟩:=q2
  rw[if_pos rfl]
  refine wpAny_passesOwn hp (thn (hb pins s2 σ1 H2 _ I2 q2) fun f s3 q3=>?_)
  cases f with
  | next =>
   obtain⟨σ3,H3,I3,n3⟩:=q3
   obtain⟨m',hm,w3⟩:=hN σ3 H3 n3
   exact⟨m',hm,σ3,H3,I3,w3⟩
  | cont =>
   obtain⟨σ3,H3,I3,n3⟩:=q3
   obtain⟨m',hm,w3⟩:=hN σ3 H3 n3
   exact⟨m',hm,σ3,H3,I3,w3⟩
  | brk=>exact q3
  | ret v=>exact q3
 | false =>
  rw[if_neg Qt]
  exact wpAny_execs_nil ⟨σ1,H2,I2,q2⟩
end
structure It where
 go:Nat→Hp→Prop
 yld:Nat→Hp→V→Hp→Prop
 stop:Nat→Hp→Prop
def Zfw(X:Cx)(pins:List (Addr×Obj))(H:Hp)(b:Addr):Prop :=
 H b=none∧b≠X.env.locals∧b ∉ X.fs∧(b∈X.ex∨X.s₀.heap.objs.size≤b)∧(∀x c,X.env.cells.lookup x=some c→c≠b)∧∀p∈X.pn++pins,p.1≠b
theorem Inv.fpOk{X:Cx}{pins:List (Addr×Obj)}{σ:St}{H H':Hp}{s:Shared}{b:Addr}(I:Inv X pins σ H s)(hb:s.heap.objs.size≤b)(hn:H' b=none):Zfw X pins H' b:=by
 refine⟨hn,Nat.ne_of_gt (QF I.lt hb),I.nofs hb,.inr (QM I.sz hb),fun x c e z=>?_,fun p hp z=>?_⟩
 ·obtain⟨v,q⟩:=I.cell x c e
  exact absurd (QF q.lt (by rw[z];exact hb)) (Qak _)
 ·exact absurd (QF (Qy (I.pin p hp).1) (by rw[z];exact hb)) (Qak _)
structure Zmk (P:Program) (w:World) (K:PySem.W.Frag) (tg:Expr) (J:It) (fp:List Addr) (it:Addr) (tn:Nat→Heap→Prop):Prop where
 mem:it∈fp
 obj:∀i h,tn i h→∀b∈fp,∃o,h.get? b=some o∧∀v,o.data≠.cell v
 keep:∀i h h',tn i h→(∀b∈fp,∀o,h.get? b=some o→h'.get? b=some o)→tn i h'
 item:∀ (X:Cx),X.prog=P→X.w=w→X.K=K→X.calm=true→∀ (i:Nat) (pins:List (Addr×Obj)) (s:Shared) (σ:St) (H:Hp) (E:Value→Shared→Prop),Inv X pins σ H s→(∀b∈fp,Zfw X pins H b)→tn i s.heap→J.go i H →
  wpAny (model P w) X.A (pyNext (.ref it)) (fun r s1=>∃u,r=some u ∧
   wpAny (model P w) X.A (letOwnedTupleGo tg (.ref it) u) (fun _ s2=>∃x H',Inv X pins σ H' s2∧ZD x u∧J.yld i H x H'∧tn (i+1) s2.heap∧∀b∈fp,H' b=none) E s1) E s
 done:∀ (X:Cx),X.prog=P→X.w=w→X.K=K→X.calm=true→∀ (i:Nat) (pins:List (Addr×Obj)) (s:Shared) (σ:St) (H:Hp) (E:Value→Shared→Prop),Inv X pins σ H s→(∀b∈fp,Zfw X pins H b)→tn i s.heap→J.stop i H →
  wpAny (model P w) X.A (pyNext (.ref it)) (fun r s1=>r=none∧Inv X pins σ H s1) E s
 self:∀ (A:Around) (i:Nat) (s:Shared) (Q:Value→Shared→Prop) (E:Value→Shared→Prop),tn i s.heap→Q (.ref it) s→wpAny (model P w) A (pyIter (.ref it)) Q E s
abbrev TI:=St→Hp→(It→Hp→Prop)→Prop
def PIE(X:Cx)(pins:List (Addr×Obj))(σ:St)(tg:Expr)(R:It→Hp→Prop)(itv:Value)(s2:Shared):Prop :=
 ∃ (it:Addr) (fp:List Addr) (tn:Nat→Heap→Prop) (J:It) (H':Hp),itv=.ref it∧Inv X pins σ H' s2∧Zmk X.prog X.w X.K tg J fp it tn∧tn 0 s2.heap∧(∀b∈fp,Zfw X pins H' b)∧R J H'
def PI(X:Cx)(tg iter:Expr)(wi:TI):Prop :=
 ∀ (pins:List (Addr×Obj)) (s:Shared) (σ:St) (H:Hp) (R:It→Hp→Prop),Inv X pins σ H s→wi σ H R →
  wpAny (model X.prog X.w) X.A (eval iter X.env) (fun v s1=>wpAny (model X.prog X.w) X.A (pyIter v) (PIE X pins σ tg R) X.xe s1) X.xe s
theorem Zmy{M:Model}{A:Around}{E:Value→Shared→Prop}{s:Shared}{tg:Expr}{it:Addr}{u:Value}{o:Obj}{n:String}{vs:Array Value}{Q:Unit→Shared→Prop}(ho:s.heap.get? it=some o)(hc:o.cls=.type n)(hd:o.data=.fields vs)
  (hn:["enumerate", "zip", "dict_itemiterator", "dict_reverseitemiterator", "odict_iterator", "itertools.zip_longest", "itertools.pairwise"].contains n=false) (hQ:Q () s):wpAny M A (letOwnedTupleGo tg (.ref it) u) Q E s:=by
 unfold letOwnedTupleGo
 cases tg<;>first
  | exact wpAny_pure hQ
  | (cases u<;>first
    | exact wpAny_pure hQ
    | (refine wpAny_bind (wpAny_load ho ?_);rw[hc,hd];show wpAny M A (if (["enumerate", "zip", "dict_itemiterator", "dict_reverseitemiterator", "odict_iterator", "itertools.zip_longest", "itertools.pairwise"].contains n&&vs[0]? == some (rawInt _))=true then _ else _) Q E s;rw[if_neg (by intro h;rw[hn,Bool.false_and]at h;cases h)];exact wpAny_pure hQ))
def Itl(K:PySem.W.Frag)(a:Addr):It :=
 ⟨fun i H=>∃xs x,SqL K H a xs∧xs[i]? = some x,fun i H x H'=>H'=H∧∀xs,SqL K H a xs→xs[i]? = some x,fun i H=>∃xs,SqL K H a xs∧xs.length≤i⟩
def Itt(K:PySem.W.Frag)(a:Addr):It :=
 ⟨fun i H=>∃xs x,SqT K H a xs∧xs[i]? = some x,fun i H x H'=>H'=H∧∀xs,SqT K H a xs→xs[i]? = some x,fun i H=>∃xs,SqT K H a xs∧xs.length≤i⟩
def Itr(lo:Int)(n:Nat):It:=⟨fun i _=>i<n,fun i H x H'=>H'=H∧x=.int (lo+i),fun i _=>n≤i⟩
theorem Zk3{P:Program}{w:World}{K:PySem.W.Frag}{tg:Expr}(a it:Addr):Zmk P w K tg (Itl K a) [it] it (fun i h=>h.IsListIter it a i) where
 mem:=by simp
 obj:=fun i h st b hb=>by
  have e:b=it:=by simpa using hb
  subst e
  obtain⟨o,e,c,d⟩:=st
  exact⟨o,e,fun v z=>by rw[d]at z;cases z⟩
 keep:=fun i h h' st k=>st.at fun o e=>k it (by simp) o e
 item:=by
  intro X hP hw hK hc i pins s σ H E I hf st hg
  subst hP hw hK
  obtain⟨xs,x,hq,hx⟩:=hg
  obtain⟨its,rv,p,hz⟩:=I.list hq
  obtain⟨u,hu,ru⟩:=rv.get hx
  obtain⟨f0,f1,f2,f3,f4,f5⟩:=hf it (by simp)
  refine wpAny_pyNext_list_item st p.isList (x:=u) (by simpa using hu) fun h' st' sb=>?_
  have I1:Inv X pins σ H { s with heap:=h' }:=I.turned (t':=s.toks) (fun b o hb e=>(sb.2 b hb).trans e) f0 f1 f3 f4 f5
  obtain⟨o,e,c,d⟩:=id st'
  exact⟨u,rfl,Zmy (s:={ s with heap:=h' }) e c d (by decide) ⟨x,H,I1,ru,⟨rfl,fun ys hy=>by rw[I.list_inj hy hq];exact hx⟩,st',fun b hb=>(hf b hb).1⟩⟩
 done:=by
  intro X hP hw hK hc i pins s σ H E I hf st hg
  subst hP hw hK
  obtain⟨xs,hq,hx⟩:=hg
  obtain⟨its,rv,p,hz⟩:=I.list hq
  obtain⟨f0,f1,f2,f3,f4,f5⟩:=hf it (by simp)
  have hl:=rv.length
  exact wpAny_pyNext_list_end (I.ok.hd hc) st p.isList (by simp;omega) fun h' eb=>⟨rfl,I.turned (t':=s.toks) (fun b o hb e=>eb b o hb e) f0 f1 f3 f4 f5⟩
 self:=fun _ _ _ _ _ st h=>wpAny_pyIter_listiter st h
theorem Zi7{P:Program}{w:World}{K:PySem.W.Frag}{tg:Expr}(a it:Addr):Zmk P w K tg (Itt K a) [it] it (fun i h=>h.IsTupleIter it a i) where
 mem:=by simp
 obj:=fun i h st b hb=>by
  have e:b=it:=by simpa using hb
  subst e
  obtain⟨o,e,c,d⟩:=st
  exact⟨o,e,fun v z=>by rw[d]at z;cases z⟩
 keep:=fun i h h' st k=>st.at fun o e=>k it (by simp) o e
 item:=by
  intro X hP hw hK hc i pins s σ H E I hf st hg
  subst hP hw hK
  obtain⟨xs,x,hq,hx⟩:=hg
  obtain⟨its,rv,p,hz⟩:=I.tuple hq
  obtain⟨u,hu,ru⟩:=rv.get hx
  obtain⟨f0,f1,f2,f3,f4,f5⟩:=hf it (by simp)
  refine wpAny_pyNext_tuple_item st (show s.heap.IsTuple a its.toArray from p) (x:=u) (by simpa using hu) fun h' st' sb=>?_
  have I1:Inv X pins σ H { s with heap:=h' }:=I.turned (t':=s.toks) (fun b o hb e=>(sb.2 b hb).trans e) f0 f1 f3 f4 f5
  obtain⟨o,e,c,d⟩:=id st'
  exact⟨u,rfl,Zmy (s:={ s with heap:=h' }) e c d (by decide) ⟨x,H,I1,ru,⟨rfl,fun ys hy=>by rw[I.tuple_inj hy hq];exact hx⟩,st',fun b hb=>(hf b hb).1⟩⟩
 done:=by
  intro X hP hw hK hc i pins s σ H E I hf st hg
  subst hP hw hK
  obtain⟨xs,hq,hx⟩:=hg
  obtain⟨its,rv,p,hz⟩:=I.tuple hq
  obtain⟨f0,f1,f2,f3,f4,f5⟩:=hf it (by simp)
  have hl:=rv.length
  exact wpAny_pyNext_tuple_end (I.ok.hd hc) st (show s.heap.IsTuple a its.toArray from p) (by simp;omega) fun h' eb=>⟨rfl,I.turned (t':=s.toks) (fun b o hb e=>eb b o hb e) f0 f1 f3 f4 f5⟩
 self:=fun _ _ _ _ _ st h=>wpAny_pyIter_tupleiter st h
theorem Zi3{P:Program}{w:World}{K:PySem.W.Frag}{tg:Expr}(it:Addr)(lo:Int)(n:Nat):Zmk P w K tg (Itr lo n) [it] it (fun i h=>IsRangeIter h it (lo+(i:Nat)*1) ((n:Int)-(i:Nat)) 1) where
 mem:=by simp
 obj:=fun i h st b hb=>by
  have e:b=it:=by simpa using hb
  subst e
  exact⟨_,st,fun v z=>by
   have z':Data.fields _=Data.cell v:=z
   cases z'⟩
 keep:=fun i h h' st k=>k it (by simp) _ st
 item:=by
  intro X hP hw hK hc i pins s σ H E I hf st hg
  subst hP hw hK
  obtain⟨f0,f1,f2,f3,f4,f5⟩:=hf it (by simp)
  have W:=Walks.range (prog:=X.prog) (w:=X.w) (I.ok.hd hc) it lo 1 n
  refine W.item i s _ _ hg st fun v h' tk hv st' kk=>?_
  obtain⟨t,rfl⟩:=hv
  have I1:Inv X pins σ H { s with heap:=h',toks:=tk }:=I.turned (fun b o hb e=>kk b o (by simpa using hb) e) f0 f1 f3 f4 f5
  refine⟨_,rfl,Zmy (s:={ s with heap:=h',toks:=tk }) (n := "range_iterator") st' rfl rfl (by decide) ⟨.int (lo+i),H,I1,⟨t,?_⟩,⟨rfl,rfl⟩,st',fun b hb=>(hf b hb).1⟩⟩
  rw[Int.mul_one]
 done:=by
  intro X hP hw hK hc i pins s σ H E I hf st hg
  subst hP hw hK
  obtain⟨f0,f1,f2,f3,f4,f5⟩:=hf it (by simp)
  exact wpAny_pyNext_range_end (I.ok.hd hc) st (by have:n≤i:=hg;omega) fun h' eb=>⟨rfl,I.turned (t':=s.toks) (fun b o hb e=>eb b o hb e) f0 f1 f3 f4 f5⟩
 self:=fun _ _ _ _ _ st h=>wpAny_pyIter_rangeiter st h
section
variable {X:Cx} {tg:Expr}
def ZoC(K:PySem.W.Frag)(tl:TE):TI:=fun σ H R=>tl σ H fun x H1=>∃a,x=.ref a∧(∃xs,SqL K H1 a xs)∧R (Itl K a) H1
def Zq5(K:PySem.W.Frag)(tl:TE):TI:=fun σ H R=>tl σ H fun x H1=>∃a,x=.ref a∧(∃xs,SqT K H1 a xs)∧R (Itt K a) H1
theorem Zok{l:Expr}{tl:TE}(hl:PE X l tl):PI X tg l (ZoC X.K tl):=by
 intro pins s σ H R I h
 refine thn (hl pins s σ H _ I h) ?_
 rintro v s1 ⟨x,H1,I1,r1,q1⟩
 obtain⟨a,e,⟨xs,hq⟩,q⟩:=q1
 subst e
 cases r1
 obtain⟨its,rv,p,hz⟩:=I1.list hq
 refine wpAny_pyIter_list p.isList ?_
 refine⟨s1.heap.objs.size,[s1.heap.objs.size],_,_,H1,rfl,I1.kept (t':=s1.toks) fun b o e=>Qs _ e,Zk3 a _,⟨_,QL _ rfl,rfl,rfl⟩,fun b hb=>?_,q⟩
 have e:b=s1.heap.objs.size:=by simpa using hb
 subst e
 exact I1.fpOk (Qh _) (I1.hok.fresh (Qh _))
theorem ZpM{l:Expr}{tl:TE}(hl:PE X l tl):PI X tg l (Zq5 X.K tl):=by
 intro pins s σ H R I h
 refine thn (hl pins s σ H _ I h) ?_
 rintro v s1 ⟨x,H1,I1,r1,q1⟩
 obtain⟨a,e,⟨xs,hq⟩,q⟩:=q1
 subst e
 cases r1
 obtain⟨its,rv,p,hz⟩:=I1.tuple hq
 refine wpAny_pyIter_tuple (show s1.heap.IsTuple a its.toArray from p) ?_
 refine⟨s1.heap.objs.size,[s1.heap.objs.size],_,_,H1,rfl,I1.kept (t':=s1.toks) fun b o e=>Qs _ e,Zi7 a _,⟨_,QL _ rfl,rfl,rfl⟩,fun b hb=>?_,q⟩
 have e:b=s1.heap.objs.size:=by simpa using hb
 subst e
 exact I1.fpOk (Qh _) (I1.hok.fresh (Qh _))
theorem Zhv{pins:List (Addr×Obj)}{σ:St}{H:Hp}{s:Shared}{R:It→Hp→Prop}{E:Value→Shared→Prop}{lo hi:Int}{t u v:Tok}{tk:Nat}(I:Inv X pins σ H s)(h1:-(2 ^ 62)≤lo)(h2:lo<2 ^ 62)(h3:-(2 ^ 62)≤hi)(h4:hi<2 ^ 62)
  (q:R (Itr lo (hi-lo).toNat) H):wpAny (model X.prog X.w) X.A (pyIter (.ref s.heap.objs.size)) (PIE X pins σ tg R) E { s with heap:=s.heap.push { cls:=.type "range",data:=.fields #[.int lo t,.int hi u,.int 1 v] },toks:=tk }:=by
 refine wpAny_pyIter_range (IsRange.new ..) (small_one h1 h2 h3 h4) ?_
 have I1:Inv X pins σ H { s with heap:=s.heap.push { cls:=.type "range",data:=.fields #[.int lo t,.int hi u,.int 1 v] },toks:=tk }:=I.kept fun b o e=>Qs _ e
 refine⟨(s.heap.push { cls:=.type "range",data:=.fields #[.int lo t,.int hi u,.int 1 v] }).objs.size,[(s.heap.push { cls:=.type "range",data:=.fields #[.int lo t,.int hi u,.int 1 v] }).objs.size],_,_,H,rfl,
  I1.kept (t':=tk) fun b o e=>Qs _ e,Zi3 _ lo (hi-lo).toNat,?_,fun b hb=>?_,q⟩
 ·have e1:lo+((0:Nat):Int)*1=lo:=by simp
  have e2:(((hi-lo).toNat:Nat):Int)-((0:Nat):Int)=Builtin.Range.rangeSize lo hi 1:=by rw[rangeSize_one];split<;>omega
  show IsRangeIter _ _ (lo+((0:Nat):Int)*1) ((((hi-lo).toNat:Nat):Int)-((0:Nat):Int)) 1
  rw[e1,e2]
  exact QL _ rfl
 ·have e:b=(s.heap.push { cls:=.type "range",data:=.fields #[.int lo t,.int hi u,.int 1 v] }).objs.size:=by simpa using hb
  subst e
  exact I1.fpOk (Qh _) (I1.hok.fresh (Qh _))
def Zqy(ta:TA):TI:=fun σ H R=>ta σ H fun vs H1=>∃j:Int,vs=[.int j] ∧ -(2 ^ 62)≤j∧j<2 ^ 62∧R (Itr 0 j.toNat) H1
def Zqk(ta:TA):TI:=fun σ H R=>ta σ H fun vs H1=>∃i j:Int,vs=[.int i,.int j]∧(-(2 ^ 62)≤i∧i<2 ^ 62 ∧ -(2 ^ 62)≤j∧j<2 ^ 62)∧R (Itr i (j-i).toNat) H1
theorem ZbX{a:Expr}{ta:TA}{p pos:Pos}(hg:Gl X "range")(hm:X.mg "range" = none)(ha:PA X [a] ta)(hs:starEach [a] X.env=[(false,eval a X.env)]:=by rfl):PI X tg (.Call (.Name "range" p) [a] [] pos) (Zqy ta):=by
 intro pins s σ H R I h
 refine Call_ (ZeE I hg hm boot_range (Qac (thn (ha pos pins s σ H _ I h) ?_) hs rfl))
 rintro us s1 ⟨vs,H1,I1,r1,q1⟩
 obtain⟨j,e,q1,q2,q⟩:=q1
 subst e
 cases r1 with
 | cons r rr =>
  cases rr
  obtain⟨t,rfl⟩:=r
  exact call_range_1 (Zhv I1 (by omega) (by omega) q1 q2 (by simpa using q))
theorem ZdP{a b:Expr}{ta:TA}{p pos:Pos}(hg:Gl X "range")(hm:X.mg "range" = none)(ha:PA X [a,b] ta)(hs:starEach [a,b] X.env=[(false,eval a X.env),(false,eval b X.env)]:=by rfl)(hs2:starEach [b] X.env=[(false,eval b X.env)]:=by rfl) :
  PI X tg (.Call (.Name "range" p) [a,b] [] pos) (Zqk ta):=by
 intro pins s σ H R I h
 refine Call_ (ZeE I hg hm boot_range (Qac (thn (ha pos pins s σ H _ I h) ?_) (by rw[hs,hs2]) (by rw[hs2];rfl)))
 rintro us s1 ⟨vs,H1,I1,r1,q1⟩
 obtain⟨i,j,e,⟨q1,q2,q3,q4⟩,q⟩:=q1
 subst e
 cases r1 with
 | cons r rr =>
  cases rr with
  | cons r' rr =>
   cases rr
   obtain⟨t,rfl⟩:=r
   obtain⟨t',rfl⟩:=r'
   exact call_range_2 (Zhv I1 q1 q2 q3 q4 q)
def ZrP(wi:TI)(g:TG)(tb:TS):TS:=fun D σ H=>wi σ H fun J H1=>∃W:Nat→Nat→St→Hp→Prop,(∃m,W 0 m σ H1)∧∀i m σ H,W i m σ H →
 (J.stop i H∧D.nx σ H)∨(J.go i H∧∃N:St→Hp→Prop,(∀σ' H',N σ' H'→∃m',m'<m∧W (i+1) m' σ' H')∧∀x H',J.yld i H x H'→g x σ H' fun σ2 H2=>tb { D with nx:=N,ct:=N,bk:=D.nx } σ2 H2)
def ZfJ(fp:List Addr)(h:Heap):List (Addr×Obj):=fp.filterMap fun b=>(h.get? b).map fun o=>(b,o)
theorem ZcV{fp:List Addr}{h:Heap}{b:Addr}{o:Obj}(hb:b∈fp)(e:h.get? b=some o):(b,o)∈ZfJ fp h:=List.mem_filterMap.mpr ⟨b,hb,by rw[e];rfl⟩
theorem Zky{fp:List Addr}{h:Heap}{p:Addr×Obj}(hp:p∈ZfJ fp h):p.1∈fp∧h.get? p.1=some p.2:=by
 obtain⟨b,hb,e⟩:=List.mem_filterMap.mp hp
 cases q:h.get? b with
 | none=>rw[q]at e;cases e
 | some o =>
  rw[q]at e
  have e':(b,o)=p:=Qp e
  subst e'
  exact⟨hb,q⟩
theorem Inv.pinned{pins:List (Addr×Obj)}{σ:St}{H:Hp}{s:Shared}{fp:List Addr}(I:Inv X pins σ H s)(hf:∀b∈fp,Zfw X pins H b)(ho:∀b∈fp,∃o,s.heap.get? b=some o∧∀v,o.data≠.cell v):Inv X (pins++ZfJ fp s.heap) σ H s :=
 I.pins_of fun p hp=>(Qe.mp hp).elim (fun z=>I.pin p (Ql _ z)) fun z=>by
  obtain⟨hb,e⟩:=Zky z
  obtain⟨f0,f1,f2,_⟩:=hf p.1 hb
  obtain⟨o,e',d⟩:=ho p.1 hb
  rw[e]at e';cases e'
  exact⟨e,f0,f1,f2,d⟩
theorem Inv.unpinned{pins pl:List (Addr×Obj)}{σ:St}{H:Hp}{s:Shared}(I:Inv X (pins++pl) σ H s):Inv X pins σ H s:=I.pins_of fun p hp=>I.pin p (Ql _ (Qj _ hp))
theorem Zb8{iter:Expr}{body:List Stmt}{wi:TI}{g:TG}{tb:TS}{pos:Pos}(hp:PassesOwn (model X.prog X.w) X.A X.env X.xe)(hc:X.calm=true)(hi:PI X tg iter wi)(hg:PG X tg g)(hb:PSs X body tb)
  (hs:∀x,foldedSetIterable iter X.env x=pure x:=by intro _;rfl):PS X (.For tg iter body [] pos) (ZrP wi g tb):=by
 intro pins s σ H D I h
 refine wpAny_For (thn (hi pins s σ H _ I h) fun v s1 h1=>thn h1 fun itv s2 h2=>?_) hs
 obtain⟨it,fp,tn,J,H2,e,I2,T,st2,f2,W,⟨m0,w0⟩,turn⟩:=h2
 subst e
 have stat:∀ {H':Hp},(∀b∈fp,H' b=none)→∀b∈fp,Zfw X pins H' b:=fun hn b hb=>⟨hn b hb,(f2 b hb).2⟩
 refine codeAny_forLoop_any (fun n s'=>∃i σ' H',Inv X pins σ' H' s'∧tn i s'.heap∧(∀b∈fp,H' b=none)∧W i n σ' H') ?_ m0 ⟨0,σ,H2,I2,st2,fun b hb=>(f2 b hb).1,w0⟩
 rintro n s3 ⟨i,σ3,H3,I3,st3,fr3,w3⟩
 rcases turn i n σ3 H3 w3 with⟨stop,qn⟩|⟨go,N,hN,step⟩
 ·refine wpAny_passesOwn hp (thn (T.done X rfl rfl rfl hc i pins s3 σ3 H3 X.xe I3 (stat fr3) st3 stop) ?_)
  rintro r s4 ⟨hr,I4⟩
  subst hr
  exact wpAny_execs_nil ⟨σ3,H3,I4,qn⟩
 ·refine wpAny_passesOwn hp (thn (T.item X rfl rfl rfl hc i pins s3 σ3 H3 X.xe I3 (stat fr3) st3 go) ?_)
  rintro r s4 ⟨u,hr,h4⟩
  subst hr
  refine wpAny_passesOwn hp (thn h4 ?_)
  rintro _ s5 ⟨x,H5,I5,r5,y5,st5,fr5⟩
  have I5':=I5.pinned (stat fr5) (T.obj _ _ st5)
  refine wpAny_passesOwn hp (thn (hg _ s5 σ3 H5 x u _ I5' r5 (step x H5 y5)) ?_)
  rintro _ s6 ⟨σ6,H6,I6,q6⟩
  refine wpAny_passesOwn hp (thn (hb _ s6 σ6 H6 _ I6 q6) fun f s7 q7=>?_)
  have again:∀ {σ7:St} {H7:Hp},Inv X (pins++ZfJ fp s5.heap) σ7 H7 s7→N σ7 H7→∃m,m<n∧∃i σ' H',Inv X pins σ' H' s7∧tn i s7.heap∧(∀b∈fp,H' b=none)∧W i m σ' H':=fun {σ7 H7} I7 n7=>by
   obtain⟨m',hm,w7⟩:=hN σ7 H7 n7
   refine⟨m',hm,i+1,σ7,H7,I7.unpinned,T.keep _ _ _ st5 fun b hb o e=>(I7.pin (b,o) (Ql _ (Ql _ (ZcV hb e)))).1,fun b hb=>?_,w7⟩
   obtain⟨o,e,d⟩:=T.obj _ _ st5 b hb
   exact(I7.pin (b,o) (Ql _ (Ql _ (ZcV hb e)))).2.1
  cases f with
  | next=>obtain⟨σ7,H7,I7,n7⟩:=q7;exact again I7 n7
  | cont=>obtain⟨σ7,H7,I7,n7⟩:=q7;exact again I7 n7
  | brk=>obtain⟨σ7,H7,I7,q7⟩:=q7;exact⟨σ7,H7,I7.unpinned,q7⟩
  | ret v=>obtain⟨x7,σ7,H7,I7,r7,q7⟩:=q7;exact⟨x7,σ7,H7,I7.unpinned,r7,q7⟩
end
theorem ZfA{K:PySem.W.Frag}{a:Addr}{xs:List V}{g:TG}{tb:TS}{D:ZeF}{σ:St}{H:Hp}(Pv:Nat→St→Hp→Prop)(h0:Pv 0 σ H)(hl:∀i σ H,i≤xs.length→Pv i σ H→SqL K H a xs)
  (hs:∀i x σ H,xs[i]? = some x→Pv i σ H→g x σ H fun σ2 H2=>tb { D with nx:=Pv (i+1),ct:=Pv (i+1),bk:=D.nx } σ2 H2) (hd:∀σ H,Pv xs.length σ H→D.nx σ H) :
  ∃W:Nat→Nat→St→Hp→Prop,(∃m,W 0 m σ H)∧∀i m σ H,W i m σ H →
   ((Itl K a).stop i H∧D.nx σ H)∨((Itl K a).go i H∧∃N:St→Hp→Prop,(∀σ' H',N σ' H'→∃m',m'<m∧W (i+1) m' σ' H')∧∀x H',(Itl K a).yld i H x H'→g x σ H' fun σ2 H2=>tb { D with nx:=N,ct:=N,bk:=D.nx } σ2 H2):=by
 refine⟨fun i m σ H=>m=xs.length-i∧i≤xs.length∧Pv i σ H,⟨xs.length,by simp,Qv _,h0⟩,?_⟩
 rintro i m σ H ⟨rfl,hi,p⟩
 have q:=hl i σ H hi p
 by_cases hlt:i<xs.length
 ·refine .inr ⟨⟨xs,xs[i],q,by simp[hlt]⟩,Pv (i+1),fun σ' H' p'=>⟨xs.length-(i+1),by omega,rfl,hlt,p'⟩,fun x H' y=>?_⟩
  obtain⟨e,y⟩:=y
  subst e
  exact hs i x σ _ (y xs q) p
 ·have e:i=xs.length:=by omega
  subst e
  exact .inl ⟨⟨xs,q,Qh _⟩,hd σ H p⟩
theorem ZbW{lo:Int}{n:Nat}{g:TG}{tb:TS}{D:ZeF}{σ:St}{H:Hp}(Pv:Nat→St→Hp→Prop)(h0:Pv 0 σ H)
  (hs:∀i σ H,i<n→Pv i σ H→g (.int (lo+i)) σ H fun σ2 H2=>tb { D with nx:=Pv (i+1),ct:=Pv (i+1),bk:=D.nx } σ2 H2) (hd:∀σ H,Pv n σ H→D.nx σ H) :
  ∃W:Nat→Nat→St→Hp→Prop,(∃m,W 0 m σ H)∧∀i m σ H,W i m σ H →
   ((Itr lo n).stop i H∧D.nx σ H)∨((Itr lo n).go i H∧∃N:St→Hp→Prop,(∀σ' H',N σ' H'→∃m',m'<m∧W (i+1) m' σ' H')∧∀x H',(Itr lo n).yld i H x H'→g x σ H' fun σ2 H2=>tb { D with nx:=N,ct:=N,bk:=D.nx } σ2 H2):=by
 refine⟨fun i m σ H=>m=n-i∧i≤n∧Pv i σ H,⟨n,by simp,Qv _,h0⟩,?_⟩
 rintro i m σ H ⟨rfl,hi,p⟩
 by_cases hlt:i<n
 ·refine .inr ⟨hlt,Pv (i+1),fun σ' H' p'=>⟨n-(i+1),by omega,rfl,hlt,p'⟩,fun x H' y=>?_⟩
  obtain⟨e,y⟩:=y
  subst e y
  exact hs i σ _ hlt p
 ·have e:i=n:=by omega
  subst e
  exact .inl ⟨Qh _,hd σ H p⟩
abbrev R2:=V→V→Hp→VK→Prop
def OpR(X:Cx)(f:Value→Value→Sem Value)(r:R2):Prop :=
 ∀ (pins:List (Addr×Obj)) (s:Shared) (σ:St) (H:Hp) (x y:V) (v u:Value) (Q:VK),Inv X pins σ H s→ZD x v→ZD y u→r x y H Q →
  wpAny (model X.prog X.w) X.A (f v u) (EP X pins σ Q) X.xe s
def UnR(X:Cx)(f:Value→Sem Value)(r:V→Hp→VK→Prop):Prop :=
 ∀ (pins:List (Addr×Obj)) (s:Shared) (σ:St) (H:Hp) (x:V) (v:Value) (Q:VK),Inv X pins σ H s→ZD x v→r x H Q →
  wpAny (model X.prog X.w) X.A (f v) (EP X pins σ Q) X.xe s
def Za2(X:Cx)(f:Value)(r:List V→Hp→VK→Prop):Prop :=
 ∀ (pins:List (Addr×Obj)) (s:Shared) (σ:St) (H:Hp) (xs:List V) (us:List Value) (Q:VK),Inv X pins σ H s→Zy xs us→r xs H Q →
  wpAny (model X.prog X.w) X.A (call f us) (EP X pins σ Q) X.xe s
def TruR(X:Cx)(r:V→Hp→(Bool→Hp→Prop)→Prop):Prop :=
 ∀ (pins:List (Addr×Obj)) (s:Shared) (σ:St) (H:Hp) (x:V) (v:Value) (Q:Bool→Hp→Prop),Inv X pins σ H s→ZD x v→r x H Q →
  wpAny (model X.prog X.w) X.A (truthy v) (TP X pins σ Q) X.xe s
def tOp(r:R2)(ta tb:TE):TE:=fun σ H Q=>ta σ H fun x H1=>tb σ H1 fun y H2=>r x y H2 Q
def tUn(r:V→Hp→VK→Prop)(ta:TE):TE:=fun σ H Q=>ta σ H fun x H1=>r x H1 Q
def rI(C:Int→Int→Prop)(g:Int→Int→V):R2:=fun x y H Q=>∃i j,x=.int i∧y=.int j∧C i j∧Q (g i j) H
def rI0(g:Int→Int→V):R2:=fun x y H Q=>∃i j,x=.int i∧y=.int j∧Q (g i j) H
def rU(g:Int→V):V→Hp→VK→Prop:=fun x H Q=>∃i,x=.int i∧Q (g i) H
section
variable {X:Cx} {a b c:Expr} {ta tb tc:TE} {pos:Pos}
theorem ZoY(ha:PE X a ta)(hb:PE X b tb){pins:List (Addr×Obj)}{s:Shared}{σ:St}{H:Hp}{R:V→V→Hp→Prop}(I:Inv X pins σ H s)
  (h:ta σ H fun x H1=>tb σ H1 fun y H2=>R x y H2) {Q:Value→Shared→Prop} {f:Value→Value→Sem Value}
  (hf:∀v u s2 x y H2,Inv X pins σ H2 s2→ZD x v→ZD y u→R x y H2→wpAny (model X.prog X.w) X.A (f v u) Q X.xe s2) :
  wpAny (model X.prog X.w) X.A (eval a X.env) (fun v s₁=>wpAny (model X.prog X.w) X.A (eval b X.env) (fun u s₂=>wpAny (model X.prog X.w) X.A (f v u) Q X.xe s₂) X.xe s₁) X.xe s:=by
 refine thn (ha pins s σ H _ I h) ?_
 rintro v s1 ⟨x,H1,I1,r1,q1⟩
 refine thn (hb pins s1 σ H1 _ I1 q1) ?_
 rintro u s2 ⟨y,H2,I2,r2,q2⟩
 exact hf v u s2 x y H2 I2 r1 r2 q2
theorem ZG{op:Operator}{r:R2}(ho:OpR X (binaryOp op) r)(ha:PE X a ta)(hb:PE X b tb):PE X (.BinOp a op b pos) (tOp r ta tb):=by
 intro pins s σ H Q I h
 exact wpAny_BinOp (ZoY ha hb I h fun v u s2 x y H2 I2 rx ry q=>ho pins s2 σ H2 x y v u Q I2 rx ry q)
theorem ZhV{op:UnaryOp}{r:V→Hp→VK→Prop}(ho:UnR X (unaryOp op) r)(ha:PE X a ta):PE X (.UnaryOp op a pos) (tUn r ta):=by
 intro pins s σ H Q I h
 exact UnaryOp_ (thn (ha pins s σ H _ I h) fun v s1 ⟨x,H1,I1,r1,q1⟩=>ho pins s1 σ H1 x v Q I1 r1 q1)
theorem opI{f:Value→Value→Sem Value}{C:Int→Int→Prop}{g:Int→Int→Int}
  (rule:∀ (i j:Int) (t u:Tok) (s:Shared) (Q:Value→Shared→Prop) (E:Value→Shared→Prop),C i j→Q (.int (g i j) s.toks) { s with toks:=s.toks+1 }→wpAny (model X.prog X.w) X.A (f (.int i t) (.int j u)) Q E s) :
  OpR X f (rI C fun i j=>.int (g i j)):=by
 intro pins s σ H x y v u Q I rx ry h
 obtain⟨i,j,rfl,rfl,hc,q⟩:=h
 obtain⟨t,rfl⟩:=rx
 obtain⟨t',rfl⟩:=ry
 exact rule i j t t' s _ _ hc ⟨.int (g i j),H,I.tok _,⟨_,rfl⟩,q⟩
theorem Zqh{f:Value→Value→Sem Value}{g:Int→Int→Int}
  (rule:∀ (i j:Int) (t u:Tok) (s:Shared) (Q:Value→Shared→Prop) (E:Value→Shared→Prop),Q (.int (g i j) s.toks) { s with toks:=s.toks+1 }→wpAny (model X.prog X.w) X.A (f (.int i t) (.int j u)) Q E s) :
  OpR X f (rI0 fun i j=>.int (g i j)):=by
 intro pins s σ H x y v u Q I rx ry h
 obtain⟨i,j,rfl,rfl,q⟩:=h
 obtain⟨t,rfl⟩:=rx
 obtain⟨t',rfl⟩:=ry
 exact rule i j t t' s _ _ ⟨.int (g i j),H,I.tok _,⟨_,rfl⟩,q⟩
theorem Zob{f:Value→Value→Sem Value}{g:Int→Int→Bool}
  (rule:∀ (i j:Int) (t u:Tok) (s:Shared) (Q:Value→Shared→Prop) (E:Value→Shared→Prop),Q (.bool (g i j)) s→wpAny (model X.prog X.w) X.A (f (.int i t) (.int j u)) Q E s) :
  OpR X f (rI0 fun i j=>.bl (g i j)):=by
 intro pins s σ H x y v u Q I rx ry h
 obtain⟨i,j,rfl,rfl,q⟩:=h
 obtain⟨t,rfl⟩:=rx
 obtain⟨t',rfl⟩:=ry
 exact rule i j t t' s _ _ ⟨.bl (g i j),H,I,rfl,q⟩
def ZrL(i j:Int):Prop:=0<j∧j<1073741824
def CDivN(i j:Int):Prop:=j≠0∧j.natAbs<1073741824
def Zqm(i j:Int):Prop:=0≤j∧j≤1000000∧i.natAbs<2 ^ 64
def Zpt(i j:Int):Prop:=(-(2 ^ 64)<i∧i<2 ^ 64)∨(-(2 ^ 64)<j∧j<2 ^ 64)
theorem Zpt.ok{i j:Int}(h:Zpt i j):IntMulOk i j:=by
 rcases h with⟨h1,h2⟩|⟨h1,h2⟩
 ·exact .of_left (intBits_le_64 h1 h2)
 ·exact .of_right (intBits_le_64 h1 h2)
theorem Zal:OpR X (binaryOp .Add) (rI0 fun i j=>.int (i+j)):=Zqh fun _ _ _ _ _ _ _ q=>add_int q
theorem ZcT:OpR X (binaryOp .Sub) (rI0 fun i j=>.int (i-j)):=Zqh fun _ _ _ _ _ _ _ q=>sub_int q
theorem ZdZ:OpR X (binaryOp .Mult) (rI Zpt fun i j=>.int (i*j)):=opI fun _ _ _ _ _ _ _ hc q=>mul_int q hc.ok
theorem Zfa:OpR X (binaryOp .FloorDiv) (rI ZrL fun i j=>.int (i / j)):=opI fun i j _ _ _ _ _ hc q=>by
 have h1:(0:Int)<j:=hc.1
 have h2:j<1073741824:=hc.2
 exact floordiv_int (by omega) (by rw[Int.fdiv_eq_ediv_of_nonneg i (by omega)];exact q) (.inl (PyProof.noPylong_small (by omega)))
theorem ZfC:OpR X (binaryOp .Mod) (rI (fun _ j=>0<j) fun i j=>.int (i % j)):=opI fun i j _ _ _ _ _ hc q=>by
 have h1:(0:Int)<j:=hc
 exact mod_int' (by omega) (by rw[Int.fmod_eq_emod_of_nonneg i (by omega)];exact q)
theorem Zpy:OpR X (binaryOp .Pow) (rI Zqm fun i j=>.int (i ^ j.toNat)):=opI fun _ _ _ _ _ _ _ hc q=>pow_int_small hc.1 hc.2.1 hc.2.2 q
theorem unI{f:Value→Sem Value}{g:Int→Int}
  (rule:∀ (i:Int) (t:Tok) (s:Shared) (Q:Value→Shared→Prop) (E:Value→Shared→Prop),Q (.int (g i) s.toks) { s with toks:=s.toks+1 }→wpAny (model X.prog X.w) X.A (f (.int i t)) Q E s) :
  UnR X f (rU fun i=>.int (g i)):=by
 intro pins s σ H x v Q I rx h
 obtain⟨i,rfl,q⟩:=h
 obtain⟨t,rfl⟩:=rx
 exact rule i t s _ _ ⟨.int (g i),H,I.tok _,⟨_,rfl⟩,q⟩
theorem Zfm:UnR X (unaryOp .USub) (rU fun i=>.int (-i)):=unI fun _ _ _ _ _ q=>neg_int q
end
def Zqi:V→V→Bool
 | .non,.non=>true|.non,.int _=>true|.int _,.non=>true|.non,.bl _=>true|.bl _,.non=>true|.non,.str _=>true|.str _,.non=>true
 | .int _,.int _=>true|.bl _,.bl _=>true|.str _,.str _=>true|.byt _,.byt _=>true
 | .int _,.str _=>true|.str _,.int _=>true|.bl _,.str _=>true|.str _,.bl _=>true
 | _,_=>false
def rEq:R2:=fun x y H Q=>Zqi x y=true∧Q (.bl (decide (x=y))) H
def rNe:R2:=fun x y H Q=>Zqi x y=true∧Q (.bl (!decide (x=y))) H
theorem ZjP{i j:Int}:decide (V.int i=V.int j)=(i == j):=by
 rw[Bool.eq_iff_iff]
 simp
theorem Zmq{i j:Bool}:decide (V.bl i=V.bl j)=(i == j):=by
 rw[Bool.eq_iff_iff]
 simp
theorem ZjH{i j:Str}:decide (V.str i=V.str j)=(i == j):=by
 rw[Bool.eq_iff_iff]
 simp
theorem Zj1{i j:Array UInt8}:decide (V.byt i=V.byt j)=(i.toList == j.toList):=by
 rw[Bool.eq_iff_iff]
 cases i
 cases j
 simp
section
variable {X:Cx} {a b c:Expr} {ta tb tc:TE} {pos:Pos}
theorem ZM{pins:List (Addr×Obj)}{σ:St}{H:Hp}{s:Shared}{Q:VK}{k k':Bool}(I:Inv X pins σ H s)(q:Q (.bl k) H)(e:k=k'):EP X pins σ Q (.bool k') s:=by
 subst e
 exact⟨.bl k,H,I,rfl,q⟩
theorem Zbn:OpR X (compareOp .Eq) rEq:=by
 intro pins s σ H x y v u Q I rx ry h
 obtain⟨hs,q⟩:=h
 cases x with
 | non =>
  cases rx
  cases y with
  | non=>cases ry;exact PySem.EqNone.eq_none_none (ZM I q (by simp))
  | bl j=>cases ry;exact PySem.EqNone.eq_none_bool (ZM I q (by simp))
  | int j=>obtain⟨t',rfl⟩:=ry;exact PySem.EqNone.eq_none_int (ZM I q (by simp))
  | str j=>obtain⟨t',rfl⟩:=ry;exact PySem.EqNone.eq_none_str (ZM I q (by simp))
  | _=>exact absurd (show false=true from hs) Qt
 | bl i =>
  cases rx
  cases y with
  | non=>cases ry;exact PySem.EqNone.eq_bool_none (ZM I q (by simp))
  | bl j=>cases ry;exact eq_bool (ZM I q Zmq)
  | str j=>obtain⟨t',rfl⟩:=ry;exact PySem.EqMixed.eq_bool_str (ZM I q (by simp))
  | _=>exact absurd (show false=true from hs) Qt
 | int i =>
  obtain⟨t,rfl⟩:=rx
  cases y with
  | non=>cases ry;exact PySem.EqNone.eq_int_none (ZM I q (by simp))
  | int j=>obtain⟨t',rfl⟩:=ry;exact eq_int (ZM I q ZjP)
  | str j=>obtain⟨t',rfl⟩:=ry;exact PySem.EqMixed.eq_int_str (ZM I q (by simp))
  | _=>exact absurd (show false=true from hs) Qt
 | str i =>
  obtain⟨t,rfl⟩:=rx
  cases y with
  | non=>cases ry;exact PySem.EqNone.eq_str_none (ZM I q (by simp))
  | bl j=>cases ry;exact PySem.EqMixed.eq_str_bool (ZM I q (by simp))
  | int j=>obtain⟨t',rfl⟩:=ry;exact PySem.EqMixed.eq_str_int (ZM I q (by simp))
  | str j=>obtain⟨t',rfl⟩:=ry;exact eq_str (ZM I q ZjH)
  | _=>exact absurd (show false=true from hs) Qt
 | byt i =>
  obtain⟨t,rfl⟩:=rx
  cases y with
  | byt j=>obtain⟨t',rfl⟩:=ry;exact PySem.W.eq_bytes (ZM I q Zj1)
  | _=>exact absurd (show false=true from hs) Qt
 | _=>cases y<;>exact absurd (show false=true from hs) Qt
theorem ZlZ:OpR X (compareOp .NotEq) rNe:=by
 intro pins s σ H x y v u Q I rx ry h
 obtain⟨hs,q⟩:=h
 cases x with
 | non =>
  cases rx
  cases y with
  | non=>cases ry;exact PySem.EqNone.ne_none_none (ZM I q (by simp))
  | bl j=>cases ry;exact PySem.EqNone.ne_none_bool (ZM I q (by simp))
  | int j=>obtain⟨t',rfl⟩:=ry;exact PySem.EqNone.ne_none_int (ZM I q (by simp))
  | str j=>obtain⟨t',rfl⟩:=ry;exact PySem.EqNone.ne_none_str (ZM I q (by simp))
  | _=>exact absurd (show false=true from hs) Qt
 | bl i =>
  cases rx
  cases y with
  | non=>cases ry;exact PySem.EqNone.ne_bool_none (ZM I q (by simp))
  | bl j=>cases ry;exact ne_bool (ZM I q (congrArg not Zmq))
  | str j=>obtain⟨t',rfl⟩:=ry;exact PySem.EqMixed.ne_bool_str (ZM I q (by simp))
  | _=>exact absurd (show false=true from hs) Qt
 | int i =>
  obtain⟨t,rfl⟩:=rx
  cases y with
  | non=>cases ry;exact PySem.EqNone.ne_int_none (ZM I q (by simp))
  | int j=>obtain⟨t',rfl⟩:=ry;exact ne_int (ZM I q (congrArg not ZjP))
  | str j=>obtain⟨t',rfl⟩:=ry;exact PySem.EqMixed.ne_int_str (ZM I q (by simp))
  | _=>exact absurd (show false=true from hs) Qt
 | str i =>
  obtain⟨t,rfl⟩:=rx
  cases y with
  | non=>cases ry;exact PySem.EqNone.ne_str_none (ZM I q (by simp))
  | bl j=>cases ry;exact PySem.EqMixed.ne_str_bool (ZM I q (by simp))
  | int j=>obtain⟨t',rfl⟩:=ry;exact PySem.EqMixed.ne_str_int (ZM I q (by simp))
  | str j=>obtain⟨t',rfl⟩:=ry;exact ne_str (ZM I q (congrArg not ZjH))
  | _=>exact absurd (show false=true from hs) Qt
 | byt i =>
  obtain⟨t,rfl⟩:=rx
  cases y with
  | byt j=>obtain⟨t',rfl⟩:=ry;exact PySem.W.ne_bytes (ZM I q (congrArg not Zj1))
  | _=>exact absurd (show false=true from hs) Qt
 | _=>cases y<;>exact absurd (show false=true from hs) Qt
theorem ZdU:OpR X (compareOp .Lt) (rI0 fun i j=>.bl (decide (i<j))):=Zob fun _ _ _ _ _ _ _ q=>lt_int q
theorem ZoN:OpR X (compareOp .LtE) (rI0 fun i j=>.bl (decide (i≤j))):=Zob fun _ _ _ _ _ _ _ q=>le_int q
theorem ZeY:OpR X (compareOp .Gt) (rI0 fun i j=>.bl (decide (j<i))):=Zob fun _ _ _ _ _ _ _ q=>gt_int q
theorem ZmN:OpR X (compareOp .GtE) (rI0 fun i j=>.bl (decide (j≤i))):=Zob fun _ _ _ _ _ _ _ q=>ge_int q
theorem Zk1:OpR X (compareOp .Lt) (fun x y H Q=>∃i j,x=.str i∧y=.str j∧Q (.bl (decide (i.cps.toList<j.cps.toList))) H):=by
 intro pins s σ H x y v u Q I rx ry h
 obtain⟨i,j,rfl,rfl,q⟩:=h
 obtain⟨t,rfl⟩:=rx
 obtain⟨t',rfl⟩:=ry
 exact lt_str (ZM I q rfl)
theorem Zdg:OpR X (compareOp .Is) (fun x y H Q=>y=.non∧Q (.bl (decide (x=.non))) H):=by
 intro pins s σ H x y v u Q I rx ry h
 obtain⟨rfl,q⟩:=h
 cases ry
 refine is_none_gen (ZM I q ?_)
 cases x<;>first
  | (cases rx;rfl)
  | (obtain⟨t,rfl⟩:=rx;rfl)
theorem Zg7:OpR X (compareOp .IsNot) (fun x y H Q=>y=.non∧Q (.bl (!decide (x=.non))) H):=by
 intro pins s σ H x y v u Q I rx ry h
 obtain⟨rfl,q⟩:=h
 cases ry
 refine isnot_none_gen (ZM I q ?_)
 cases x<;>first
  | (cases rx;rfl)
  | (obtain⟨t,rfl⟩:=rx;rfl)
def isObj:HO→Bool
 | .lst _=>true
 | .ins _ _ _=>true
 | _=>false
theorem Zt(b:Expr){op:CmpOp}(h:op≠.In:=by decide)(h2:op≠.NotIn:=by decide):behindInMarks op b=false:=by
 have e1:(op == CmpOp.In)=false:=by cases op<;>first|rfl|exact absurd rfl h
 have e2:(op == CmpOp.NotIn)=false:=by cases op<;>first|rfl|exact absurd rfl h2
 cases b<;>simp[behindInMarks,e1,e2]
theorem ZdI{op:CmpOp}{r:R2}(ho:OpR X (compareOp op) r)(ha:PE X a ta)(hb:PE X b tb)(hm:behindInMarks op b=false):PE X (.Compare a [op] [b] pos) (tOp r ta tb):=by
 intro pins s σ H Q I h
 exact wpAny_Compare1 (ZoY ha hb I h fun v u s2 x y H2 I2 rx ry q=>ho pins s2 σ H2 x y v u Q I2 rx ry q) hm
def Zq3(t:TE):TT:=fun σ H Q=>t σ H fun x H'=>∃k,x=.bl k∧Q k H'
theorem Zn{op:CmpOp}{r:R2}(ho:OpR X (compareOp op) r)(ha:PE X a ta)(hb:PE X b tb)(hm:behindInMarks op b=false):PT X (.Compare a [op] [b] pos) (Zq3 (tOp r ta tb)):=by
 intro pins s σ H Q I h
 refine wpAny_isTrue_Compare1 (thn (ha pins s σ H _ I h) fun v s1 ⟨x,H1,I1,r1,q1⟩=>thn (hb pins s1 σ H1 _ I1 q1) fun u s2 ⟨y,H2,I2,r2,q2⟩=>
  thn (ho pins s2 σ H2 x y v u _ I2 r1 r2 q2) fun c s3 ⟨z,H3,I3,r3,k,e,q3⟩=>?_) hm
 subst e
 cases r3
 exact wpAny_truthy_bool ⟨H3,I3,q3⟩
def tChain(r r':R2)(ta tb tc:TE):TE:=fun σ H Q=>ta σ H fun x H1=>tb σ H1 fun y H2=>r x y H2 fun z H3=>∃k,z=.bl k ∧
 (if k=true then tc σ H3 fun w' H4=>r' y w' H4 Q else Q (.bl false) H3)
def ZrU(K:PySem.W.Frag)(x:V)(H:Hp)(k:Bool):Prop :=
 match x with
 | .non=>k=false
 | .bl b=>k=b
 | .int i=>k=(i != 0)
 | .str y=>y.length≤sizeLine∧k=((y.length:Int) != 0)
 | .byt y=>y.size≤sizeLine∧k=((y.size:Int) != 0)
 | .ref p=>(∃xs,SqL K H p xs∧k = !xs.isEmpty)∨(∃xs,SqT K H p xs∧k = !xs.isEmpty)∨∃kvs,H p=some (.dK kvs)∧k = !kvs.isEmpty
 | _=>False
theorem ZeJ:(sizeLine:Nat)<2 ^ 63:=by rw[sizeLine_eq];decide
theorem Zfi:OpR X (binaryOp .Add) (fun x y H Q=>∃i j,x=.str i∧y=.str j∧i.length+j.length≤sizeLine∧Q (.str (i++j)) H):=by
 intro pins s σ H x y v u Q I rx ry h
 obtain⟨i,j,rfl,rfl,hz,q⟩:=h
 obtain⟨t,rfl⟩:=rx
 obtain⟨t',rfl⟩:=ry
 exact add_str (fun t' tk=>⟨.str (i++j),H,I.tok _,⟨_,rfl⟩,q⟩) hz
def PlainIxT(b:Expr):Prop:=∀o i,subscripted b false o i=operate [o,i] (getItem o i)
theorem ZdA{x:V}{us:List Value}(r:Zy [x] us):∃u,us=[u]∧ZD x u:=by
 cases r with
 | cons r1 r2=>cases r2;exact⟨_,rfl,r1⟩
theorem Zl6{x y:V}{us:List Value}(r:Zy [x,y] us):∃u w',us=[u,w']∧ZD x u∧ZD y w':=by
 cases r with
 | cons r1 r2 =>
  cases r2 with
  | cons r3 r4=>cases r4;exact⟨_,_,rfl,r1,r3⟩
theorem ZhS:Za2 X (.builtin "abs") (fun xs H Q=>∃i,xs=[.int i]∧Q (.int (if i<0 then -i else i)) H):=by
 intro pins s σ H xs us Q I r h
 obtain⟨i,rfl,q⟩:=h
 obtain⟨u,rfl,t,rfl⟩:=ZdA r
 exact call_abs_int fun u tk=>⟨.int (if i<0 then -i else i),H,I.tok _,⟨_,rfl⟩,q⟩
theorem Zku(hc:X.calm=true):Za2 X (.builtin "max") (fun xs H Q=>∃i j,xs=[.int i,.int j]∧Q (.int (if j>i then j else i)) H):=by
 intro pins s σ H xs us Q I r h
 obtain⟨i,j,rfl,q⟩:=h
 obtain⟨u,w',rfl,⟨t,rfl⟩,⟨t',rfl⟩⟩:=Zl6 r
 refine max_two_ints (I.ok.hd hc) fun h' tk k=>⟨_,H,I.kept k,?_,q⟩
 by_cases hj:j>i
 ·rw[if_pos hj,if_pos hj];exact⟨_,rfl⟩
 ·rw[if_neg hj,if_neg hj];exact⟨_,rfl⟩
theorem ZeD(hc:X.calm=true):Za2 X (.builtin "min") (fun xs H Q=>∃i j,xs=[.int i,.int j]∧Q (.int (if j<i then j else i)) H):=by
 intro pins s σ H xs us Q I r h
 obtain⟨i,j,rfl,q⟩:=h
 obtain⟨u,w',rfl,⟨t,rfl⟩,⟨t',rfl⟩⟩:=Zl6 r
 refine min_two_ints (I.ok.hd hc) fun h' tk k=>⟨_,H,I.kept k,?_,q⟩
 by_cases hj:j<i
 ·rw[if_pos hj,if_pos hj];exact⟨_,rfl⟩
 ·rw[if_neg hj,if_neg hj];exact⟨_,rfl⟩
theorem ZgP:Za2 X (.type "int") (fun xs H Q=>(∃i,xs=[.int i]∧Q (.int i) H)∨∃k,xs=[.bl k]∧Q (.int (if k then 1 else 0)) H):=by
 intro pins s σ H xs us Q I r h
 rcases h with⟨i,rfl,q⟩|⟨k,rfl,q⟩
 ·obtain⟨u,rfl,t,rfl⟩:=ZdA r
  exact call_int_int ⟨.int i,H,I,⟨_,rfl⟩,q⟩
 ·obtain⟨u,rfl,r1⟩:=ZdA r
  cases r1
  exact call_int_bool ⟨.int (if k then 1 else 0),H,I.tok _,⟨_,rfl⟩,q⟩
def LenV(K:PySem.W.Frag)(x:V)(H:Hp)(n:Nat):Prop :=
 match x with
 | .str y=>y.length≤sizeLine∧n=y.length
 | .byt y=>y.size≤sizeLine∧n=y.size
 | .ref p=>(∃xs,SqL K H p xs∧n=xs.length)∨∃xs,SqT K H p xs∧n=xs.length
 | _=>False
end
structure ZiT (h:Heap) (x dx C:Addr) (mA:Str→Option Value):Prop where
 obj:h.get? x=some (PySem.W.instObj C dx)
 ns:h.Ns1 dx mA
 ne:dx≠x
theorem Zkf{h:Heap}{dx:Addr}{mA:Str→Option Value}(n:h.Ns1 dx mA):∃od,h.get? dx=some od∧∀name,PySem.W.lookIn name od=some (mA name):=by
 obtain⟨o,es,ep,ho,hd,hk,_,hm⟩:=n
 refine⟨o,ho,fun name=>?_⟩
 have e:=hm name
 unfold nsFind findBy at e
 rw[← Array.find?_toList]at e
 unfold PySem.W.lookIn
 rw[hd]
 dsimp only
 split
 ·rename_i y q
  rw[q]at e
  exact congrArg some e
 ·rename_i q
  rw[q]at e
  have a:es.toList.any (·.refKey)=false:=by
   rw[List.any_eq_false]
   intro y hy
   obtain⟨z,t,hkey⟩:=hk y (Array.mem_toList_iff.mp hy)
   simp[DictEntry.refKey,hkey]
  have a':¬ es.toList.any (·.refKey)=true:=by rw[a];exact Qt
  rw[if_neg a']
  exact congrArg some e
theorem ZiT.look{h:Heap}{x dx C:Addr}{mA:Str→Option Value}(I:ZiT h x dx C mA):∃od,PySem.W.InstAt h x (PySem.W.instObj C dx) C (some od)∧∀name,PySem.W.lookIn name od=some (mA name) :=
 let ⟨od,ho,hl⟩:=Zkf I.ns
 ⟨od,⟨I.obj,rfl,rfl,ho⟩,hl⟩
section
variable {prog:Program} {w:World} {A:Around} {E:Value→Shared→Prop} {s:Shared} {K:PySem.W.Frag} {x dx C f:Addr} {mA:Str→Option Value} {name:Str} {v:Value}
theorem Znz{expr:Bool}{Q:Value→Shared→Prop}(X:K.In s.heap)(I:ZiT s.heap x dx C mA)(hg:PySem.W.plainGet K C name=true)(hh:PySem.W.hasDictIn K C=true)
  (ha:PySem.W.findIn K (.ref C) name=some none) (hv:mA name=some v) (hv':PySem.W.handedIn v=true) (h:Q v { s with toks:=s.toks+1 }) :
  wpAny (model prog w) A (getAttr (.ref x) name expr) Q E s:=by
 obtain⟨od,J,hl⟩:=I.look
 exact PySem.W.get_value X J (PySem.W.plainGet_of hg).1 (PySem.W.findObj_own hh ha rfl (by rw[hl,hv])) hv' h
theorem Zml{pl:Sem Bool}{Q:Value×List Value→Shared→Prop}(X:K.In s.heap)(I:ZiT s.heap x dx C mA)(hg:PySem.W.plainGet K C name=true)
  (hf:PySem.W.findIn K (.ref C) name=some (some (.ref f))) (ht:PySem.W.isFn K (.ref f)=true) (hv:mA name=none) (h:Q (.ref f,[.ref x]) s) :
  wpAny (model prog w) A (getMethod (.ref x) name pl) Q E s:=by
 obtain⟨od,J,hl⟩:=I.look
 exact PySem.W.method_fn X J (PySem.W.plainGet_of hg).1 (PySem.W.plainGet_of hg).2 hf (beq_iff_eq.mp ht) (by show (PySem.W.lookIn name od).map (·.isSome)=some false;rw[hl,hv];rfl) h
theorem Zom{ns:List Str}{Q:Unit→Shared→Prop}(X:K.In s.heap)(I:ZiT s.heap x dx C mA)
  (hs:PySem.W.findIn K (.ref C) "__setattr__" = some (some (.builtin "object.__setattr__"))) (hp:PySem.W.plainOver K C=true) (ht:PySem.W.takerIn K C name=some none) (hh:PySem.W.hasDictIn K C=true)
  (hw:PySem.Within mA ns) (hsz:ns.length≤sizeLine)
  (h:∀h',ZiT h' x dx C (fun y=>if y=name then some v else mA y)→Heap.SameBut dx s.heap h'→Q () { s with heap:=h',toks:=s.toks+2 }) :
  wpAny (model prog w) A (setAttr (.ref x) name v) Q E s:=by
 obtain⟨od,J,hl⟩:=I.look
 refine PySem.W.set_plain X J hs (PySem.W.osa_open (s:={ s with toks:=s.toks+1 }) (r:=none) X J hp ht fun b=>?_)
 obtain⟨cd,hc,hd'⟩:=PySem.W.any_some hh
 have hx:s.heap.get? x=some ⟨.ref C,some dx,.plain,#[]⟩:=I.obj
 refine wpAny_bind (wpAny_pure (wpAny_bind (wpAny_bind (wpAny_loadPart hx (wpAny_bind (PySem.W.Looks.here (s:={ s with toks:=s.toks+1 }) (PySem.W.looks_clsIn X hc) ?_))))))
 rw[hd']
 refine wpAny_pure (a:=some dx) (wpAny_bind (wpAny_pure (wpAny_bind ?_)))
 refine wpAny_nsSet1 (s:={ s with toks:=s.toks+1 }) I.ns fun h' hn2 hs2=>?_
 obtain⟨oD,esD,epD,hoD,hdD,hcD⟩:=hn2.count (PySem.Within.cons name v hw)
 refine wpAny_bind (wpAny_lookBehind hoD (by rw[hdD];exact pastItsLine_dict (QM hcD (by rw[QE];omega))) ?_)
 exact wpAny_pure (h _ ⟨(hs2.2 _ (Ne.symm I.ne)).trans I.obj,hn2,I.ne⟩ hs2)
theorem Zl3{R:Result→Shared→Prop}{vs:List Value}{kw:List (Str×Value)}(X:K.In s.heap)(hm:PySem.W.makesIn K C=true)
  (hi:PySem.W.findIn K (.ref C) "__init__" = some (some (.ref f))) (hf:PySem.W.typeIn K (.ref f)=some (.type "function"))
  (h:codeAny (model prog w) (A.under (.builtin "type.__call__" ⟨.ref C::vs,kw⟩)) (.call (.ref f) ⟨.ref (s.heap.objs.size+1)::vs,kw⟩) (PySem.W.InitBack (s.heap.objs.size+1) R)
   { s with heap:=(s.heap.push PySem.W.emptyDict).push (PySem.W.instObj C s.heap.objs.size) }) :
  codeAny (model prog w) A (.call (.ref C) ⟨vs,kw⟩) R s:=by
 obtain⟨hh,g,d,t,os⟩:=s
 exact PySem.W.make_core (PySem.W.makes_of X hm) (PySem.W.looks_findIn X hi) (fun self=>PySem.W.bind_fn X self hf) (.inl rfl) h
end
def Zo(f:Str)(v:V):List (Str×V)→List (Str×V)
 | []=>[(f,v)]
 | (g,x)::r=>if g=f then (g,v)::r else (g,x)::Zo f v r
theorem Zl(f g:Str)(v:V):∀fs:List (Str×V),(Zo f v fs).lookup g=if g=f then some v else fs.lookup g
 | []=>by
  show List.lookup g [(f,v)]=_
  by_cases h:g=f
  ·have hb:(g == f)=true:=beq_iff_eq.mpr h
   simp only[List.lookup,hb,if_pos h]
  ·have hb:(g == f)=false:=beq_eq_false_iff_ne.mpr h
   simp only[List.lookup,hb,if_neg h]
 | (k,x)::r=>by
  have ih:=Zl f g v r
  rw[show Zo f v ((k,x)::r)=(if k=f then (k,v)::r else (k,x)::Zo f v r) from rfl]
  by_cases hk:k=f
  ·rw[if_pos hk]
   by_cases h:g=k
   ·have hb:(g == k)=true:=beq_iff_eq.mpr h
    simp only[List.lookup,hb,if_pos (h.trans hk)]
   ·have hb:(g == k)=false:=beq_eq_false_iff_ne.mpr h
    simp only[List.lookup,hb,if_neg (fun e:g=f=>h (e.trans hk.symm))]
  ·rw[if_neg hk]
   by_cases h:g=k
   ·have hb:(g == k)=true:=beq_iff_eq.mpr h
    simp only[List.lookup,hb,if_neg (fun e:g=f=>hk (h.symm.trans e))]
   ·have hb:(g == k)=false:=beq_eq_false_iff_ne.mpr h
    simp only[List.lookup,hb]
    exact ih
theorem ZeB(f:Str)(v:V):∀fs:List (Str×V),f∈(Zo f v fs).map (·.1)∧∀g,g∈fs.map (·.1)→g∈(Zo f v fs).map (·.1)
 | []=>⟨by simp[Zo],fun g h=>by simp at h⟩
 | (k,x)::r=>by
  obtain⟨i1,i2⟩:=ZeB f v r
  rw[show Zo f v ((k,x)::r)=(if k=f then (k,v)::r else (k,x)::Zo f v r) from rfl]
  by_cases hk:k=f
  ·rw[if_pos hk]
   subst hk
   exact⟨by simp,fun g h=>by simpa using h⟩
  ·rw[if_neg hk]
   refine⟨?_,fun g h=>?_⟩
   ·rw[Qn]
    exact Qw _ i1
   ·rw[Qn]at h ⊢
    rcases QG.mp h with e|e
    ·exact List.mem_cons.mpr (.inl e)
    ·exact Qw _ (i2 g e)
theorem ZeU(f:Str)(v:V):∀fs:List (Str×V),(Zo f v fs).length≤fs.length+1
 | []=>by simp[Zo]
 | (k,x)::r=>by
  have ih:=ZeU f v r
  rw[show Zo f v ((k,x)::r)=(if k=f then (k,v)::r else (k,x)::Zo f v r) from rfl]
  by_cases hk:k=f
  ·rw[if_pos hk,QE,QE];omega
  ·rw[if_neg hk,QE,QE];omega
theorem Zc8.some_of{v:V}{o:Option Value}(r:Zc8 (some v) o):∃u,o=some u∧ZD v u:=by
 cases o with
 | none=>exact(show False from r).elim
 | some u=>exact⟨u,rfl,r⟩
theorem Zc8.none_of{o:Option Value}(r:Zc8 none o):o=none:=by
 cases o with
 | none=>rfl
 | some u=>exact(show False from r).elim
theorem Zk0{v:V}{u:Value}(r:ZD v u):PySem.W.handedIn u=true:=by
 cases v with
 | non=>cases (show u=Value.none from r);rfl
 | bl b=>cases (show u=Value.bool b from r);rfl
 | int i=>obtain⟨t,e⟩:=(show ∃t,u=Value.int i t from r);cases e;rfl
 | str x=>obtain⟨t,e⟩:=(show ∃t,u=Value.str x t from r);cases e;rfl
 | byt b=>obtain⟨t,e⟩:=(show ∃t,u=Value.bytes b t from r);cases e;rfl
 | flt b=>obtain⟨t,e⟩:=(show ∃t,u=Value.float b t from r);cases e;rfl
 | ref a=>cases (show u=Value.ref a from r);rfl
 | ty n=>cases (show u=Value.type n from r);rfl
section
variable {P:Program} {w:World} {H H':Hp} {h h':Heap} {a C dx:Addr} {fs fs':List (Str×V)}
theorem Zfe(hok:HOk P w H h)(e:H a=some (.ins C dx fs)):∃mA,ZiT h a dx C mA∧(∀f,Zc8 (fs.lookup f) (mA f))∧PySem.Within mA (fs.map (·.1))∧fs.length≤1000∧H dx=some (.own a):=by
 obtain⟨d,z,ne,ob,mA,n,r,q⟩:=(show Zap P w H h a (.ins C dx fs) from hok a _ e)
 exact⟨mA,⟨ob,n,ne⟩,r,q,z,d⟩
end
structure Cls (K:PySem.W.Frag) (C:Addr):Prop where
 pg:PySem.W.plainGet K C Str.empty=true
 hd:PySem.W.hasDictIn K C=true
 po:PySem.W.plainOver K C=true
 sa:PySem.W.findIn K (.ref C) "__setattr__" = some (some (.builtin "object.__setattr__"))
theorem Cls.get{K:PySem.W.Frag}{C:Addr}(c:Cls K C)(f:Str):PySem.W.plainGet K C f=true:=c.pg
def Za8(K:PySem.W.Frag)(C:Addr)(f:Str):Prop:=PySem.W.findIn K (.ref C) f=some none
theorem Za8.taker{K:PySem.W.Frag}{C:Addr}{f:Str}(n:Za8 K C f):PySem.W.takerIn K C f=some none:=by
 unfold PySem.W.takerIn
 rw[show PySem.W.findIn K (.ref C) f=some none from n]
 rfl
structure Con (K:PySem.W.Frag) (C:Addr) (f:Str) (v:V) (u:Value):Prop where
 at_:PySem.W.findIn K (.ref C) f=some (some u)
 rel:ZD v u
 get:PySem.W.specialIn K u "__get__" = some none
 cp:PySem.W.copiedNames.contains f=false
structure Zmv (K:PySem.W.Frag) (C:Addr) (m:Str) (f:Addr):Prop where
 at_:PySem.W.findIn K (.ref C) m=some (some (.ref f))
 fn:PySem.W.isFn K (.ref f)=true
 kp:PySem.W.keepIn K (.ref f)=true
section
variable {X:Cx} {pins:List (Addr×Obj)} {σ:St} {H:Hp} {s:Shared} {a C dx:Addr} {fs:List (Str×V)} {f:Str} {v:V} {A:Around} {E:Value→Shared→Prop}
theorem ZfR{b:Bool}{Q:Value→Shared→Prop}(I:Inv X pins σ H s)(e:H a=some (.ins C dx fs))(c:Cls X.K C)(n:Za8 X.K C f)(l:fs.lookup f=some v)
  (h:∀u s',Inv X pins σ H s'→ZD v u→Q u s'):wpAny (model X.prog X.w) A (getAttr (.ref a) f b) Q E s:=by
 obtain⟨mA,O,r,_,_,_⟩:=Zfe I.hok e
 obtain⟨u,hu,ru⟩:=Zc8.some_of (v:=v) (o:=mA f) (by rw[← l];exact r f)
 exact Znz I.kIn O (c.get f) c.hd n hu (Zk0 ru) (h u _ (I.tok _) ru)
theorem ZfE{m:Str}{g:Addr}{pl:Sem Bool}{Q:Value×List Value→Shared→Prop}(I:Inv X pins σ H s)(e:H a=some (.ins C dx fs))(c:Cls X.K C)(k:Zmv X.K C m g)(l:fs.lookup m=none)
  (h:Q (.ref g,[.ref a]) s):wpAny (model X.prog X.w) A (getMethod (.ref a) m pl) Q E s:=by
 obtain⟨mA,O,r,_,_,_⟩:=Zfe I.hok e
 have hn:mA m=none:=Zc8.none_of (by rw[← l];exact r m)
 exact Zml I.kIn O (c.get m) k.at_ k.fn hn h
theorem ZfL{y:V}{u:Value}{Q:Unit→Shared→Prop}(I:Inv X pins σ H s)(e:H a=some (.ins C dx fs))(c:Cls X.K C)(n:Za8 X.K C f)(hl:fs.length<1000)(ry:ZD y u)
  (h:∀s',Inv X pins σ (upd H a (.ins C dx (Zo f y fs))) s'→Q () s'):wpAny (model X.prog X.w) A (setAttr (.ref a) f u) Q E s:=by
 obtain⟨mA,O,r,wi,_,ho⟩:=Zfe I.hok e
 have hz:(fs.map (·.1)).length≤sizeLine:=by rw[Qa,sizeLine_eq];omega
 refine Zom I.kIn O c.sa c.po n.taker c.hd wi hz fun h' O' sb=>h _ ?_
 have hd:∃o,h'.get? dx=some o:=let ⟨o,_,_,e',_⟩:=O'.ns;⟨o,e'⟩
 refine I.write (x:=a) (e:=dx) (by rw[e];exact True.intro) (.inr ho) (fun b q hb z=>(sb.2 b hb).trans z) hd ?_
 refine⟨by rw[Zd O.ne];exact ho,?_,O.ne,O'.obj,_,O'.ns,fun g=>?_,fun g hg=>?_⟩
 ·have:=ZeU f y fs;omega
 ·show Zc8 ((Zo f y fs).lookup g) (if g=f then some u else mA g)
  rw[Zl]
  by_cases q:g=f
  ·rw[if_pos q,if_pos q];exact ry
  ·rw[if_neg q,if_neg q];exact r g
 ·by_cases q:g=f
  ·rw[q];exact(ZeB f y fs).1
  ·refine(ZeB f y fs).2 g (wi g fun z=>hg ?_)
   show (if g=f then some u else mA g)=none
   rw[if_neg q];exact z
theorem Inv.made(I:Inv X pins σ H s):Inv X pins σ (upd (upd H s.heap.objs.size (.own (s.heap.objs.size+1))) (s.heap.objs.size+1) (.ins C s.heap.objs.size []))
  { s with heap:=(s.heap.push PySem.W.emptyDict).push (PySem.W.instObj C s.heap.objs.size) }:=by
 have e1:(s.heap.push PySem.W.emptyDict).get? s.heap.objs.size=some PySem.W.emptyDict:=QL s.heap rfl
 have e2:((s.heap.push PySem.W.emptyDict).push (PySem.W.instObj C s.heap.objs.size)).get? (s.heap.objs.size+1)=some (PySem.W.instObj C s.heap.objs.size):=by
  have:=QL (s.heap.push PySem.W.emptyDict) (o:=PySem.W.instObj C s.heap.objs.size) rfl
  rwa [Heap.size_push]at this
 have e3:(s.heap.push PySem.W.emptyDict).Ns s.heap.objs.size (fun _=>none):=⟨PySem.W.emptyDict,#[],_,e1,rfl,(fun e he=>absurd he (by simp)),fun _=>rfl⟩
 have I1:=I.laid (a:=s.heap.objs.size) (o:=.own (s.heap.objs.size+1)) (h':=s.heap.push PySem.W.emptyDict) (t':=s.toks) (fun b u q=>Qs _ q) (Qh _) ⟨_,e1⟩
 refine I1.laid (a:=s.heap.objs.size+1) (o:=.ins C s.heap.objs.size []) (t':=s.toks) (fun b u q=>Qs _ q) (Nat.le_of_eq (Heap.size_push _ _)) ?_
 have ne:s.heap.objs.size≠s.heap.objs.size+1:=QS (Nat.lt_succ_self _)
 refine⟨by rw[Zd ne,Zc],Qv _,ne,e2,fun _=>none,(Heap.Ns1.of_empty e3).at fun o q=>Qs _ q,fun _=>True.intro,fun y hy=>absurd rfl hy⟩
theorem Znm{prog:Program}{w:World}{env:Env}{e:Expr}{f:Str}{pos:Pos}{s:Shared}{Q:Value→Shared→Prop}(hb:attributeBase e f env (eval e env)=eval e env)
  (h:wpAny (model prog w) A (eval e env) (fun o s₁=>wpAny (model prog w) A (getAttr o f true) Q E s₁) E s):wpAny (model prog w) A (eval (.Attribute e f pos) env) Q E s :=
 Attribute_any_ h (by rw[arm_eval_Attribute,hb])
end
def ZrM(K:PySem.W.Frag)(ta:TE)(f:Str):TE:=fun σ H Q=>ta σ H fun x H1=>∃a C dx fs v,x=.ref a∧H1 a=some (.ins C dx fs)∧Cls K C∧Za8 K C f∧fs.lookup f=some v∧Q v H1
def tCon(K:PySem.W.Frag)(ta:TE)(f:Str):TE:=fun σ H Q=>ta σ H fun x H1=>∃a C dx fs v u,x=.ref a∧H1 a=some (.ins C dx fs)∧Cls K C∧Con K C f v u∧fs.lookup f=none∧Q v H1
def Zrm(K:PySem.W.Frag)(ta tv:TE)(f:Str):TS:=fun D σ H=>tv σ H fun y H1=>ta σ H1 fun x H2=>∃a C dx fs,x=.ref a∧H2 a=some (.ins C dx fs)∧Cls K C∧Za8 K C f∧fs.length<1000 ∧
 D.nx σ (upd H2 a (.ins C dx (Zo f y fs)))
def Zqs(X:Cx)(op:Operator)(rd:V→V→Hp→VK→Prop):Prop :=
 ∀ (pins:List (Addr×Obj)) (s:Shared) (σ:St) (H:Hp) (x y:V) (u v:Value) (Q:VK),Inv X pins σ H s→ZD x u→ZD y v→rd x y H Q→wpAny (model X.prog X.w) X.A (inplaceOp op u v) (EP X pins σ Q) X.xe s
def Zoq(K:PySem.W.Frag)(ta tv:TE)(rd:V→V→Hp→VK→Prop)(f:Str):TS:=fun D σ H=>ta σ H fun x H1=>∃a C dx fs v,x=.ref a∧H1 a=some (.ins C dx fs)∧Cls K C∧Za8 K C f∧fs.lookup f=some v ∧
 tv σ H1 fun y H2=>rd v y H2 fun z H3=>∃dx' fs',H3 a=some (.ins C dx' fs')∧fs'.length<1000∧D.nx σ (upd H3 a (.ins C dx' (Zo f z fs')))
section
variable {X:Cx} {o e value:Expr} {f:Str} {pos pos' tpos:Pos} {ta tv:TE}
theorem Z8(he:PE X e ta)(hb:attributeBase e f X.env (eval e X.env)=eval e X.env):PE X (.Attribute e f pos) (ZrM X.K ta f):=by
 intro pins s σ H Q I h
 refine Znm hb (thn (he pins s σ H _ I h) ?_)
 rintro u s1 ⟨x,H1,I1,rx,a,C,dx,fs,v,ex,ea,c,n,l,q⟩
 subst ex
 obtain rfl:u=Value.ref a:=rx
 exact ZfR I1 ea c n l fun u' s2 I2 ru=>⟨v,H1,I2,ru,q⟩
theorem ZbO(ha:PE X o ta)(hv:PE X value tv)(hs:swapsWith value (some (.Attribute o f pos')) pos.line X.env=pure false):PS X (.Assign [.Attribute o f pos'] value pos) (Zrm X.K ta tv f):=by
 intro pins s σ H D I h
 refine plainObj_wpAny_Assign_Attribute (thn (hv pins s σ H _ I h) fun u s1 ⟨y,H1,I1,ry,q⟩=>thn (ha pins s1 σ H1 _ I1 q) ?_) hs
 rintro ov s2 ⟨x,H2,I2,rx,a,C,dx,fs,ex,ea,c,n,l,q2⟩
 subst ex
 obtain rfl:ov=Value.ref a:=rx
 exact ZfL I2 ea c n l ry fun s3 I3=>⟨σ,_,I3,q2⟩
theorem ZdF{op:Operator}{rd:V→V→Hp→VK→Prop}(ha:PE X o ta)(hv:PE X value tv)(hop:Zqs X op rd):PS X (.AugAssign (.Attribute o f tpos) op value pos) (Zoq X.K ta tv rd f):=by
 intro pins s σ H D I h
 refine wpAny_AugAssign_AttributeAny (thn (ha pins s σ H _ I h) ?_)
 rintro ov s1 ⟨x,H1,I1,rx,a,C,dx,fs,v,ex,ea,c,n,l,q⟩
 subst ex
 obtain rfl:ov=Value.ref a:=rx
 refine ZfR I1 ea c n l fun u s2 I2 ru=>thn (hv pins s2 σ H1 _ I2 q) fun w3 s3 ⟨y,H2,I3,ry,q3⟩=>thn (hop pins s3 σ H2 v y u w3 _ I3 ru ry q3) ?_
 rintro w4 s4 ⟨z,H3,I4,rz,dx',fs',ea',l',q4⟩
 exact ZfL I4 ea' c n l' rz fun s5 I5=>⟨σ,_,I5,q4⟩
def Zrn:V→V→Hp→VK→Prop:=fun x y H Q=>∃i j,x=.int i∧y=.int j∧Q (.int (i+j)) H
def rSub:V→V→Hp→VK→Prop:=fun x y H Q=>∃i j,x=.int i∧y=.int j∧Q (.int (i-j)) H
theorem Zht:Zqs X .Add Zrn:=by
 rintro pins s σ H x y u v Q I rx ry ⟨i,j,rfl,rfl,q⟩
 obtain⟨t,rfl⟩:=(show ∃t,u=Value.int i t from rx)
 obtain⟨t',rfl⟩:=(show ∃t',v=Value.int j t' from ry)
 exact PyProof.Rows.iadd_int ⟨.int (i+j),H,I.tok _,⟨_,rfl⟩,q⟩
end
section
variable {X:Cx} {pins:List (Addr×Obj)} {σ:St} {H:Hp} {s:Shared} {A:Around} {E:Value→Shared→Prop} {Q:Value→Shared→Prop} {c:Value} {b:Bool}
inductive Zel (K:PySem.W.Frag) (H:Hp):V→Value→Prop where
 | non:Zel K H .non (.type "NoneType")
 | bl (x:Bool):Zel K H (.bl x) (.type "bool")
 | int (i:Int):Zel K H (.int i) (.type "int")
 | str (x:Str):Zel K H (.str x) (.type "str")
 | flt (x:UInt64):Zel K H (.flt x) (.type "float")
 | lst {a:Addr} {xs:List V} (e:H a=some (.lst xs)):Zel K H (.ref a) (.type "list")
 | frz {a:Addr} {o:Obj} {xs:List V} (e:H a=some (.frz o (.lst xs))):Zel K H (.ref a) (.type "list")
 | tup {a:Addr} {xs:List V} (e:H a=some (.tup xs)):Zel K H (.ref a) (.type "tuple")
 | dK {a:Addr} {kvs:List (Key×V)} (e:H a=some (.dK kvs)):Zel K H (.ref a) (.type "dict")
 | dT {a:Addr} {kvs:List (List Key×V)} (e:H a=some (.dT kvs)):Zel K H (.ref a) (.type "dict")
 | ins {a C dx:Addr} {fs:List (Str×V)} (e:H a=some (.ins C dx fs)) (cl:Cls K C) (ha:PySem.W.findIn K (.ref C) "__class__" = some (some (.builtin "object.__class__")))
   (hn:PySem.W.specialIn K (.builtin "object.__class__") "__get__" = some (some (.builtin "getset_descriptor.__get__"))) (htk:PySem.W.takesIn K (.builtin "object.__class__")=some true)
   (hm:PySem.W.mroIn K C (.type "object")=some true):Zel K H (.ref a) (.ref C)
theorem ZkJ{x:V}{u t:Value}(I:Inv X pins σ H s)(rx:ZD x u)(ty:Zel X.K H x t)(e:PySem.W.kitOne X.K t c=some b)(h:∀tk,Q (.bool b) { s with toks:=tk }) :
  wpAny (model X.prog X.w) A (call (.builtin "isinstance") [u,c]) Q E s:=by
 cases ty with
 | non=>cases (show u=Value.none from rx);exact Q3 PySem.W.kitx_none I.kIn True.intro e (fun z=>nomatch z) h
 | bl y=>cases (show u=Value.bool y from rx);exact Q3 PySem.W.kitx_bool I.kIn True.intro e (fun z=>nomatch z) h
 | int i=>obtain⟨t,q⟩:=(show ∃t,u=Value.int i t from rx);cases q;exact Q3 PySem.W.kitx_int I.kIn True.intro e (fun z=>nomatch z) h
 | str y=>obtain⟨t,q⟩:=(show ∃t,u=Value.str y t from rx);cases q;exact Q3 PySem.W.kitx_str I.kIn True.intro e (fun z=>nomatch z) h
 | flt y=>obtain⟨t,q⟩:=(show ∃t,u=Value.float y t from rx);cases q;exact Q3 PySem.W.kitx_float I.kIn True.intro e (fun z=>nomatch z) h
 | @lst a xs ea =>
  cases (show u=Value.ref a from rx)
  obtain⟨_,_,n,_,h1⟩:=(show Zap X.prog X.w H s.heap a (.lst xs) from I.hok a _ ea)
  exact Q3 PySem.W.kitx_list I.kIn ⟨_,h1,rfl⟩ e (fun z=>nomatch z) h
 | @frz a ob xs ea =>
  cases (show u=Value.ref a from rx)
  obtain⟨_,_,_,n,_,h1⟩:=(show Zap X.prog X.w H s.heap a (.frz ob (.lst xs)) from I.hok a _ ea)
  exact Q3 PySem.W.kitx_list I.kIn ⟨_,h1,rfl⟩ e (fun z=>nomatch z) h
 | @tup a xs ea =>
  cases (show u=Value.ref a from rx)
  obtain⟨_,_,_,p⟩:=(show Zap X.prog X.w H s.heap a (.tup xs) from I.hok a _ ea)
  obtain⟨o,h1,h2,_⟩:=p
  exact Q3 PySem.W.kitx_tuple I.kIn ⟨o,h1,h2⟩ e (fun z=>nomatch z) h
 | @dK a kvs ea =>
  cases (show u=Value.ref a from rx)
  obtain⟨_,_,vs,_,p⟩:=(show Zap X.prog X.w H s.heap a (.dK kvs) from I.hok a _ ea)
  obtain⟨o,es,ep,h1,h2,_⟩:=p
  exact Q3 PySem.W.kitx_dict I.kIn ⟨o,h1,h2.1⟩ e (fun z=>nomatch z) h
 | @dT a kvs ea =>
  cases (show u=Value.ref a from rx)
  obtain⟨_,_,xs,_,o,es,ep,h1,h2,_⟩:=(show Zap X.prog X.w H s.heap a (.dT kvs) from I.hok a _ ea)
  exact Q3 PySem.W.kitx_dict I.kIn ⟨o,h1,h2.1⟩ e (fun z=>nomatch z) h
 | @ins a C dx fs ea cl ha hn htk hm =>
  cases (show u=Value.ref a from rx)
  obtain⟨mA,O,_⟩:=Zfe I.hok ea
  obtain⟨od,J,_⟩:=O.look
  exact Q3 (PySem.W.kitx_own (cl.get _) cl.hd ha hn htk hm) I.kIn J e (fun z=>nomatch z) h
end
structure ZaG (k:Nat) (A:Around):Prop where
 hd:A.handled=none
 dp:A.depth+3*k+5<recursionLimit
 un:A.units+16*k+200<cLine
 gd:A.guards=some []
theorem ZaG.mono{j k:Nat}{A:Around}(r:ZaG k A)(h:j≤k):ZaG j A:=⟨r.hd,by have:=r.dp;omega,by have:=r.un;omega,r.gd⟩
theorem ZaG.deeper{k:Nat}{A:Around}(r:ZaG (k+1) A)(env:Env):ZaG k (A.deeper env) :=
 ⟨r.hd,by have:=r.dp;show A.depth+1+3*k+5<_;omega,by have:=r.un;show A.units+3+16*k+200<_;omega,r.gd⟩
theorem ZiY{A:Around}{C:Addr}{us:List Value}{kw:List (Str×Value)}:(A.under (.builtin "type.__call__" ⟨.ref C::us,kw⟩)).depth=A.depth+1:=by
 first|rfl|simp[Around.under,Code.weight,Code.isCreation,Code.isGuard,Code.isCaller,Code.frames,Code.isFrame,guardIds]
theorem ZiB{A:Around}{C:Addr}{us:List Value}{kw:List (Str×Value)}:(A.under (.builtin "type.__call__" ⟨.ref C::us,kw⟩)).units=A.units+1:=by
 first|rfl|simp[Around.under,Code.cUnits,Code.frames,Code.isFrame]
theorem ZaG.make{k:Nat}{A:Around}(r:ZaG (k+1) A)(C:Addr)(us:List Value)(kw:List (Str×Value)):ZaG k (A.under (.builtin "type.__call__" ⟨.ref C::us,kw⟩)) :=
 ⟨r.hd,by have:=r.dp;rw[ZiY];omega,by have:=r.un;rw[ZiB];omega,by rw[show (A.under (.builtin "type.__call__" ⟨.ref C::us,kw⟩)).guards=A.guards from by first|rfl|simp[Around.under,pushGuards,Code.guards,Code.isGuard,guardIds]];exact r.gd⟩
theorem ZaG.depth{k:Nat}{A:Around}(r:ZaG k A):A.depth<recursionLimit:=by have:=r.dp;omega
theorem ZaG.units{k:Nat}{A:Around}(r:ZaG k A):A.units+64<cLine:=by have:=r.un;omega
def Zo5:TA:=fun _ H Q=>Q [] H
def Zrc(ta:TE)(tr:TA):TA:=fun σ H Q=>ta σ H fun x H1=>tr σ H1 fun xs H2=>Q (x::xs) H2
section
variable {X:Cx} {e:Expr} {es:List Expr} {te:TE} {t:TA} {pos:Pos}
theorem Ze:PA X [] Zo5:=fun _ _ _ _ H Q I h=>Calls.spliced_nil ⟨[],H,I,.nil,h⟩
theorem Za(ha:PE X e te)(hr:PA X es t)(hs:starEach (e::es) X.env=(false,eval e X.env)::starEach es X.env:=by rfl):PA X (e::es) (Zrc te t):=by
 intro pos pins s σ H Q I h
 rw[hs]
 show wpAny _ _ (spliced ((false,eval e X.env)::backTo pos (starEach es X.env))) _ _ s
 refine Calls.spliced_cons (thn (ha pins s σ H _ I h) ?_)
 rintro u s1 ⟨x,H1,I1,r1,q1⟩
 exact thn (hr pos pins s1 σ H1 _ I1 q1) fun us s2 ⟨xs,H2,I2,r2,q2⟩=>⟨x::xs,H2,I2,.cons r1 r2,q2⟩
def ZrD(t:TA):TE:=fun σ H Q=>t σ H fun xs H1=>xs.length≤sizeLine∧∀p,H1 p=none→Q (.ref p) (upd H1 p (.tup xs))
def Zrk(t:TA):TE:=fun σ H Q=>t σ H fun xs H1=>xs.length≤sizeLine∧∀p,H1 p=none→Q (.ref p) (upd H1 p (.lst xs))
theorem ZU{x1}(h:PA X es t):PE X (.Tuple es x1 pos) (ZrD t):=by
 intro pins s σ H Q I hq
 refine wpAny_Tuple_spliced (thn (h pos pins s σ H _ I hq) fun us s1 ⟨xs,H1,I1,r,z,q⟩=>⟨by rw[← r.length];exact z,?_⟩)
 have hf:H1 s1.heap.objs.size=none:=I1.hok.fresh (Qh _)
 refine⟨.ref s1.heap.objs.size,upd H1 s1.heap.objs.size (.tup xs),I1.laid (t':=s1.toks) (fun b u e=>Qs _ e) (Qh _) ?_,rfl,q _ hf⟩
 exact⟨z,us,r,⟨_,QL _ rfl,rfl,_,rfl⟩⟩
theorem Za9(h:PA X es t):PE X (.List es pos) (Zrk t):=by
 intro pins s σ H Q I hq
 refine wpAny_List_spliced (thn (h pos pins s σ H _ I hq) fun us s1 ⟨xs,H1,I1,r,z,q⟩=>⟨by rw[← r.length];exact z,?_⟩)
 have hf:H1 s1.heap.objs.size=none:=I1.hok.fresh (Qh _)
 refine⟨.ref s1.heap.objs.size,upd H1 s1.heap.objs.size (.lst xs),I1.laid (t':=s1.toks) (fun b u e=>Qs _ e) (Qh _) ?_,rfl,q _ hf⟩
 exact⟨z,us,0,r,QL _ rfl⟩
end
abbrev Sp:=List V→Hp→VK→XK→Prop
abbrev CXT:=List Env→Hp→Shared→XK→Value→Shared→Prop
structure ZiD (P:Program) (w:World) (K:PySem.W.Frag) (mg:Str→Option Value) (base:Heap) (A:Around) (outer:List Env) (s:Shared) (H:Hp):Prop where
 frames:A.frames=some outer
 mod:Mod K mg base
 bs:∀b o,base.get? b=some o→s.heap.get? b=some o∧H b=none
 bsz:base.objs.size≤s.heap.objs.size
 funs:s.heap.FunFrames base outer
 frf:∀b∈frs outer,H b=none
 hok:HOk P w H s.heap
 bare:AllBare s.gens
def CE(outer:List Env)(P:Program)(w:World)(H:Hp)(s:Shared)(Q:VK)(u:Value)(s':Shared):Prop :=
 ∃v H',s'.os=s.os∧AllBare s'.gens∧Un (frs outer) [] H H' s.heap s'.heap∧HOk P w H' s'.heap∧ZD v u∧Q v H'
def CR(CX:CXT)(outer:List Env)(P:Program)(w:World)(H:Hp)(s:Shared)(Q:VK)(E:XK)(r:Result)(s':Shared):Prop :=
 match r with
 | .ok (.ret u)=>CE outer P w H s Q u s'
 | .ok _=>False
 | .error e=>CX outer H s E e s'
structure ZdT (P:Program) (w:World) (K:PySem.W.Frag) (mg:Str→Option Value) (base:Heap) (CX:CXT) (k:Nat) (f:Addr) (fd:FuncData) (ps:List Str) (sp:Sp):Prop where
 len:∀vs H Q E,sp vs H Q E→vs.length=ps.length
 run:∀ (A:Around) (outer:List Env) (s:Shared) (H:Hp) (args:Args) (us:List Value) (vs:List V) (Q:VK) (E:XK),ZaG k A→ZiD P w K mg base A outer s H→BindsTo s fd args (ps.zip us)→Zy vs us→sp vs H Q E →
  codeAny (model P w) A (.call (.ref f) args) (CR CX outer P w H s Q E) s
theorem ZiD.make{P:Program}{w:World}{K:PySem.W.Frag}{mg:Str→Option Value}{base:Heap}{A:Around}{outer:List Env}{s:Shared}{H:Hp}(e:ZiD P w K mg base A outer s H)(C:Addr)(us:List Value)(kw:List (Str×Value)) :
  ZiD P w K mg base (A.under (.builtin "type.__call__" ⟨.ref C::us,kw⟩)) outer s H:=⟨by first|exact e.frames|(simpa [Around.under,Code.envs,Code.isFrame,pushEnvs] using e.frames),e.mod,e.bs,e.bsz,e.funs,e.frf,e.hok,e.bare⟩
section
variable {X:Cx} {pins:List (Addr×Obj)} {σ:St} {H:Hp} {s s':Shared}
theorem Inv.env0(I:Inv X pins σ H s):ZiD X.prog X.w X.K X.mg X.base X.A X.stack s H :=
 ⟨I.ok.frames,I.ok.mod,I.bs,QM I.ok.bsz I.sz,I.stack,I.stkFree,I.hok,I.bare⟩
theorem Inv.after{Q:VK}{u:Value}(I:Inv X pins σ H s)(h:CE X.stack X.prog X.w H s Q u s'):EP X pins σ Q u s':=by
 obtain⟨v,H',os,bare,un,hok,r,q⟩:=h
 obtain⟨hh,g,d,t,os'⟩:=s'
 obtain rfl:os'=s.os:=os
 exact⟨v,H',I.call (h':=hh) (g':=g) (d':=d) (t':=t) (ch:=[]) un hok bare (fun b z=>absurd z (by simp)),r,q⟩
end
def ZoD(sp:Sp)(dvs:List V)(E:XK)(t:TA):TE:=fun σ H Q=>t σ H fun vs H1=>sp (vs++dvs) H1 Q E
def ZjA(C:Addr)(m:Str)(sp:Sp)(dvs:List V)(E:XK)(ta:TE)(t:TA):TE:=fun σ H Q=>ta σ H fun x H1=>∃a dx fs,x=.ref a∧H1 a=some (.ins C dx fs)∧fs.lookup m=none ∧
 t σ H1 fun vs H2=>sp (x::(vs++dvs)) H2 Q E
def ZoI(C:Addr)(sp:Sp)(dvs:List V)(E:XK)(t:TA):TE:=fun σ H Q=>t σ H fun vs H1=>∀x dx,H1 x=none→H1 dx=none→dx≠x →
 sp (.ref x::(vs++dvs)) (upd (upd H1 dx (.own x)) x (.ins C dx [])) (fun v H2=>v=.non∧Q (.ref x) H2) E
def Zb6(K:PySem.W.Frag)(fd:FuncData)(ps:List Str)(ds:List Value):Prop :=
 ∀ (s:Shared) (us:List Value),K.In s.heap→(us++ds).length=ps.length→BindsTo s fd ⟨us,[]⟩ (ps.zip (us++ds))
theorem Zb6.all{K:PySem.W.Frag}{fd:FuncData}{ps:List Str}(h:∀us:List Value,us.length=ps.length→bindArgs fd ⟨us,[]⟩=pure (ps.zip us)):Zb6 K fd ps []:=fun s us _ hl=>by
 rw[QI]at hl ⊢
 exact .of_eq (h us hl)
def Zd5(CX:CXT)(X:Cx)(E:XK):Prop:=∀ (pins:List (Addr×Obj)) (σ:St) (H:Hp) (s:Shared) (e:Value) (s':Shared),Inv X pins σ H s→CX X.stack H s E e s'→X.xe e s'
section
variable {X:Cx} {CX:CXT} {k:Nat} {f C:Addr} {fd:FuncData} {ps:List Str} {sp:Sp} {dvs:List V} {ds:List Value} {E:XK} {x m:Str} {p pos apos:Pos} {e o:Expr} {es:List Expr} {ta:TE} {t:TA}
theorem Ziw{pins:List (Addr×Obj)}{σ:St}{H:Hp}{s:Shared}{Q:VK}{us:List Value}{vs:List V}(F:ZdT X.prog X.w X.K X.mg X.base CX k f fd ps sp)(hr:ZaG k X.A)(hb:Zb6 X.K fd ps ds)(hd:Zy dvs ds)(hx:Zd5 CX X E)
  (I:Inv X pins σ H s) (r:Zy vs us) (h:sp (vs++dvs) H Q E):wpAny (model X.prog X.w) X.A (call (.ref f) us) (EP X pins σ Q) X.xe s:=by
 have r2:Zy (vs++dvs) (us++ds):=r.append hd
 have hl:(us++ds).length=ps.length:=by rw[← r2.length];exact F.len _ _ _ _ h
 refine wpAny_call (codeAny_mono (F.run X.A X.stack s H ⟨us,[]⟩ (us++ds) (vs++dvs) Q E hr I.env0 (hb s us I.kIn hl) r2 h) fun r s' hq=>?_)
 cases r with
 | error e=>exact hx pins σ H s e s' I hq
 | ok fl =>
  cases fl with
  | ret u=>exact I.after hq
  | next=>exact False.elim hq
  | brk=>exact False.elim hq
  | cont=>exact False.elim hq
theorem Zn6(F:ZdT X.prog X.w X.K X.mg X.base CX k f fd ps sp)(hr:ZaG k X.A)(hg:Gl X x)(hm:X.mg x=some (.ref f))(hk:PySem.W.keepIn X.K (.ref f)=true)(hb:Zb6 X.K fd ps ds)(hd:Zy dvs ds)(hx:Zd5 CX X E)
  (ha:PA X (e::es) t) (hdb:(x == ("__debug__" : Str))=false:=by decide) (he:starEach (e::es) X.env=(false,eval e X.env)::starEach es X.env:=by rfl) (hpl:(backTo pos (starEach es X.env)).any (·.1)=false:=by rfl) :
  PE X (.Call (.Name x p) (e::es) [] pos) (ZoD sp dvs E t):=by
 intro pins s σ H Q I h
 refine wpAny_Call_Name_kw (Zjg I hg hm ?_ hdb)
 refine PySem.W.callWith_K (h₀:=X.base) I.ok.mod.kin hk (thn (ha pos pins s σ H _ I h) fun us s1 ⟨vs,H1,I1,r,q⟩=>⟨I1.kIn,?_⟩) he hpl
 exact Ziw F hr hb hd hx I1 r q
theorem Zot{pl:Sem Bool}(he:PE X o ta)(c:Cls X.K C)(hm:Zmv X.K C m f)(F:ZdT X.prog X.w X.K X.mg X.base CX k f fd ps sp)(hr:ZaG k X.A)(hb:Zb6 X.K fd ps ds)(hd:Zy dvs ds)(hx:Zd5 CX X E)(ha:PA X (e::es) t)
  (hst:starEach (e::es) X.env=(false,eval e X.env)::starEach es X.env:=by rfl) (hpl:(backTo pos (starEach es X.env)).any (·.1)=false:=by rfl)
  (ht:eval (.Call (.Attribute o m apos) (e::es) [] pos) X.env=(do
   let ov ← eval o X.env
   standAt apos.atName
   let (f,first) ← holding [ov] (getMethod ov m pl)
   callWith pos f first (backTo pos (starEach (e::es) X.env)) (backToKw pos (keywordEach [] X.env))):=by rfl) :
  PE X (.Call (.Attribute o m apos) (e::es) [] pos) (ZjA C m sp dvs E ta t):=by
 intro pins s σ H Q I h
 refine PySem.W.methodCall_KW (pl:=pl) (thn (he pins s σ H _ I h) ?_) ht
 rintro u s1 ⟨x,H1,I1,rx,a,dx,fs,ex,ea,l,q⟩
 subst ex
 obtain rfl:u=Value.ref a:=rx
 refine ZfE I1 ea c hm l ?_
 refine PySem.W.callWith_K (first:=[.ref a]) (h₀:=X.base) I.ok.mod.kin hm.kp (thn (ha pos pins s1 σ H1 _ I1 q) fun us s2 ⟨vs,H2,I2,r,q2⟩=>⟨I2.kIn,?_⟩) hst hpl
 exact Ziw (us:=.ref a::us) (vs:=.ref a::vs) F hr hb hd hx I2 (.cons rfl r) q2
theorem Zna{pl:Sem Bool}(he:PE X o ta)(c:Cls X.K C)(hm:Zmv X.K C m f)(F:ZdT X.prog X.w X.K X.mg X.base CX k f fd ps sp)(hr:ZaG k X.A)(hb:Zb6 X.K fd ps ds)(hd:Zy dvs ds)(hx:Zd5 CX X E)
  (ht:eval (.Call (.Attribute o m apos) [] [] pos) X.env=(do
   let ov ← eval o X.env
   standAt apos.atName
   let (f,first) ← holding [ov] (getMethod ov m pl)
   callWith pos f first (backTo pos (starEach [] X.env)) (backToKw pos (keywordEach [] X.env))):=by rfl) :
  PE X (.Call (.Attribute o m apos) [] [] pos) (ZjA C m sp dvs E ta Zo5):=by
 intro pins s σ H Q I h
 refine PySem.W.methodCall_KW (pl:=pl) (thn (he pins s σ H _ I h) ?_) ht
 rintro u s1 ⟨x,H1,I1,rx,a,dx,fs,ex,ea,l,q⟩
 subst ex
 obtain rfl:u=Value.ref a:=rx
 refine ZfE I1 ea c hm l ?_
 exact PySem.W.callWith_K0 (first:=[.ref a]) I1.kIn hm.kp (Ziw (us:=[.ref a]) (vs:=[.ref a]) F hr hb hd hx I1 (.cons rfl .nil) q)
structure Mk (K:PySem.W.Frag) (C f:Addr):Prop where
 makes:PySem.W.makesIn K C=true
 init:PySem.W.findIn K (.ref C) "__init__" = some (some (.ref f))
 fn:PySem.W.isFn K (.ref f)=true
 kp:PySem.W.keepIn K (.ref C)=true
theorem ZmA{pins:List (Addr×Obj)}{σ:St}{H:Hp}{s:Shared}{Q:VK}{us:List Value}{vs:List V}(M:Mk X.K C f)(F:ZdT X.prog X.w X.K X.mg X.base CX k f fd ps sp)(hr:ZaG (k+1) X.A)(hb:Zb6 X.K fd ps ds)(hd:Zy dvs ds)
  (hx:Zd5 CX X E) (I:Inv X pins σ H s) (r:Zy vs us)
  (h:∀x dx,H x=none→H dx=none→dx≠x→sp (.ref x::(vs++dvs)) (upd (upd H dx (.own x)) x (.ins C dx [])) (fun v H2=>v=.non∧Q (.ref x) H2) E) :
  wpAny (model X.prog X.w) X.A (call (.ref C) us) (EP X pins σ Q) X.xe s:=by
 have hq:=h (s.heap.objs.size+1) s.heap.objs.size (I.hok.fresh (QaD _)) (I.hok.fresh (Qh _)) (QS (Nat.lt_succ_self _))
 have I2:=Inv.made (C:=C) I
 have r2:Zy (V.ref (s.heap.objs.size+1)::(vs++dvs)) (Value.ref (s.heap.objs.size+1)::(us++ds)):=.cons rfl (r.append hd)
 have hl:(Value.ref (s.heap.objs.size+1)::us++ds).length=ps.length:=by
  have e:=r2.length
  rw[F.len _ _ _ _ hq]at e
  exact e.symm
 refine wpAny_call (Zl3 (f:=f) I.kIn M.makes M.init (beq_iff_eq.mp M.fn) (codeAny_mono (F.run _ X.stack _ _ ⟨Value.ref (s.heap.objs.size+1)::us,[]⟩ (Value.ref (s.heap.objs.size+1)::(us++ds)) _ _ E (hr.make C us [])
  (I2.env0.make C us []) (hb _ (Value.ref (s.heap.objs.size+1)::us) I2.kIn hl) r2 hq) fun r s' hq'=>?_))
 cases r with
 | error e=>exact hx pins σ _ _ e s' I2 hq'
 | ok fl =>
  cases fl with
  | ret u =>
   obtain⟨v,H',I3,rv,ev,q3⟩:=I2.after hq'
   subst ev
   exact⟨rv,⟨V.ref (s.heap.objs.size+1),H',I3,rfl,q3⟩⟩
  | next=>exact False.elim hq'
  | brk=>exact False.elim hq'
  | cont=>exact False.elim hq'
theorem Zof(M:Mk X.K C f)(F:ZdT X.prog X.w X.K X.mg X.base CX k f fd ps sp)(hr:ZaG (k+1) X.A)(hg:Gl X x)(hm:X.mg x=some (.ref C))(hb:Zb6 X.K fd ps ds)(hd:Zy dvs ds)(hx:Zd5 CX X E)
  (ha:PA X (e::es) t) (hdb:(x == ("__debug__" : Str))=false:=by decide) (he:starEach (e::es) X.env=(false,eval e X.env)::starEach es X.env:=by rfl) (hpl:(backTo pos (starEach es X.env)).any (·.1)=false:=by rfl) :
  PE X (.Call (.Name x p) (e::es) [] pos) (ZoI C sp dvs E t):=by
 intro pins s σ H Q I h
 refine wpAny_Call_Name_kw (Zjg I hg hm ?_ hdb)
 refine PySem.W.callWith_K (h₀:=X.base) I.ok.mod.kin M.kp (thn (ha pos pins s σ H _ I h) fun us s1 ⟨vs,H1,I1,r,q⟩=>⟨I1.kIn,?_⟩) he hpl
 exact ZmA M F hr hb hd hx I1 r q
end
def PK(X:Cx)(kws:List Keyword)(t:TA):Prop :=
 ∀ (pos:Pos) (pins:List (Addr×Obj)) (s:Shared) (σ:St) (H:Hp) (Q:List V→Hp→Prop),Inv X pins σ H s→t σ H Q→wpAny (model X.prog X.w) X.A (evalAll ((backToKw pos (keywordEach kws X.env)).map (·.2))) (AP X pins σ Q) X.xe s
section
variable {X:Cx} {CX:CXT} {k:Nat} {f C:Addr} {fd:FuncData} {ps ks:List Str} {sp:Sp} {E:XK} {x m:Str} {p pos apos kpos:Pos} {e o:Expr} {es:List Expr} {kws:List Keyword} {te ta:TE} {t tk:TA} {nm:Option Str}
structure KBinds (K:PySem.W.Frag) (fd:FuncData) (ps ks:List Str) (g:List Value→List Value→List Value) (gV:List V→List V→List V):Prop where
 to:∀ (s:Shared) (us ws:List Value),K.In s.heap→(g us ws).length=ps.length→BindsTo s fd ⟨us,ks.zip ws⟩ (ps.zip (g us ws))
 rel:∀ {vs:List V} {us:List Value} {zs:List V} {ws:List Value},Zy vs us→Zy zs ws→Zy (gV vs zs) (g us ws)
def tCallK(sp:Sp)(gV:List V→List V→List V)(E:XK)(t tk:TA):TE:=fun σ H Q=>t σ H fun vs H1=>tk σ H1 fun zs H2=>sp (gV vs zs) H2 Q E
variable {g:List Value→List Value→List Value} {gV:List V→List V→List V}
end
structure Zr (N P:List Str) (sc:Scope):Prop where
 kind:sc.kind=.function
 co:sc.isCoroutine=false
 gen:sc.isGenerator=false
 nd:N.Nodup
 pre:N.take P.length=P
 par:∀x∈P,sc.names.lookup x=some .local∨sc.names.lookup x=some .cell
 nofree:∀y∈sc.names,y.2≠.free
theorem Zgy{kindOf:Str→Option NameKind}{x:Str}:∀ {binds:List (Str×Value)} {m:Str→Option Value},(∀v,(x,v) ∉ binds)→bindL kindOf binds m x=m x
 | [],_,_=>rfl
 | (n,v)::r,m,h=>by
  unfold bindL
  rw[Zgy fun w hw=>h w (Qw _ hw)]
  split
  ·have:x≠n:=by rintro rfl;exact h v Q2
   simp[this]
  ·rfl
theorem Zgi{kindOf:Str→Option NameKind}{x:Str}:∀ {binds:List (Str×Value)} {m:Str→Option Value},(∀v,(x,v) ∉ binds)→bindC kindOf binds m x=m x
 | [],_,_=>rfl
 | (n,v)::r,m,h=>by
  unfold bindC
  rw[Zgi fun w hw=>h w (Qw _ hw)]
  split
  ·rfl
  ·have:x≠n:=by rintro rfl;exact h v Q2
   simp[this]
theorem Zgf{kindOf:Str→Option NameKind}{x:Str}{v:Value}:∀ {P:List Str} {vs:List Value} {i:Nat} {m:Str→Option Value},P.Nodup→P[i]? = some x→vs[i]? = some v→kindOf x=some .local →
  bindL kindOf (P.zip vs) m x=some v
 | [],_,_,_,_,h,_,_=>by simp at h
 | _::_,[],_,_,_,_,h,_=>by simp at h
 | p::P,w::vs,0,m,nd,h1,h2,hk=>by
  simp at h1 h2;subst h1;subst h2
  show bindL kindOf ((p,w)::P.zip vs) m p=_
  unfold bindL
  rw[Zgy fun v hv=>(QZ.mp nd).1 (List.of_mem_zip hv).1,if_pos hk]
  simp
 | p::P,w::vs,i+1,m,nd,h1,h2,hk=>by
  show bindL kindOf ((p,w)::P.zip vs) m x=_
  unfold bindL
  exact Zgf (i:=i) (QZ.mp nd).2 (by simpa using h1) (by simpa using h2) hk
theorem ZgQ{kindOf:Str→Option NameKind}{x:Str}{v:Value}:∀ {P:List Str} {vs:List Value} {i:Nat} {m:Str→Option Value},P.Nodup→P[i]? = some x→vs[i]? = some v→kindOf x≠some .local →
  bindC kindOf (P.zip vs) m x=some v
 | [],_,_,_,_,h,_,_=>by simp at h
 | _::_,[],_,_,_,_,h,_=>by simp at h
 | p::P,w::vs,0,m,nd,h1,h2,hk=>by
  simp at h1 h2;subst h1;subst h2
  show bindC kindOf ((p,w)::P.zip vs) m p=_
  unfold bindC
  rw[Zgi fun v hv=>(QZ.mp nd).1 (List.of_mem_zip hv).1,if_neg hk]
  simp
 | p::P,w::vs,i+1,m,nd,h1,h2,hk=>by
  show bindC kindOf ((p,w)::P.zip vs) m x=_
  unfold bindC
  exact ZgQ (i:=i) (QZ.mp nd).2 (by simpa using h1) (by simpa using h2) hk
def Zda(N:List Str)(vs:List V):St:=vs.map some++List.replicate (N.length-vs.length) none
def Zhc(CX:CXT)(P:Program)(w:World)(K:PySem.W.Frag)(mg:Str→Option Value)(base:Heap)(N:List Str)(qual:Str)(scope:Scope)(f:Addr)(cd:Value)(A:Around)(outer:List Env)(s:Shared)(H:Hp)(E:XK):Cx where
 prog:=P
 w:=w
 K:=K
 mg:=mg
 base:=base
 A:=A.deeper (envOfC qual scope s.heap.objs.size f cd)
 N:=N
 s₀:=s
 H₀:=H
 env:=envOfC qual scope s.heap.objs.size f cd
 outer:=outer
 stack:=envOfC qual scope s.heap.objs.size f cd::outer
 ex:=[]
 calm:=true
 fn:=fun _=>true
 pn:=[]
 xe:=fun e s'=>wpAny (model P w) (A.deeper (envOfC qual scope s.heap.objs.size f cd)) (leaving (envOfC qual scope s.heap.objs.size f cd) e) (fun _ s''=>CX outer H s E e s'') (fun e' s''=>CX outer H s E e' s'') s'
theorem Zh9{sc:Scope}{n:Nat}{x:Str}(h:sc.names.lookup x=some .cell):∃c,(cellsFrom n sc.names []).lookup x=some c:=by
 have q:=PySem.W.cellsFrom_some sc.names n [] (.inl h)
 exact Option.isSome_iff_exists.mp q
theorem ZkY{CX:CXT}{P:Program}{w:World}{K:PySem.W.Frag}{mg:Str→Option Value}{base:Heap}{N ps:List Str}{qual:Str}{scope:Scope}{f:Addr}{cd:Value}{A:Around}{outer:List Env}{s s1:Shared}{H:Hp}{E:XK}{us:List Value}{vs:List V}
  (S:Zr N ps scope) (hd:A.handled=none) (e0:ZiD P w K mg base A outer s H) (hl:vs.length=ps.length) (r:Zy vs us)
  (x:InCallC s s.heap.objs.size (bindL (envOfC qual scope s.heap.objs.size f cd).kindOf (ps.zip us) fun _=>none) (cellsFrom (s.heap.objs.size+1) scope.names []) (bindC (envOfC qual scope s.heap.objs.size f cd).kindOf (ps.zip us) fun _=>none) s1) :
  Inv (Zhc CX P w K mg base N qual scope f cd A outer s H E) [] (Zda N vs) H s1:=by
 have hpl:ps.length≤N.length:=by have:=congrArg List.length S.pre;rw[QA]at this;omega
 obtain⟨h1,tk,rfl,hk⟩:=x.done
 have noA:∀b:Addr,b ∉ (Zhc CX P w K mg base N qual scope f cd A outer s H E).ex:=fun b z=>absurd (show b∈([]:List Addr) from z) (by simp)
 refine⟨⟨e0.mod,S.kind,rfl,rfl,Qh _,fun y z c h1 h2=>?_,fun y hy=>?_,fun y c _ h=>?_,fun _=>hd,Around.frames_deeper e0.frames,.inr ⟨rfl,rfl⟩,fun b z=>absurd z (noA b),e0.bs,e0.bsz,fun b _ _=>noA b,fun b z=>absurd z (noA b),e0.funs,e0.frf⟩,
  rfl,e0.bare,Un.kept hk,⟨_,x.toInCall.ns,fun i y v h1 h2 h3=>?_⟩,fun y c h=>⟨_,x.cell y c h⟩,e0.hok.fresh (Qh _),fun y c h=>?_,fun p hp=>absurd (show p∈([]:List (Addr×Obj)) from hp) (by simp),e0.hok.kept hk,?_⟩
 ·exact name_of_addr x.apart (Qaa h1) (Qaa h2)
 ·have hy:scope.names.lookup y=some .cell∨scope.names.lookup y=some .free:=hy
  rcases hy with hy|hy
  ·exact Zh9 hy
  ·exact absurd rfl (S.nofree _ (Qaa hy))
 ·exact Nat.le_of_lt (x.above y c (Qaa h))
 ·have hi:i<vs.length:=by
   unfold Zda at h2
   by_cases hi:i<vs.length
   ·exact hi
   ·rw[QN (by simpa using hi)]at h2
    rw[List.getElem?_replicate]at h2
    split at h2<;>cases h2
  have ha:vs[i]? = some v:=by
   unfold Zda at h2
   rw[QU (by simpa using hi),Qk]at h2
   cases e:vs[i]? with
   | none=>rw[e]at h2;cases h2
   | some a=>rw[e]at h2;cases h2;rfl
  obtain⟨u,hu,rv⟩:=r.get ha
  have hp:ps[i]? = some y:=by
   rw[← S.pre,List.getElem?_take_of_lt (by omega)];exact h1
  have ndP:ps.Nodup:=by rw[← S.pre];exact S.nd.sublist (List.take_sublist _ _)
  refine⟨u,rv,?_⟩
  rcases S.par y (Qr hp) with k|k
  ·exact .inl ⟨k,Zgf ndP hp hu k⟩
  ·obtain⟨c,e⟩:=Zh9 (n:=s.heap.objs.size+1) k
   refine .inr ⟨.inl k,c,e,?_⟩
   have q:=x.cell y c e
   rw[ZgQ ndP hp hu (by show scope.names.lookup y≠_;rw[k];decide)]at q
   exact q
 ·exact e0.hok.fresh (Nat.le_of_lt (x.above y c (Qaa h)))
 ·unfold Zda
  show _=N.length
  rw[Qf,Qa,List.length_replicate]
  omega
theorem Zq7{CX:CXT}{P:Program}{w:World}{K:PySem.W.Frag}{mg:Str→Option Value}{base:Heap}{k:Nat}{f:Addr}{name qual:Str}{params:Arguments}{body:List Stmt}{scope:Scope}{dV kV doc pm cdv ct oc:Value}{an od:Option Addr}
  {osl:Array (Option Value)} {N ps:List Str} {sp:Sp} (lk:K.lookup f=some ⟨oc,od,.func (PySem.W.fnOf name qual params body scope dV kV doc pm an cdv ct),osl⟩) (hcd:PySem.W.codeIn K cdv qual=true) (S:Zr N ps scope)
  (len:∀vs H Q E,sp vs H Q E→vs.length=ps.length)
  (hbody:∀ (A:Around) (outer:List Env) (s:Shared) (H:Hp) (vs:List V) (Q:VK) (E:XK),ZaG k (A.deeper (envOfC qual scope s.heap.objs.size f cdv))→sp vs H Q E →
   ∃t,PSs (Zhc CX P w K mg base N qual scope f cdv A outer s H E) body t∧t { nx:=fun _ H'=>Q .non H',rt:=Q } (Zda N vs) H) :
  ZdT P w K mg base CX (k+1) f (PySem.W.fnOf name qual params body scope dV kV doc pm an cdv ct) ps sp:=by
 refine⟨len,fun A outer s H args us vs Q E hr e0 hb r hsp=>?_⟩
 have hl:=len _ _ _ _ hsp
 have KX:K.In s.heap:=e0.mod.kin.keeps fun b o e=>(e0.bs b o e).1
 have lim:s.heap.NoLimit:=e0.mod.nolimit.keeps fun b o e=>(e0.bs b o e).1
 have hkind:∀y∈ps.zip us,scope.names.lookup y.1=some .local∨(scope.names.lookup y.1=some .cell∧((cellsFrom (s.heap.objs.size+1) scope.names []).lookup y.1).isSome=true):=fun ⟨n,v⟩ hy=>by
  rcases S.par n (List.of_mem_zip hy).1 with q|q
  ·exact .inl q
  ·exact .inr ⟨q,PySem.W.cellsFrom_some _ _ _ (.inl q)⟩
 refine codeAny_call_function hr.depth (KX _ _ lk) rfl S.co S.gen rfl (PySem.W.codeRec_of KX hcd) (hb _ _ _ _ ?_)
 refine wpAny_newFunctionEnv_cells S.kind hkind fun env he s1 x=>?_
 subst he
 refine⟨lim.keeps x.toInCall.keep,codeAny_func ?_⟩
 obtain⟨t,ht,hq⟩:=hbody A outer s H vs Q E (hr.deeper _) hsp
 have I:Inv (Zhc CX P w K mg base N qual scope f cdv A outer s H E) [] (Zda N vs) H s1:=ZkY S hr.hd e0 hl r x
 refine wpAny_mono (ht [] s1 (Zda N vs) H _ I hq) (fun fl s' hs=>?_) fun e s' hs=>hs
 have fin:∀ {σ':St} {H':Hp} {v:V} {u:Value},Inv (Zhc CX P w K mg base N qual scope f cdv A outer s H E) [] σ' H' s'→ZD v u→Q v H'→CE outer P w H s Q u s' :=
  fun {σ' H' v u} J rv q=>⟨v,H',J.os,J.bare,J.base,J.hok,rv,q⟩
 cases fl with
 | ret u =>
  obtain⟨v,σ',H',J,rv,q⟩:=hs
  exact fin J rv q
 | next =>
  obtain⟨σ',H',J,q⟩:=hs
  exact fin (v:=V.non) (u:=Value.none) J rfl q
 | brk =>
  obtain⟨_,_,_,q⟩:=hs
  exact False.elim q
 | cont =>
  obtain⟨_,_,_,q⟩:=hs
  exact False.elim q
section
variable {X:Cx} {x:Str} {p pos:Pos} {e:Expr} {es:List Expr} {t:TA} {id T:String} {r:List V→Hp→VK→Prop}
def tCB(r:List V→Hp→VK→Prop)(t:TA):TE:=fun σ H Q=>t σ H fun vs H1=>r vs H1 Q
theorem Zk(hc:Za2 X (.builtin id) r)(hg:Gl X x)(hm:X.mg x=none)(hv:bootBuiltins x=some (.builtin id))(ha:PA X (e::es) t)(hn:x ≠ "__name__":=by decide)(hdb:(x == ("__debug__" : Str))=false:=by decide)
  (he:starEach (e::es) X.env=(false,eval e X.env)::starEach es X.env:=by rfl) (hpl:(backTo pos (starEach es X.env)).any (·.1)=false:=by rfl):PE X (.Call (.Name x p) (e::es) [] pos) (tCB r t):=by
 intro pins s σ H Q I h
 refine wpAny_Call_Name_kw (ZeE I hg hm hv ?_ hn hdb)
 exact PyProof.Rows.callWith_builtin1 (thn (ha pos pins s σ H _ I h) fun us s1 ⟨vs,H1,I1,r1,q1⟩=>hc pins s1 σ H1 vs us Q I1 r1 q1) he hpl
theorem ZbY(hc:Za2 X (.type T) r)(hg:Gl X x)(hm:X.mg x=none)(hv:bootBuiltins x=some (.type T))(ha:PA X (e::es) t)(hn:x ≠ "__name__":=by decide)(hdb:(x == ("__debug__" : Str))=false:=by decide)
  (he:starEach (e::es) X.env=(false,eval e X.env)::starEach es X.env:=by rfl) (hpl:(backTo pos (starEach es X.env)).any (·.1)=false:=by rfl):PE X (.Call (.Name x p) (e::es) [] pos) (tCB r t):=by
 intro pins s σ H Q I h
 refine wpAny_Call_Name_kw (ZeE I hg hm hv ?_ hn hdb)
 exact Qac (thn (ha pos pins s σ H _ I h) fun us s1 ⟨vs,H1,I1,r1,q1⟩=>hc pins s1 σ H1 vs us Q I1 r1 q1) he hpl
end
end L2
namespace HT
open PySem PyProof.Rows
def lexLt:List Int→List Int→Bool
 | [],[]=>false
 | [],_::_=>true
 | _::_,[]=>false
 | x::xs,y::ys=>if x=y then lexLt xs ys else decide (x<y)
theorem ZpC(x y:Int)(xs ys:List Int):lexLt (x::xs) (y::ys)=if x=y then lexLt xs ys else decide (x<y):=rfl
theorem Znd:lexLt [] []=false:=rfl
theorem ZlM(y:Int)(ys:List Int):lexLt [] (y::ys)=true:=rfl
theorem Zm2(x:Int)(xs:List Int):lexLt (x::xs) []=false:=rfl
section
open PySem.SeqAt
open PySem.AutoSeq1 (wpAny_loadPart')
open PySem.MeetsSeq PySem.MeetsSeq2 PySem.MeetsSeq3
end
section
variable {prog:Program} {w:World} {A:Around} {E:Value→Shared→Prop} {s:Shared}
theorem cat_tup{t b:Addr}{vs ws:List Value}{Q:Value→Shared→Prop}(ht:IsTup s.heap t vs.toArray)(hb:IsTup s.heap b ws.toArray)(hv:vs≠[])
  (h1:ws=[]→Q (.ref t) s) (h2:ws≠[]→Q (.ref s.heap.objs.size) { s with heap:=s.heap.push { cls:=.type "tuple",data:=.seq (vs++ws).toArray } })
  (hsz:vs.length+ws.length≤sizeLine):wpAny (model prog w) A (binaryOp .Add (.ref t) (.ref b)) Q E s:=by
 obtain⟨⟨cls,dd,data,sl⟩,ho,hc,n,hd⟩:=id ht
 obtain⟨⟨cls2,dd2,data2,sl2⟩,ho2,hc2,n2,hd2⟩:=id hb
 simp only at hc hd hc2 hd2
 subst hc hd hc2 hd2
 have e:vs.toArray++ws.toArray=(vs++ws).toArray:=by simp
 by_cases hw:ws=[]
 ·exact concat_meets ⟨_,ho,rfl⟩ ⟨_,ho2,rfl⟩ noFill_tuple_add seq_tuple_add PySem.F.slot_tuple_add PySem.F.entry_tuple_add (PySem.F.args_tuple_add_2 _ _)
   (tuple_addW1 t b vs.toArray ws.toArray n n2 dd dd2 sl sl2 (by simpa using hv) (by simp[hw])) ⟨ho,ho2,h1 hw⟩
 ·refine concat_meets ⟨_,ho,rfl⟩ ⟨_,ho2,rfl⟩ noFill_tuple_add seq_tuple_add PySem.F.slot_tuple_add PySem.F.entry_tuple_add (PySem.F.args_tuple_add_2 _ _)
   (tuple_addW2 t b vs.toArray ws.toArray n n2 dd dd2 sl sl2 (by simpa using hv) (by simpa using hw) (by rw[QB,QB];exact hsz)) ⟨ho,ho2,?_⟩
  rw[e]
  exact h2 hw
def sIx(n d:Nat):Option Int→Nat
 | none=>d
 | some v=>if v<0 then (v+(n:Int)).toNat else min v.toNat n
theorem Zq9(n d:Nat):sIx n d none=d:=rfl
end
end HT
namespace L2
open PySem PySem.Spec PyProof.Rows
abbrev TO:=St→Hp→(Option Int→Hp→Prop)→Prop
def PO(X:Cx)(e:Option Expr)(t:TO):Prop :=
 ∀ (pins:List (Addr×Obj)) (s:Shared) (σ:St) (H:Hp) (Q:Option Int→Hp→Prop),Inv X pins σ H s→t σ H Q →
  wpAny (model X.prog X.w) X.A (evalPart e X.env) (fun u s'=>∃o H',Inv X pins σ H' s'∧IsPart u o∧Q o H') X.xe s
def Zn0:TO:=fun _ H Q=>Q none H
def ZqN(t:TE):TO:=fun σ H Q=>t σ H fun x H1=>∃i,x=.int i∧Q (some i) H1
theorem ZiK{ns:List Int}:∀ {us:List Value},Zy (ns.map V.int) us→IntsAre us ns:=by
 induction ns with
 | nil=>intro us r;rw[Qai]at r;cases r;exact .nil
 | cons n ns ih =>
  intro us r
  rw[Qn]at r
  cases r with
  | cons r1 r2 =>
   obtain⟨t,e⟩:=r1
   subst e
   exact .cons n t (ih r2)
section
variable {X:Cx} {e:Expr} {te:TE} {lo hi:Option Expr} {tl th:TO} {pos p2:Pos}
theorem Zc3:PO X none Zn0:=by
 intro pins s σ H Q I h
 rw[evalPart_none]
 exact wpAny_pure ⟨none,H,I,.none,h⟩
theorem Zcb(h:PE X e te):PO X (some e) (ZqN te):=by
 intro pins s σ H Q I hw
 rw[evalPart_some]
 refine thn (h pins s σ H _ I hw) ?_
 rintro u s1 ⟨x,H1,I1,r1,q1⟩
 obtain⟨i,rfl,q⟩:=q1
 obtain⟨t,rfl⟩:=r1
 exact⟨some i,H1,I1,.int i t,q⟩
def SlR(X:Cx)(r:V→Option Int→Option Int→Hp→VK→Prop):Prop :=
 ∀ (pins:List (Addr×Obj)) (s:Shared) (σ:St) (H:Hp) (x:V) (v vl vu:Value) (lo hi:Option Int) (sl:Addr) (Q:VK),Inv X pins σ H s→ZD x v→s.heap.IsSliceOf sl vl vu .none→IsPart vl lo→IsPart vu hi→r x lo hi H Q →
  ∃T id,typeLookup (.type T) "__getitem__" = pure (some (.builtin id))∧s.TypeIs v T∧wpAny (model X.prog X.w) X.A (getItem v (.ref sl)) (EP X pins σ Q) X.xe s
def tSl(r:V→Option Int→Option Int→Hp→VK→Prop)(te:TE)(tl th:TO):TE:=fun σ H Q=>te σ H fun x H1=>tl σ H1 fun l H2=>th σ H2 fun u H3=>r x l u H3 Q
theorem ZcB{r:V→Option Int→Option Int→Hp→VK→Prop}(hr:SlR X r)(he:PE X e te)(hl:PO X lo tl)(hu:PO X hi th):PE X (.Subscript e (.Slice lo hi none p2) pos) (tSl r te tl th):=by
 intro pins s σ H Q I h
 refine Subscript_ (thn (he pins s σ H _ I h) ?_)
 rintro v s1 ⟨x,H1,I1,r1,q1⟩
 refine wpAny_Slice (thn (hl pins s1 σ H1 _ I1 q1) fun vl s2 ⟨l,H2,I2,pl,q2⟩=>thn (hu pins s2 σ H2 _ I2 q2) ?_)
 rintro vu s3 ⟨u,H3,I3,pu,q3⟩
 rw[evalPart_none]
 refine wpAny_pure ?_
 have I4:Inv X pins σ H3 { s3 with heap:=s3.heap.push { cls:=.type "slice",data:=.fields #[vl,vu,.none] } }:=I3.kept (t':=s3.toks) fun b ob q=>Qs _ q
 obtain⟨T,id,hT,ht,hg⟩:=hr pins { s3 with heap:=s3.heap.push { cls:=.type "slice",data:=.fields #[vl,vu,.none] } } σ H3 x v vl vu l u s3.heap.objs.size Q I4 r1 (Heap.IsSliceOf.new ..) pl pu q3
 show wpAny (model X.prog X.w) X.A (subscriptTail e (.Slice lo hi none p2) v (.ref s3.heap.objs.size)) (EP X pins σ Q) X.xe { s3 with heap:=s3.heap.push { cls:=.type "slice",data:=.fields #[vl,vu,.none] } }
 exact tail_any (ops:=[.ref s3.heap.objs.size,v]) ht hT hg (by with_unfolding_all rfl)
def Zc9(xs:List V)(lo hi:Option Int):List V:=(xs.drop (HT.sIx xs.length 0 lo)).take (HT.sIx xs.length xs.length hi-HT.sIx xs.length 0 lo)
theorem Zh6(xs:List V)(lo hi:Option Int):(Zc9 xs lo hi).length≤xs.length:=by
 unfold Zc9
 rw[QA,QV]
 omega
def rSlT(K:PySem.W.Frag):V→Option Int→Option Int→Hp→VK→Prop:=fun x lo hi H Q=>∃a xs,x=.ref a∧SqT K H a xs ∧
 ¬ (HT.sIx xs.length 0 lo=0∧HT.sIx xs.length xs.length hi=xs.length)∧∀p,H p=none→Q (.ref p) (upd H p (.tup (Zc9 xs lo hi)))
def rLtT(K:PySem.W.Frag):R2:=fun x y H Q=>∃a b ns ms,x=.ref a∧y=.ref b∧SqT K H a (ns.map V.int)∧SqT K H b (ms.map V.int)∧Q (.bl (HT.lexLt ns ms)) H
def Zq8(K:PySem.W.Frag):R2:=fun x y H Q=>∃a b xs ys,x=.ref a∧y=.ref b∧SqT K H a xs∧SqT K H b ys∧xs≠[]∧xs.length+ys.length≤sizeLine ∧
 (ys=[]→Q (.ref a) H)∧(ys≠[]→∀p,H p=none→Q (.ref p) (upd H p (.tup (xs++ys))))
theorem Zy.nil_iff{xs:List V}{us:List Value}(r:Zy xs us):us=[]↔xs=[]:=by
 cases r with
 | nil=>simp
 | cons _ _=>simp
theorem Znp:OpR X (binaryOp .Add) (Zq8 X.K):=by
 intro pins s σ H x y v u Q I rx ry h
 obtain⟨a,b,xs,ys,rfl,rfl,ha,hb,hx,hz,q1,q2⟩:=h
 cases rx
 cases ry
 obtain⟨its,r1,p1,_⟩:=I.tuple ha
 obtain⟨its2,r2,p2,_⟩:=I.tuple hb
 refine HT.cat_tup p1 p2 (fun z=>hx (r1.nil_iff.mp z)) (fun z=>⟨.ref a,H,I,rfl,q1 (r2.nil_iff.mp z)⟩) (fun z=>?_) (by rw[← r1.length,← r2.length];exact hz)
 refine⟨.ref s.heap.objs.size,_,I.laid (t':=s.toks) (o:=.tup (xs++ys)) (fun b ob q=>Qs _ q) (Qh _) ?_,rfl,q2 (fun w=>z (r2.nil_iff.mpr w)) _ (I.hok.fresh (Qh _))⟩
 exact⟨by rw[Qf];exact hz,_,r1.append r2,IsTup.new _ _⟩
end
def ixN(n:Nat)(i:Int):Option Nat:=if 0≤i then (if i<n then some i.toNat else none) else if -(n:Int)≤i then some (i+n).toNat else none
def atI{α:Type}(xs:List α)(i:Int):Option α:=(ixN xs.length i).bind fun j=>xs[j]?
theorem ZjD{n:Nat}{i:Int}{j:Nat}(h:ixN n i=some j):seqIndex? i n=some j∧j<n ∧ -(n:Int)≤i∧i<n:=by
 unfold ixN at h
 by_cases h0:0≤i
 ·rw[if_pos h0]at h
  by_cases h1:i<n
  ·rw[if_pos h1]at h
   have e:i.toNat=j:=Qp h
   exact⟨by rw[seqIndex_of h0 h1,e],by omega,by omega,h1⟩
  ·rw[if_neg h1]at h;cases h
 ·rw[if_neg h0]at h
  by_cases h1:-(n:Int)≤i
  ·rw[if_pos h1]at h
   have e:(i+n).toNat=j:=Qp h
   exact⟨by rw[seqIndex_neg (by omega) h1,e],by omega,h1,by omega⟩
  ·rw[if_neg h1]at h;cases h
theorem Zhd{α:Type}{xs:List α}{i:Int}{v:α}(h:atI xs i=some v):∃j,seqIndex? i xs.length=some j∧xs[j]? = some v∧j<xs.length ∧ -(xs.length:Int)≤i∧i<xs.length:=by
 unfold atI at h
 cases e:ixN xs.length i with
 | none=>rw[e]at h;cases h
 | some j =>
  rw[e]at h
  obtain⟨h1,h2,h3,h4⟩:=ZjD e
  exact⟨j,h1,h,h2,h3,h4⟩
theorem Z6{α:Type}{xs:List α}{j:Nat}{v:α}(h:xs[j]? = some v):atI xs (j:Int)=some v:=by
 have hj:j<xs.length:=(Qd.mp h).1
 have e:ixN xs.length (j:Int)=some j:=by
  unfold ixN
  rw[if_pos (by omega),if_pos (by omega)];simp
 unfold atI;rw[e];exact h
theorem ZlR{α:Type}(xs:List α)(v:α):atI (xs++[v]) (-1)=some v:=by
 have hl:(xs++[v]).length=xs.length+1:=by simp
 have e:ixN (xs++[v]).length (-1)=some xs.length:=by
  unfold ixN
  rw[hl,if_neg (by decide),if_pos (by omega)]
  congr 1
  omega
 unfold atI
 rw[e]
 show (xs++[v])[xs.length]? = some v
 simp
def ZnC(b:Expr):Prop:=∀o i,subscripted b false o i=operate [o,i] (getItem o i)
def IxR(X:Cx)(r:R2):Prop :=
 ∀ (value slice:Expr) (pins:List (Addr×Obj)) (s:Shared) (σ:St) (H:Hp) (x y:V) (v u:Value) (Q:VK),Inv X pins σ H s→ZD x v→ZD y u→r x y H Q →
  subscripted slice false v u=operate [v,u] (getItem v u)→wpAny (model X.prog X.w) X.A (subscriptTail value slice v u) (EP X pins σ Q) X.xe s
def MtR(X:Cx)(id:String)(r:V→List V→Hp→VK→Prop):Prop :=
 ∀ (pins:List (Addr×Obj)) (s:Shared) (σ:St) (H:Hp) (x:V) (xs:List V) (v:Value) (us:List Value) (Q:VK),Inv X pins σ H s→ZD x v→Zy xs us→r x xs H Q →
  wpAny (model X.prog X.w) X.A (call (.builtin id) (v::us)) (EP X pins σ Q) X.xe s
section
variable {X:Cx} {a b:Expr} {ta tb:TE} {pos:Pos}
theorem Zz{r:R2}(hr:IxR X r)(ha:PE X a ta)(hb:PE X b tb)(hs:ZnC b):PE X (.Subscript a b pos) (tOp r ta tb):=by
 intro pins s σ H Q I h
 exact Subscript_ (ZoY ha hb I h fun v u s2 x y H2 I2 rx ry q=>hr a b pins s2 σ H2 x y v u Q I2 rx ry q (hs _ _))
def ZoW(K:PySem.W.Frag):R2:=fun x y H Q=>∃p xs i v,x=.ref p∧y=.int i∧SqL K H p xs∧atI xs i=some v∧Q v H
def Zpg(K:PySem.W.Frag):R2:=fun x y H Q=>∃p xs i v,x=.ref p∧y=.int i∧SqT K H p xs∧atI xs i=some v∧Q v H
def Zqj:R2:=fun x y H Q=>∃z i c,x=.str z∧y=.int i∧z.length≤sizeLine∧atI z.cps.toList i=some c∧Q (.str ⟨#[c]⟩) H
theorem Znx:IxR X (ZoW X.K):=by
 intro value slice pins s σ H x y v u Q I rx ry h hs
 obtain⟨p,xs,i,z,rfl,rfl,hq,he,q⟩:=h
 cases rx
 obtain⟨t,rfl⟩:=ry
 obtain⟨its,r,pl,hz⟩:=I.list hq
 obtain⟨j,h1,h2,h3,h4,h5⟩:=Zhd he
 obtain⟨w,ew,rw'⟩:=r.get h2
 have hl:=r.length
 have hn:=ZeJ
 have fin:EP X pins σ Q w s:=⟨z,H,I,rw',q⟩
 by_cases h0:0≤i
 ·have hj:i.toNat=j:=by
   rw[seqIndex_of h0 h5]at h1
   exact Qp h1
  exact item_listR pl.isList h0 (by omega) (by rw[hj];simpa using ew) fin hs
 ·have hj:(i+(its.toArray.size:Int)).toNat=j:=by
   rw[seqIndex_neg (by omega) h4]at h1
   rw[QB,← hl]
   exact Qp h1
  exact subscriptTail_builtinR (x:=w) pl.isList.typeIs slot_list_getitem.lookup
   (wpAny_getItem_list_neg (Q:=fun r s'=>r=w∧EP X pins σ Q r s') pl.isList (by omega) (by rw[QB]<;>omega) (by omega) (by rw[hj];simpa using ew) ⟨rfl,fin⟩) hs
theorem ZpU:IxR X (Zpg X.K):=by
 intro value slice pins s σ H x y v u Q I rx ry h hs
 obtain⟨p,xs,i,z,rfl,rfl,hq,he,q⟩:=h
 cases rx
 obtain⟨t,rfl⟩:=ry
 obtain⟨its,r,pl,hz⟩:=I.tuple hq
 obtain⟨j,h1,h2,h3,h4,h5⟩:=Zhd he
 obtain⟨w,ew,rw'⟩:=r.get h2
 have hl:=r.length
 have hn:=ZeJ
 have fin:EP X pins σ Q w s:=⟨z,H,I,rw',q⟩
 exact subscriptTail_builtinR (x:=w) pl.typeIs slot_tuple_getitem.lookup
  (getItem_tuple (j:=j) (Q:=fun r s'=>r=w∧EP X pins σ Q r s') pl (by omega) (by omega) (by rw[QB,← hl];exact h1) (by simpa using ew) ⟨rfl,fin⟩) hs
theorem Zfz:IxR X Zqj:=by
 intro value slice pins s σ H x y v u Q I rx ry h hs
 obtain⟨z,i,c,rfl,rfl,hz,he,q⟩:=h
 obtain⟨t,rfl⟩:=rx
 obtain⟨t',rfl⟩:=ry
 obtain⟨j,h1,h2,h3,h4,h5⟩:=Zhd he
 have hl:z.cps.toList.length=z.length:=by simp[Str.length]
 rw[hl]at h1 h4 h5
 have hn:=ZeJ
 exact tail_any (typeIs_str s z t) slot_str_getitem.lookup (getItem_str (c:=c) (by
  have e1:decide (i < -(2 ^ 63:Int))=false:=decide_eq_false (by omega)
  have e2:decide (i≥2 ^ 63)=false:=decide_eq_false (by omega)
  rw[e1,e2,Bool.or_false]) (by rw[h1];simpa using h2) ⟨.str ⟨#[c]⟩,H,I.tok _,⟨_,rfl⟩,q⟩) hs
def rIx(K:PySem.W.Frag):R2:=fun x y H Q=>ZoW K x y H Q∨Zpg K x y H Q∨Zqj x y H Q
theorem ZiM(its:List Value)(n j:Nat)(u:Value):Obj.mapSeq (·.setIfInBounds j u) { cls:=.type "list",data:=.seq its.toArray n }={ cls:=.type "list",data:=.seq (its.set j u).toArray n }:=by
 simp[Obj.mapSeq]
theorem Inv.lst{pins:List (Addr×Obj)}{σ:St}{H:Hp}{s:Shared}{p:Addr}{xs:List V}(I:Inv X pins σ H s)(h:H p=some (.lst xs)) :
  ∃ (its:List Value) (n:Nat),Zy xs its∧s.heap.get? p=some { cls:=.type "list",data:=.seq its.toArray n }∧xs.length≤sizeLine:=by
 obtain⟨z,its,n,r,e⟩:=I.hok p _ h
 exact⟨its,n,r,e,z⟩
theorem Inv.lstUpd{pins:List (Addr×Obj)}{σ:St}{H:Hp}{s:Shared}{p:Addr}{xs ys:List V}{its its':List Value}{n n':Nat}{f:Obj→Obj}(I:Inv X pins σ H s)(h:H p=some (.lst xs))
  (ho:s.heap.get? p=some { cls:=.type "list",data:=.seq its.toArray n }) (hf:f { cls:=.type "list",data:=.seq its.toArray n }={ cls:=.type "list",data:=.seq its'.toArray n' }) (r:Zy ys its') (hz:ys.length≤sizeLine) (t:Nat) :
  Inv X pins σ (upd H p (.lst ys)) { s with heap:=s.heap.update p f,toks:=t }:=by
 have e:(s.heap.update p f).get? p=some { cls:=.type "list",data:=.seq its'.toArray n' }:=by
  rw[Heap.get?_update_self f ho (by rw[hf]<;>rfl),hf]
 refine I.write (x:=p) (e:=p) (by rw[h];trivial) (.inl rfl) (fun b u hb q=>(Heap.get?_update_other _ _ (Ne.symm hb)).trans q) ⟨_,e⟩ ?_
 exact⟨hz,its',n',r,e⟩
def ZqP:V→V→V→Hp→(Hp→Prop)→Prop:=fun o i v H Q=>∃p xs k j,o=.ref p∧i=.int k∧H p=some (.lst xs)∧ixN xs.length k=some j∧Q (upd H p (.lst (xs.set j v)))
theorem Zim:ZmT X ZqP:=by
 intro pins s σ H o i v ov iv u Q I ro ri rv h
 obtain⟨p,xs,k,j,rfl,rfl,hp,hj,q⟩:=h
 cases ro
 obtain⟨t,rfl⟩:=ri
 obtain⟨its,n,r,ho,hz⟩:=I.lst hp
 obtain⟨h1,h2,h3,h4⟩:=ZjD hj
 have hl:=r.length
 have hn:=ZeJ
 have I':Inv X pins σ (upd H p (.lst (xs.set j v))) { s with heap:=s.heap.update p (Obj.mapSeq (·.setIfInBounds j u)) } :=
  I.lstUpd hp ho (ZiM its n j u) (r.set rv j) (by rw[List.length_set];exact hz) s.toks
 by_cases h0:0≤k
 ·have hk:k.toNat=j:=by
   rw[seqIndex_of h0 h4]at h1
   exact Qp h1
  exact PySem.W.ki_setAt ho h0 (by omega) (by rw[QB,← hl];exact h4) (by rw[hk];exact⟨_,I',q⟩)
 ·have hk:(k+(its.toArray.size:Int)).toNat=j:=by
   rw[seqIndex_neg (by omega) h3]at h1
   rw[QB,← hl]
   exact Qp h1
  exact PySem.W.ki_setBack ho (by omega) (by rw[QB,← hl];exact h3) (by omega) (by rw[hk];exact⟨_,I',q⟩)
theorem Zhi(lo hi:Option Int)(n:Nat):(sliceBounds lo hi none n).1=((HT.sIx n 0 lo:Nat):Int)∧(sliceBounds lo hi none n).2.1=((HT.sIx n n hi:Nat):Int)∧(sliceBounds lo hi none n).2.2=1:=by
 refine⟨?_,?_,rfl⟩
 ·cases lo with
  | none=>simp[sliceBounds,HT.sIx]
  | some i =>
   simp only[sliceBounds,HT.sIx,Option.getD_none,show (1:Int)>0 by decide,if_true]
   by_cases h:i<0
   ·simp only[h,if_true]<;>omega
   ·simp only[h,if_false]<;>omega
 ·cases hi with
  | none=>simp[sliceBounds,HT.sIx]
  | some i =>
   simp only[sliceBounds,HT.sIx,Option.getD_none,show (1:Int)>0 by decide,if_true]
   by_cases h:i<0
   ·simp only[h,if_true]<;>omega
   ·simp only[h,if_false]<;>omega
theorem ZfY(its:List Value)(lo hi:Option Int):slicePick its.toArray lo hi none=((its.drop (HT.sIx its.length 0 lo)).take (HT.sIx its.length its.length hi-HT.sIx its.length 0 lo)).toArray:=by
 obtain⟨h1,h2,h3⟩:=Zhi lo hi its.toArray.size
 unfold slicePick
 rw[h1,h2,h3]
 simp only[sliceRange_one,pick_run,List.size_toArray]<;>rfl
def ZqM(K:PySem.W.Frag):V→Option Int→Option Int→Hp→VK→Prop:=fun x lo hi H Q=>∃a xs,x=.ref a∧SqL K H a xs∧∀p,H p=none→Q (.ref p) (upd H p (.lst (Zc9 xs lo hi)))
theorem Znk:SlR X (ZqM X.K):=by
 intro pins s σ H x v vl vu lo hi sl Q I rx hs pl pu h
 obtain⟨a,xs,rfl,hx,q⟩:=h
 cases rx
 obtain⟨its,r,ht,hz⟩:=I.list hx
 have hlen:=r.length
 refine⟨"list",_,slot_list_getitem.lookup,ht.isList.typeIs,?_⟩
 refine wpAny_getItem_list_slice ht.isList hs pl pu .none (by simp) ?_ (by rw[QB]<;>omega)
 rw[ZfY,← hlen]
 refine⟨.ref s.heap.objs.size,_,I.laid (t':=s.toks) (o:=.lst (Zc9 xs lo hi)) (fun b ob q=>Qs _ q) (Qh _) ?_,rfl,q _ (I.hok.fresh (Qh _))⟩
 exact⟨QM (Zh6 xs lo hi) hz,_,0,(r.drop (HT.sIx xs.length 0 lo)).take (HT.sIx xs.length xs.length hi-HT.sIx xs.length 0 lo),QL _ rfl⟩
def Zen:V→Bool
 | .non=>true
 | .bl _=>true
 | .int _=>true
 | .str _=>true
 | _=>false
def eqV:V→V→Bool
 | .non,.non=>true
 | .bl a,.bl b=>a == b
 | .bl a,.int b=>(if a then 1 else 0) == b
 | .int a,.bl b=>a == (if b then 1 else 0)
 | .int a,.int b=>a == b
 | .str a,.str b=>a == b
 | _,_=>false
theorem Zpp{A:Around}{s:Shared}{y x:V}{u v:Value}(ry:ZD y u)(rx:ZD x v)(fy:Zen y=true)(fx:Zen x=true):SeqAt.EqAt A s u v (eqV y x):=by
 cases y with
 | non =>
  cases ry
  cases x with
  | non=>cases rx;exact SeqAt.EqAt.same _
  | bl b=>cases rx;exact SeqAt.EqAt.none_bool b
  | int b=>obtain⟨t,rfl⟩:=rx;exact SeqAt.EqAt.none_int b t
  | str b=>obtain⟨t,rfl⟩:=rx;exact SeqAt.EqAt.none_str b t
  | _=>exact absurd (show false=true from fx) Qt
 | bl a =>
  cases ry
  cases x with
  | non=>cases rx;exact SeqAt.EqAt.bool_none a
  | bl b=>cases rx;exact SeqAt.EqAt.bool_bool a b
  | int b=>obtain⟨t,rfl⟩:=rx;exact SeqAt.EqAt.bool_int a b t
  | str b=>obtain⟨t,rfl⟩:=rx;exact SeqAt.EqAt.bool_str a b t
  | _=>exact absurd (show false=true from fx) Qt
 | int a =>
  obtain⟨t',rfl⟩:=ry
  cases x with
  | non=>cases rx;exact SeqAt.EqAt.int_none a t'
  | bl b=>cases rx;exact SeqAt.EqAt.int_bool a t' b
  | int b=>obtain⟨t,rfl⟩:=rx;exact SeqAt.EqAt.int_int a t' b t
  | str b=>obtain⟨t,rfl⟩:=rx;exact SeqAt.EqAt.int_str a t' b t
  | _=>exact absurd (show false=true from fx) Qt
 | str a =>
  obtain⟨t',rfl⟩:=ry
  cases x with
  | non=>cases rx;exact SeqAt.EqAt.str_none a t'
  | bl b=>cases rx;exact SeqAt.EqAt.str_bool a t' b
  | int b=>obtain⟨t,rfl⟩:=rx;exact SeqAt.EqAt.str_int a t' b t
  | str b=>obtain⟨t,rfl⟩:=rx;exact SeqAt.EqAt.str_str a t' b t
  | _=>exact absurd (show false=true from fx) Qt
 | _=>exact absurd (show false=true from fy) Qt
def eqU(x:V)(u:Value):Bool:=match u with
 | .none=>eqV .non x
 | .bool b=>eqV (.bl b) x
 | .int i _=>eqV (.int i) x
 | .str z _=>eqV (.str z) x
 | _=>false
theorem Zl2{x y:V}{u:Value}(r:ZD y u)(f:Zen y=true):eqU x u=eqV y x:=by
 cases y with
 | non=>cases r;rfl
 | bl b=>cases r;rfl
 | int i=>obtain⟨t,rfl⟩:=r;rfl
 | str z=>obtain⟨t,rfl⟩:=r;rfl
 | _=>exact absurd (show false=true from f) Qt
theorem Zg0{x:V}:∀ {xs:List V} {us:List Value},Zy xs us→xs.all Zen=true→us.any (eqU x)=xs.any fun y=>eqV y x
 | _,_,.nil,_=>rfl
 | y::xs,u::us,.cons r t,f=>by
  rw[List.all_cons,Qav]at f
  rw[Qaz,Qaz,Zl2 r f.1,Zg0 t f.2]
theorem ZfS{A:Around}{s:Shared}{x:V}{v:Value}(rx:ZD x v)(fx:Zen x=true):∀ {xs:List V} {us:List Value},Zy xs us→xs.all Zen=true→∀u∈us,SeqAt.EqAt A s u v (eqU x u)
 | _,_,.nil,_=>fun u hu=>by cases hu
 | y::xs,u::us,.cons r t,f=>fun u' hu=>by
  rw[List.all_cons,Qav]at f
  rcases QG.mp hu with rfl|hu
  ·rw[Zl2 r f.1];exact Zpp r rx f.1 fx
  ·exact ZfS rx fx t f.2 u' hu
def inV(x:V)(xs:List V):Bool:=xs.any fun y=>eqV y x
def rIn(K:PySem.W.Frag)(neg:Bool):R2:=fun x y H Q=>∃p xs,y=.ref p∧(SqL K H p xs∨SqT K H p xs)∧Zen x=true∧xs.all Zen=true∧Q (.bl (if neg then !inV x xs else inV x xs)) H
theorem ZkA:OpR X (compareOp .In) (rIn X.K false):=by
 intro pins s σ H x y v u Q I rx ry h
 obtain⟨p,xs,rfl,hq,fx,fs,q⟩:=h
 cases ry
 rcases hq with hq|hq
 ·obtain⟨its,r,pl,hz⟩:=I.list hq
  refine SeqAt.in_listAt (eqU x) pl.isList (fun w hw=>ZfS rx fx r fs w (by simpa using hw)) ⟨.bl _,H,I,rfl,?_⟩
  rw[show its.toArray.any (eqU x)=its.any (eqU x) by simp,Zg0 r fs]
  exact q
 ·obtain⟨its,r,pl,hz⟩:=I.tuple hq
  refine SeqAt.in_tupleAt (eqU x) pl (fun w hw=>ZfS rx fx r fs w (by simpa using hw)) ⟨.bl _,H,I,rfl,?_⟩
  rw[show its.toArray.any (eqU x)=its.any (eqU x) by simp,Zg0 r fs]
  exact q
theorem Zhg:Za2 X (.builtin "len") (fun xs H Q=>∃p ys,xs=[.ref p]∧(SqL X.K H p ys∨SqT X.K H p ys)∧Q (.int ys.length) H):=by
 intro pins s σ H xs us Q I r h
 obtain⟨p,ys,rfl,hq,q⟩:=h
 obtain⟨u,rfl,rx⟩:=ZdA r
 cases rx
 have hn:=ZeJ
 rcases hq with hq|hq
 ·obtain⟨its,r',pl,hz⟩:=I.list hq
  have hlen:=r'.length
  exact Calls.call_len_list pl.isList (by simp only[List.size_toArray]<;>omega) ⟨.int ys.length,H,I.tok _,⟨s.toks+1,by rw[QB,hlen]⟩,q⟩
 ·obtain⟨its,r',pl,hz⟩:=I.tuple hq
  have hlen:=r'.length
  exact len_tuple pl (by simp only[List.size_toArray]<;>omega) ⟨.int ys.length,H,I.tok _,⟨s.toks+1,by rw[QB,hlen]⟩,q⟩
theorem Za5:Za2 X (.builtin "len") (fun xs H Q=>∃z,xs=[.str z]∧z.length≤sizeLine∧Q (.int z.length) H):=by
 intro pins s σ H xs us Q I r h
 obtain⟨z,rfl,hz,q⟩:=h
 obtain⟨u,rfl,t,rfl⟩:=ZdA r
 have hn:=ZeJ
 exact len_str (by omega) ⟨.int z.length,H,I.tok _,⟨_,rfl⟩,q⟩
theorem ZgV:Za2 X (.type "list") (fun xs H Q=>∃p ys,xs=[.ref p]∧(SqL X.K H p ys∨SqT X.K H p ys)∧∀l,H l=none→Q (.ref l) (upd H l (.lst ys))):=by
 intro pins s σ H xs us Q I r h
 obtain⟨p,ys,rfl,hq,q⟩:=h
 obtain⟨u,rfl,rx⟩:=ZdA r
 cases rx
 have fin:∀ (its:List Value),Zy ys its→ys.length≤sizeLine→∀ (h':Heap) (c':Nat),(∀b o',s.heap.get? b=some o'→h'.get? b=some o') →
   h'.get? s.heap.objs.size=some { cls:=.type "list",dict:=none,data:=.seq its.toArray c',slots:=#[] }→EP X pins σ Q (.ref s.heap.objs.size) { s with heap:=h' }:=fun its r' hz h' c' kp e =>
  ⟨.ref s.heap.objs.size,_,I.laid (t':=s.toks) kp (Qh _) (show Zap X.prog X.w _ h' _ (.lst ys) from⟨hz,its,c',r',e⟩),rfl,q _ (I.hok.fresh (Qh _))⟩
 rcases hq with hq|hq
 ·obtain⟨its,r',pl,hz⟩:=I.list hq
  have hlen:=r'.length
  obtain⟨o,ho,hc,n,hd⟩:=pl.isList
  exact call_list_seq p (.inl rfl) ho hc hd (fun h' c' kp e=>fin its r' hz h' c' kp e) (by simp only[List.size_toArray]<;>omega)
 ·obtain⟨its,r',pl,hz⟩:=I.tuple hq
  have hlen:=r'.length
  obtain⟨o,ho,hc,n,hd⟩:=pl
  exact call_list_seq p (.inr rfl) ho hc hd (fun h' c' kp e=>fin its r' hz h' c' kp e) (by simp only[List.size_toArray]<;>omega)
def tyV(K:PySem.W.Frag)(T:String)(x:V)(H:Hp):Prop:=match x with
 | .str _=>T = "str"
 | .int _=>T = "int"
 | .ref p=>(T = "list"∧∃xs,SqL K H p xs)∨(T = "tuple"∧∃o,K.lookup p=some o∧o.cls=.type "tuple"∧o.dict=none) ∨
   (T = "dict"∧((∃kvs,H p=some (.dK kvs))∨∃kvs,H p=some (.dT kvs)))∨(T = "set"∧∃S n,H p=some (.set S n))
 | _=>False
theorem ZlB{pins:List (Addr×Obj)}{σ:St}{H:Hp}{s:Shared}{T:String}{x:V}{v:Value}(I:Inv X pins σ H s)(r:ZD x v)(ty:tyV X.K T x H) :
  s.TypeIs v T∧∀a,v=.ref a→∃ob,s.heap.get? a=some ob∧ob.dict=none:=by
 cases x with
 | str z =>
  obtain⟨t,rfl⟩:=r
  cases (show T = "str" from ty)
  exact⟨typeIs_str s z t,fun _ e=>nomatch e⟩
 | int i =>
  obtain⟨t,rfl⟩:=r
  cases (show T = "int" from ty)
  exact⟨typeIs_int s i t,fun _ e=>nomatch e⟩
 | ref p =>
  cases r
  rcases ty with⟨rfl,xs,hq⟩|⟨rfl,o,hk,hc,hd⟩|⟨rfl,hk⟩|⟨rfl,S,n,hk⟩
  ·obtain⟨its,_,pl,_⟩:=I.list hq
   refine⟨pl.isList.typeIs,fun a e=>?_⟩
   cases e
   obtain⟨o,n,e,c,hd,_⟩:=pl
   exact⟨o,e,hd⟩
  ·refine⟨⟨o,I.kIn p o hk,hc⟩,fun a e=>?_⟩
   cases e
   exact⟨o,I.kIn _ o hk,hd⟩
  ·have z:∃o,s.heap.get? p=some o∧o.ExactDict:=by
    rcases hk with⟨kvs,hk⟩|⟨kvs,hk⟩
    ·obtain⟨_,_,_,_,o,_,_,e,ex,_⟩:=I.hok p _ hk
     exact⟨o,e,ex⟩
    ·obtain⟨_,_,_,_,o,_,_,e,ex,_⟩:=I.hok p _ hk
     exact⟨o,e,ex⟩
   obtain⟨o,e,ex⟩:=z
   refine⟨⟨o,e,ex.1⟩,fun a e2=>?_⟩
   cases e2
   exact⟨o,e,ex.2.1⟩
  ·obtain⟨o,_,_,_,e,ex,_⟩:=I.hok p _ hk
   refine⟨⟨o,e,ex.1⟩,fun a e2=>?_⟩
   cases e2
   exact⟨o,e,ex.2.1⟩
 | _=>exact False.elim ty
def Zrh(K:PySem.W.Frag)(T:String)(r:V→List V→Hp→VK→Prop)(to:TE):TE:=fun σ H Q=>to σ H fun x H1=>tyV K T x H1∧r x [] H1 Q
def tBM(K:PySem.W.Frag)(T:String)(r:V→List V→Hp→VK→Prop)(to:TE)(t:TA):TE:=fun σ H Q=>to σ H fun x H1=>tyV K T x H1∧t σ H1 fun xs H2=>r x xs H2 Q
variable {o e:Expr} {es:List Expr} {to:TE} {t:TA} {name:Str} {apos cpos:Pos} {T id:String} {r:V→List V→Hp→VK→Prop}
theorem ZpL(pa:PlainAttrs T)(slot:Slot T name id)(hty:typeOf (.builtin id)=pure (.type "method_descriptor"))(hm:MtR X id r)(ho:PE X o to)
  (hbase:attributeBase o name X.env (eval o X.env)=eval o X.env:=by rfl) (hline:(apos.endLine == cpos.line)=true:=by rfl):PE X (.Call (.Attribute o name apos) [] [] cpos) (Zrh X.K T r to):=by
 intro pins s σ H Q I h
 refine wpAny_Call_method0_late hbase hline (thn (ho pins s σ H _ I h) ?_)
 rintro v s1 ⟨x,H1,I1,r1,ty,q1⟩
 obtain⟨h1,h2⟩:=ZlB I1 r1 ty
 exact⟨T,id,pa,slot,hty,h1,h2,Calls.callWith_builtin rfl (PySem.evalArgs_none (hm pins s1 σ H1 x [] v [] Q I1 r1 .nil q1))⟩
theorem Zdq(pa:PlainAttrs T)(slot:Slot T name id)(hty:typeOf (.builtin id)=pure (.type "method_descriptor"))(hm:MtR X id r)(ho:PE X o to)(ha:PA X (e::es) t)
  (hbase:attributeBase o name X.env (eval o X.env)=eval o X.env:=by rfl)
  (hfew:((backTo cpos (starEach (e::es) X.env)).all (fun x=>!x.1)&&(backToKw cpos (keywordEach [] X.env)).all (fun x=>x.1.isSome)
   && decide ((e::es).length+([]:List Keyword).length+(if ([]:List Keyword).isEmpty then 0 else 1)<30))=true:=by rfl)
  (hline:(apos.endLine == cpos.line)=true:=by rfl) (hs:starEach (e::es) X.env=(false,eval e X.env)::starEach es X.env:=by rfl) (hplain:(backTo cpos (starEach es X.env)).any (·.1)=false:=by rfl) :
  PE X (.Call (.Attribute o name apos) (e::es) [] cpos) (tBM X.K T r to t):=by
 intro pins s σ H Q I h
 refine wpAny_Call_method_late hbase hfew hline rfl (thn (ho pins s σ H _ I h) ?_)
 rintro v s1 ⟨x,H1,I1,r1,ty,q1⟩
 obtain⟨h1,h2⟩:=ZlB I1 r1 ty
 refine⟨T,id,pa,slot,hty,h1,h2,?_⟩
 have hA:=ha cpos pins s1 σ H1 _ I1 q1
 rw[hs]at hA ⊢
 refine Calls.callWith_builtin (by show (false||(backTo cpos (starEach es X.env)).any (·.1))=false;rw[hplain]<;>rfl) (Calls.evalArgs_plain ?_)
 exact thn hA fun us s2 ⟨vs,H2,I2,r2,q2⟩=>hm pins s2 σ H2 x vs v us Q I2 r1 r2 q2
end
def MtM(X:Cx)(id:String)(r:V→List V→Hp→VK→Prop):Prop :=
 ∀ (pins:List (Addr×Obj)) (s:Shared) (σ:St) (H:Hp) (x:V) (xs:List V) (v:Value) (us:List Value) (Q:VK),Inv X pins σ H s→ZD x v→Zy xs us→r x xs H Q →
  wpAny (model X.prog X.w) X.A (call (.builtin id) (v::us)) (EP X pins σ Q) X.xe s
theorem Zy.one:∀ {x:V} {us:List Value},Zy [x] us→∃u,us=[u]∧ZD x u
 | _,_,.cons r .nil=>⟨_,rfl,r⟩
theorem Zy.zero:∀ {us:List Value},Zy [] us→us=[]
 | _,.nil=>rfl
theorem Zy.eraseIdx:∀ {xs:List V} {us:List Value} (i:Nat),Zy xs us→Zy (xs.eraseIdx i) (us.eraseIdx i)
 | _,_,_,.nil=>.nil
 | _,_,0,.cons _ t=>t
 | _,_,i+1,.cons r t=>.cons r (Zy.eraseIdx i t)
theorem Zy.reverse{xs:List V}{us:List Value}(h:Zy xs us):Zy xs.reverse us.reverse:=by
 induction h with
 | nil=>exact .nil
 | cons r t ih=>rw[Qaq,Qaq];exact Zy.append ih (.cons r .nil)
section
variable {X:Cx} {pins:List (Addr×Obj)} {σ:St} {H:Hp} {s:Shared} {l b:Addr} {xs ys zs:List V}
theorem Inv.lset{its its':List Value}{n:Nat}{f:Array Value→Array Value}{t':Nat}(I:Inv X pins σ H s)(hH:H l=some (.lst xs))
  (e:s.heap.get? l=some { cls:=.type "list",data:=.seq its.toArray n }) (hf:f its.toArray=its'.toArray) (hv:Zy ys its') (hz:ys.length≤sizeLine) :
  Inv X pins σ (upd H l (.lst ys)) { s with heap:=s.heap.update l (Obj.mapSeq f),toks:=t' }:=by
 have q:=PySem.IsL.update e f
 rw[hf]at q
 refine I.write (x:=l) (e:=l) (by rw[hH];exact trivial) (.inl rfl) (fun b' u hb hu=>(Heap.get?_update_other s.heap (Obj.mapSeq f) (Ne.symm hb)).trans hu) ⟨_,q⟩ ?_
 exact⟨hz,its',_,hv,q⟩
theorem Inv.lnew{its:List Value}{t':Nat}(I:Inv X pins σ H s)(hv:Zy ys its)(hz:ys.length≤sizeLine) :
  Inv X pins σ (upd H s.heap.objs.size (.lst ys)) { s with heap:=s.heap.push { cls:=.type "list",data:=.seq its.toArray },toks:=t' } :=
 I.laid (fun _ _ q=>Qs _ q) (Qh _) ⟨hz,its,0,hv,QL _ rfl⟩
theorem Inv.fresh(I:Inv X pins σ H s):H s.heap.objs.size=none:=I.hok.fresh (Qh _)
theorem Inv.lstM(I:Inv X pins σ H s)(hH:H l=some (.lst xs)):xs.length≤sizeLine∧∃ (its:List Value) (n:Nat),Zy xs its∧xs.length=its.length∧s.heap.get? l=some { cls:=.type "list",data:=.seq its.toArray n }:=by
 obtain⟨z,its,n,r,e⟩:=I.hok l _ hH
 exact⟨z,its,n,r,r.length,e⟩
end
section
variable {X:Cx}
def Zn5:V→List V→Hp→VK→Prop:=fun x vs H Q=>∃l xs y,x=.ref l∧vs=[y]∧H l=some (.lst xs)∧xs.length<sizeLine∧Q .non (upd H l (.lst (xs++[y])))
theorem ZaR:MtM X "list.append" Zn5:=by
 intro pins s σ H x vs v us Q I rx rv h
 obtain⟨l,xs,y,rfl,rfl,hH,hz,q⟩:=h
 cases rx
 obtain⟨u,rfl,ru⟩:=rv.one
 obtain⟨z,its,n,r,hl,e⟩:=I.lstM hH
 refine call_meets F.slot_list_append ⟨_,e,rfl⟩ F.entry_list_append (F.args_list_append_2 _ _) (PySem.list_append l its.toArray n u (by rw[QB];omega)) ⟨e,?_⟩
 refine⟨.non,_,I.lset (its':=its++[u]) hH e (by simp) (r.append (.cons ru .nil)) ?_,rfl,q⟩
 rw[Qf,Qm]
 omega
def rExtend:V→List V→Hp→VK→Prop:=fun x vs H Q=>∃l b xs zs,x=.ref l∧vs=[.ref b]∧H l=some (.lst xs)∧H b=some (.lst zs)∧xs.length+zs.length≤sizeLine∧Q .non (upd H l (.lst (xs++zs)))
def rPop:V→List V→Hp→VK→Prop:=fun x vs H Q=>∃l xs y,x=.ref l∧vs=[]∧H l=some (.lst xs)∧xs[xs.length-1]? = some y∧Q y (upd H l (.lst xs.dropLast))
def rPopAt:V→List V→Hp→VK→Prop:=fun x vs H Q=>∃l xs i k y,x=.ref l∧vs=[.int i]∧H l=some (.lst xs) ∧ -(2 ^ 63)≤i∧i<2 ^ 63∧seqIndex? i xs.length=some k∧xs[k]? = some y∧Q y (upd H l (.lst (xs.eraseIdx k)))
def Zmx:V→List V→Hp→VK→Prop:=fun x vs H Q=>∃l xs,x=.ref l∧vs=[]∧H l=some (.lst xs)∧Q .non (upd H l (.lst xs.reverse))
theorem ZiN:MtM X "list.reverse" Zmx:=by
 intro pins s σ H x vs v us Q I rx rv h
 obtain⟨l,xs,rfl,rfl,hH,q⟩:=h
 cases rx
 have hus:=rv.zero
 subst hus
 obtain⟨z,its,n,r,hl,e⟩:=I.lstM hH
 refine call_meets F.slot_list_reverse ⟨_,e,rfl⟩ F.entry_list_reverse (F.args_list_reverse_1 _) (AutoSeq1.list_reverse_list_0 l its.toArray n (by rw[QB];omega)) ⟨e,?_⟩
 refine⟨.non,_,I.lset (its':=its.reverse) hH e (by simp) r.reverse ?_,rfl,q⟩
 rw[List.length_reverse]
 omega
def rClear:V→List V→Hp→VK→Prop:=fun x vs H Q=>∃l xs,x=.ref l∧vs=[]∧H l=some (.lst xs)∧Q .non (upd H l (.lst []))
def ZrH:R2:=fun x y H Q=>∃l b xs zs,x=.ref l∧y=.ref b∧H l=some (.lst xs)∧H b=some (.lst zs)∧xs.length+zs.length≤sizeLine∧∀p,H p=none→Q (.ref p) (upd H p (.lst (xs++zs)))
theorem Zpl:OpR X (binaryOp .Add) ZrH:=by
 intro pins s σ H x y v u Q I rx ry h
 obtain⟨l,b,xs,zs,rfl,rfl,hH,hB,hz,q⟩:=h
 cases rx
 cases ry
 obtain⟨z,its,n,r,hl,e⟩:=I.lstM hH
 obtain⟨z2,its2,n2,r2,hl2,e2⟩:=I.lstM hB
 refine PySem.P.add_list e e2 ?_ (by rw[QB,QB];omega)
 have ea:its.toArray++its2.toArray=(its++its2).toArray:=by simp
 rw[ea]
 exact⟨.ref _,_,I.lnew (t':=s.toks) (r.append r2) (by rw[Qf];omega),rfl,q _ I.fresh⟩
def rRep:R2:=fun x y H Q=>∃l k xs,x=.ref l∧y=.int k∧H l=some (.lst xs) ∧ -(2 ^ 63)≤k∧k<2 ^ 63∧xs.length*k.toNat≤sizeLine ∧
 ∀p,H p=none→Q (.ref p) (upd H p (.lst (List.replicate k.toNat xs).flatten))
end
section
variable {prog:Program} {w:World} {A:Around} {E:Value→Shared→Prop} {s:Shared}
end
section
variable {X:Cx}
end
end L2
namespace Att
open PySem PySem.W PySem.Calls PyProof.Rows
theorem Ze3{P:Params}{h:Heap}:∀ (ns:List Int) (vs:List Value),WellAll P h vs (ns.map WData.int)→IntsAre vs ns:=by
 intro ns
 induction ns with
 | nil =>
  intro vs w
  rw[Qai]at w
  cases w
  exact .nil
 | cons n ns ih =>
  intro vs w
  rw[Qn]at w
  cases w with
  | cons a b =>
   cases a
   exact .cons _ _ (ih _ b)
theorem Zkq{l:OpenLaw}{n:Nat}(hn:l.most=some n){P:Params}{h:Heap}{args:List WData}{vals:List Value}
  (hpre:l.row.toRowW.claim.pre args=true) (hwl:WellAll P h vals args) :
  ∃a vs ns,vals=[Value.ref a]∧args=[WData.list (ns.map WData.int)]∧h.get? a=some { cls:=.type "list",data:=.seq vs.toArray }∧IntsAre vs ns∧ns.length≤n:=by
 have hsh:WShape.hasAll [] args [.list .int]=true:=(pre_splitW hpre).1
 have hc:l.pre.holds [] { args:=args }=true:=(pre_splitW hpre).2
 obtain⟨d,r,rfl,h1,h2⟩:=hasAllW_cons hsh
 obtain rfl:=hasAllW_nil h2
 obtain⟨xs,rfl,h3⟩:=hasW_list h1
 obtain⟨ns,rfl⟩:=items_int h3
 have hlen:ns.length≤n:=by
  unfold OpenLaw.pre at hc
  have h4:(WTm.not (.lt (.lit (.int (n:Int))) (.len (.arg 0)))).holds [] { args:=[.list (ns.map .int)] }=true:=by
   have h4:=(holds_andW hc).1
   rw[hn]at h4
   exact h4
  have h5:=condW_of h4 (w_not (w_lt w_lit (w_len_list (w_arg rfl))))
  rw[Qa]at h5
  refine Nat.le_of_not_lt fun q=>?_
  have q':(n:Int)<((ns.length:Nat):Int):=by omega
  first
   | (rw[decide_eq_true q']at h5;exact absurd h5 (by decide))
   | (simp at h5;omega)
 cases hwl with
 | cons w1 w2 =>
  cases w2
  cases w1 with
  | list ho hall=>exact⟨_,_,ns,rfl,rfl,ho,Ze3 ns _ hall,hlen⟩
theorem ZkC(l:OpenLaw)(args:List WData):l.row.toRowW.claim.post args (.bool true) args=true :=
 postW_of (r:=l.row.toRowW) (X:=(true == true))
  (show WShape.has [] (.bool true) .bool=true by first|rfl|decide|simp[WShape.has,WShape.arms,WShape.armsAll])
  (show (WTm.eq .res (.lit (.bool true))).value [] { args:=args,res:=some (.bool true),after:=args }=some (.bool (true == true)) from w_eq_bool (w_res rfl) w_lit) rfl
theorem attach_call{l:OpenLaw}{n:Nat}{q:Program}{loose:List Str}{XP:(Str→Option Value)→Heap→Prop}{YP:World→Heap→Prop}{d:DefRec}
  (hn:l.most=some n) (hdf:d.params.defaults=[])
  (call:∀ (w:World) (s₀ s₁:Shared) (mg mb:Str→Option Value) (fa:Addr) (o:Obj) (pm cd doc:Value) (a:Addr) (vs:List Value) (ns:List Int),
   Ground q loose [] XP w s₀ mg mb s₁.heap→YP w s₁.heap →
   s₁.heap.get? fa=some o→o.data=.func (docDef d.name d.params d.body d.scope pm cd doc)→s₁.heap.CodeRec cd d.name→mg d.name=some (.ref fa) →
   s₁.heap.get? a=some { cls:=.type "list",data:=.seq vs.toArray }→IntsAre vs ns→ns.length≤n→s₁.gens = #[] →
   codeAny (model l.prog w) callerA (.call (.ref fa) ⟨[.ref a],[]⟩) (fun r s'=>r=.ok (.ret (.bool true))∧OldK s₁.heap s'.heap∧s'.os=s₁.os∧AllBare s'.gens) s₁) :
  WalkO q loose XP YP l.row.toRowW d [] (fun f vs=>PySem.call f vs):=by
 intro w s₀ s₁ mg mb G Y fa o pm cd doc dV kV ho hd hcd hD hmg hg args vals as hpre hlay hrd hwl hlo
 obtain rfl:dV=.none:=Dflts.none hD hdf
 obtain rfl:kV=.none:=Dflts.noKw hD
 obtain⟨a,vs,ns,rfl,rfl,hobj,hints,hlen⟩:=Zkq hn hpre hwl
 refine enter_call (codeAny_mono (call w s₀ s₁ mg mb fa o pm cd doc a vs ns G Y ho (fd_plain hd) hcd hmg hobj hints hlen hg) fun r s' hq=>?_)
 obtain⟨rfl,h2,h3,h4⟩:=hq
 exact⟨.inl ⟨.bool true,.bool true,[],rfl,fun _=>rfl,.bool true,ZkC l _,fun _=>⟨List.Pairwise.nil,fun _ hm=>(nomatch hm)⟩⟩,h2,h3,h4⟩
section
variable {prog:Program} {w:World} {A:Around} {E:Value→Shared→Prop} {s:Shared} {K:Frag}
def noObjs(h:Heap):Heap:={ h with objs:=#[] }
def ledger(h:Heap)(L d:Addr):List (Addr×Obj):=(List.range h.objs.size).filterMap fun a=>if a=L∨a=d then none else (h.get? a).map fun o=>(a,o)
end
end Att
namespace L2
open PySem PySem.Spec PyProof.Rows
theorem Zgx:∀ {vs:List Value} {ns:List Int},IntsAre vs ns→Zy (ns.map V.int) vs
 | _,_,.nil=>.nil
 | _,_,.cons n t h=>.cons ⟨t,rfl⟩ (Zgx h)
def ZpP(H:Hp):Prop:=∀b,H b=none∨∃o xs,H b=some (.frz o (.lst xs))
theorem Zl1{P:Program}{w:World}{K:PySem.W.Frag}{mg mb:Str→Option Value}{CX:CXT}{k:Nat}{fa a:Addr}{fd:FuncData}{x:Str}{sp:Sp}{s₁:Shared}{vs:List Value}{ns:List Int}
  (KX:K.In s₁.heap) (hns:s₁.heap.Ns mainGlobals mg) (hb:s₁.heap.Ns builtinsNs mb) (hbb:∀x:Str,x ≠ "__name__"→mb x=bootBuiltins x) (hlim:s₁.heap.NoLimit) (hg:s₁.gens = #[])
  (ha:s₁.heap.get? a=some { cls:=.type "list",data:=.seq vs.toArray }) (hi:IntsAre vs ns) (hl:ns.length≤sizeLine) (hr:ZaG k callerA)
  (F:∀base:Heap,K.In base→base.Ns mainGlobals mg→ZdT P w K mg base CX k fa fd [x] sp) (hbind:∀ (s:Shared) (u:Value),BindsTo s fd ⟨[u],[]⟩ [(x,u)])
  (hsp:∀H:Hp,ZpP H→SqL K H a (ns.map V.int)→sp [.ref a] H (fun v _=>v=.bl true) fun _ _ _=>False)
  (hCX:∀H e s',CX [] H s₁ (fun _ _ _=>False) e s'→False) :
  codeAny (model P w) callerA (.call (.ref fa) ⟨[.ref a],[]⟩) (fun r s'=>r=.ok (.ret (.bool true))∧OldK s₁.heap s'.heap∧s'.os=s₁.os∧AllBare s'.gens) s₁:=by
 have rv:=Zgx hi
 have lenV:=hi.length
 have core:∀H:Hp,ZpP H→SqL K H a (ns.map V.int)→HOk P w H s₁.heap→(∀b,H b≠none→b=a)→(H a≠none→K.lookup a=none) →
   codeAny (model P w) callerA (.call (.ref fa) ⟨[.ref a],[]⟩) (fun r s'=>r=.ok (.ret (.bool true))∧OldK s₁.heap s'.heap∧s'.os=s₁.os∧AllBare s'.gens) s₁:=by
  intro H hO hS hok hA hK
  have base_of:∀ {b:Addr} {o:Obj},s₁.heap.get? b=some o→H b=none→(Zho s₁.heap H).get? b=some o:=fun e n=>Zlb e n
  have noA:∀ {b:Addr} {o:Obj} {es:Array DictEntry} {ep:Nat},s₁.heap.get? b=some o→o.data=.dict es ep→H b=none:=fun {b o es ep} e d=>by
   cases q:H b with
   | none=>rfl
   | some u =>
    have e':b=a:=hA b (by rw[q];simp)
    subst e'
    rw[ha]at e;cases e
    have d':Data.seq vs.toArray _=Data.dict es ep:=d
    cases d'
  have nsK:∀ {b:Addr} {m:Str→Option Value},s₁.heap.Ns b m→(Zho s₁.heap H).Ns b m:=fun {b m} ⟨o,es,ep,e,d,r⟩=>⟨o,es,ep,base_of e (noA e d),d,r⟩
  have hKb:K.In (Zho s₁.heap H):=fun b o e=>base_of (KX b o e) (by
   cases q:H b with
   | none=>rfl
   | some u =>
    have e':b=a:=hA b (by rw[q];simp)
    subst e'
    rw[hK (by rw[q];simp)]at e;cases e)
  have hM:Mod K mg (Zho s₁.heap H):=⟨hKb,nsK hns,⟨mb,nsK hb,hbb⟩,let ⟨mc,h1,h2⟩:=hlim;⟨mc,nsK h1,h2⟩⟩
  have e0:ZiD P w K mg (Zho s₁.heap H) callerA [] s₁ H:=⟨rfl,hM,fun b o e=>ZnY e,Nat.le_of_eq (Zkc _ _),trivial,fun b hb=>absurd (show b∈([]:List Addr) from hb) (by simp),hok,.of_eq hg⟩
  refine codeAny_mono ((F _ hKb (nsK hns)).run callerA [] s₁ H ⟨[.ref a],[]⟩ [.ref a] [.ref a] _ _ hr e0 (hbind s₁ (.ref a)) (.cons rfl .nil) (hsp H hO hS)) fun r s' h=>?_
  cases r with
  | error e=>exact(hCX H e s' h).elim
  | ok fl =>
   cases fl with
   | next=>exact False.elim h
   | brk=>exact False.elim h
   | cont=>exact False.elim h
   | ret u =>
    obtain⟨v,H',os,bare,un,hok',r',q⟩:=h
    have q':v=.bl true:=q
    subst q'
    obtain rfl:u=Value.bool true:=r'
    refine⟨rfl,OldK.of_keep fun b o e=>?_,os,bare⟩
    cases q:H b with
    | none=>exact un.keep b o e q (by intro z;exact absurd (show b∈([]:List Addr) from z) (by simp)) (by simp)
    | some u =>
     rcases hO b with z|⟨ob,xs,z⟩
     ·rw[q]at z;cases z
     ·have z2:=un.frzs b ob _ z
      obtain⟨e1,_⟩:=hok b _ z
      obtain⟨e2,_⟩:=hok' b _ z2
      rw[e]at e1;cases e1
      exact e2
 cases hk:K.lookup a with
 | some o =>
  have e:=KX a o hk
  rw[ha]at e
  cases e
  refine core (fun _=>none) (fun _=>.inl rfl) (.inr ⟨_,vs.toArray,_,hk,rfl,rfl,rfl,by rw[QB,lenV];exact hl,by simpa using rv⟩) (fun b u z=>by have z':(none:Option HO)=some u:=z;cases z') (fun b z=>absurd rfl z) fun z=>absurd rfl z
 | none =>
  refine core (fun b=>if b=a then some (.frz { cls:=.type "list",data:=.seq vs.toArray } (.lst (ns.map V.int))) else none) (fun b=>?_) (.inl (.inr ⟨{ cls:=.type "list",data:=.seq vs.toArray },if_pos rfl⟩)) (fun b u z=>?_) (fun b z=>?_) fun _=>hk
  ·by_cases hb:b=a
   ·exact .inr ⟨_,_,if_pos hb⟩
   ·exact .inl (if_neg hb)
  ·by_cases hb:b=a
   ·have z':=(if_pos hb).symm.trans z
    cases z'
    subst hb
    exact⟨ha,by rw[Qa];exact hl,vs,_,rv,ha⟩
   ·have z':=(if_neg hb).symm.trans z
    cases z'
  ·by_cases hb:b=a
   ·exact hb
   ·exact absurd (if_neg hb) z
abbrev KOf{K:PySem.W.Frag}{h:Heap}(_:K.In h):PySem.W.Frag:=K
theorem walk_of{l:PySem.W.OpenLaw}{n k:Nat}{q:Program}{loose:List Str}{XP:(Str→Option Value)→Heap→Prop}{YP:World→Heap→Prop}{d:DefRec}{K:Params→PySem.W.Frag}{CX:World→CXT}{sp:World→Sp}{x:Str}
  (hn:l.most=some n) (hn2:n≤sizeLine) (hdf:d.params.defaults=[]) (hr:ZaG k callerA)
  (hY:∀ (w:World) (h:Heap),YP w h→(K w.params).In h)
  (F:∀ (w:World) (mg:Str→Option Value) (fa:Addr) (h:Heap),(K w.params).In h→h.Ns mainGlobals mg→mg d.name=some (.ref fa) →
   ∃fd:FuncData,(∀ (s:Shared) (u:Value),BindsTo s fd ⟨[u],[]⟩ [(x,u)]) ∧
    ∀base:Heap,(K w.params).In base→base.Ns mainGlobals mg→ZdT l.prog w (K w.params) mg base (CX w) k fa fd [x] (sp w))
  (hsp:∀ (w:World) (H:Hp) (a:Addr) (ns:List Int),ns.length≤n→ZpP H→SqL (K w.params) H a (ns.map V.int)→sp w [.ref a] H (fun v _=>v=.bl true) fun _ _ _=>False)
  (hCX:∀ (w:World) (H:Hp) (s:Shared) (e:Value) (s':Shared),CX w [] H s (fun _ _ _=>False) e s'→False) :
  PySem.W.WalkO q loose XP YP l.row.toRowW d [] (fun f vs=>PySem.call f vs):=by
 refine Att.attach_call hn hdf fun w s₀ s₁ mg mb fa o pm cd doc a vs ns G Y ho hd hcd hmg hobj hints hlen hg=>?_
 have KX:=hY w _ Y
 obtain⟨fd,hb,hF⟩:=F w mg fa _ KX G.T.g hmg
 exact Zl1 KX G.T.g G.T.b G.T.builtins G.T.nolimit hg hobj hints (QM hlen hn2) hr hF hb (fun H hO hS=>hsp w H a ns hlen hO hS) fun H e s'=>hCX w H s₁ e s'
def ZS(s:Stmt)(j:Nat):Stmt:=match s with
 | .ClassDef _ _ _ body _ _ _ _ _ _ _=>body.getD j (.Pass ⟨0,0,0,0⟩)
 | _=>.Pass ⟨0,0,0,0⟩
def Zq(s:Stmt):Arguments:=match s with
 | .FunctionDef _ a _ _ _ _ _ _ _ _=>a
 | _=>{ posonlyargs:=[],args:=[],vararg:=none,kwonlyargs:=[],kw_defaults:=[],kwarg:=none,defaults:=[] }
def Zm(s:Stmt):List Stmt:=match s with
 | .FunctionDef _ _ b _ _ _ _ _ _ _=>b
 | _=>[]
def Zg(s:Stmt):Scope:=match s with
 | .FunctionDef _ _ _ _ _ _ sc _ _ _=>sc
 | _=>{ kind:=.function,names:=[],isGenerator:=false,isCoroutine:=false }
abbrev CX0:CXT:=fun _ _ _ _ _ _=>False
abbrev E0:XK:=fun _ _ _=>False
theorem Zj3{X:Cx}:Zd5 CX0 X E0:=fun _ _ _ _ _ _ _ h=>h.elim
structure Fun (K:PySem.W.Frag) (x qual:Str) (st:Stmt) (f:Addr) (fd:FuncData):Prop where
 ex:∃ (oc:Value) (od:Option Addr) (kV doc pm:Value) (an:Option Addr) (cdv ct:Value) (osl:Array (Option Value)),
  fd=PySem.W.fnOf x qual (Zq st) (Zm st) (Zg st) .none kV doc pm an cdv ct∧K.lookup f=some ⟨oc,od,.func fd,osl⟩∧PySem.W.codeIn K cdv qual=true
 kp:PySem.W.keepIn K (.ref f)=true
section
variable {P:Program} {w:World} {K:PySem.W.Frag} {mg:Str→Option Value} {base:Heap}
theorem Fun.ok{x qual:Str}{st:Stmt}{f:Addr}{fd:FuncData}{N ps:List Str}{k:Nat}{sp:Sp}(F:Fun K x qual st f fd)(S:Zr N ps (Zg st))(len:∀vs H Q E,sp vs H Q E→vs.length=ps.length)
  (hbody:∀ (cdv:Value) (A:Around) (outer:List Env) (s:Shared) (H:Hp) (vs:List V) (Q:VK) (E:XK),ZaG k (A.deeper (envOfC qual (Zg st) s.heap.objs.size f cdv))→sp vs H Q E →
   ∃t,PSs (Zhc CX0 P w K mg base N qual (Zg st) f cdv A outer s H E).nox (Zm st) t∧t { nx:=fun _ H'=>Q .non H',rt:=Q } (Zda N vs) H):ZdT P w K mg base CX0 (k+1) f fd ps sp:=by
 obtain⟨oc,od,kV,doc,pm,an,cdv,ct,osl,rfl,lk,hcd⟩:=F.ex
 refine Zq7 lk hcd S len fun A outer s H vs Q E hr hsp=>?_
 obtain⟨t,h,q⟩:=hbody cdv A outer s H vs Q E hr hsp
 exact⟨t,h.nox,q⟩
theorem Fun.binds{x qual:Str}{st:Stmt}{f:Addr}{fd:FuncData}{ps:List Str}(F:Fun K x qual st f fd)
  (h:∀ (kV doc pm:Value) (an:Option Addr) (cdv ct:Value) (us:List Value),us.length=ps.length→bindArgs (PySem.W.fnOf x qual (Zq st) (Zm st) (Zg st) .none kV doc pm an cdv ct) ⟨us,[]⟩=pure (ps.zip us)):Zb6 K fd ps []:=by
 obtain⟨oc,od,kV,doc,pm,an,cdv,ct,osl,rfl,lk,hcd⟩:=F.ex
 exact .all (h kV doc pm an cdv ct)
theorem ZY{x qual:Str}{st:Stmt}{f:Addr}{oc:Value}{od an:Option Addr}{osl:Array (Option Value)}{kV doc pm cdv ct:Value}(l:K.lookup f=some ⟨oc,od,.func (PySem.W.fnOf x qual (Zq st) (Zm st) (Zg st) .none kV doc pm an cdv ct),osl⟩)
  (c:PySem.W.codeIn K cdv qual=true) (k:PySem.W.keepIn K (.ref f)=true):Fun K x qual st f (PySem.W.fnOf x qual (Zq st) (Zm st) (Zg st) .none kV doc pm an cdv ct):=⟨⟨oc,od,kV,doc,pm,an,cdv,ct,osl,rfl,l,c⟩,k⟩
end
theorem Zm7{A:Around}{k:Nat}(hr:ZaG k A):A.units+1<cLine:=Qan (Nat.add_le_add_left (by decide:1≤64) _) hr.units
theorem ZJ{n:Nat}(h:n≤1000):n<sizeLine:=Qan h (by decide)
section
variable {X:Cx}
theorem pv(i:Nat){x:Str}{pos:Pos}(hN:X.N[i]? = some x:=by rfl)(hv:Vis X.env.scope x:=by first|exact Or.inl rfl|exact Or.inr (Or.inl rfl)|exact Or.inr (Or.inr rfl))(hd:(x == ("__debug__" : Str))=false:=by decide)
  (hcd:(x == ("__classdict__" : Str))=false:=by decide):PE X (.Name x pos) (Zol i):=ZiC hN hv hd hcd
end
theorem Zdk{A B:Prop}(h:B):if false=true then A else B:=by
 rw[if_neg Qt]
 exact h
theorem ZkL{A B:Prop}(h:A):if true=true then A else B:=by
 rw[if_pos rfl]
 exact h
theorem Za4{c A B:Prop}[Decidable c](h1:c→A)(h2:¬ c→B):if c then A else B:=by
 by_cases h:c
 ·rw[if_pos h]
  exact h1 h
 ·rw[if_neg h]
  exact h2 h
theorem Zjt{c A B:Prop}[Decidable c](hc:c)(h:B):if (!decide c)=true then A else B:=by
 rw[decide_eq_true hc]
 exact Zdk h
def Zu(H H':Hp):Prop:=∀b o,H b=some o→H' b=some o
theorem Zu.refl(H:Hp):Zu H H:=fun _ _ h=>h
theorem Zu.trans{H H1 H2:Hp}(a:Zu H H1)(b:Zu H1 H2):Zu H H2:=fun c o h=>b c o (a c o h)
theorem Zu.free{H H':Hp}(e:Zu H H'){l:Addr}(h:H' l=Option.none):H l=Option.none:=by
 cases q:H l with
 | none=>rfl
 | some o =>
  rw[e l o q]at h
  cases h
theorem Zu.seq{K:PySem.W.Frag}{H H':Hp}{a:Addr}{xs:List V}(e:Zu H H')(h:SqL K H a xs):SqL K H' a xs:=by
 rcases h with(h|⟨o,h⟩)|h
 ·exact .inl (.inl (e _ _ h))
 ·exact .inl (.inr ⟨o,e _ _ h⟩)
 ·exact .inr h
def ZaI(cells:List (Str×Addr)):List (Str×NameKind)→List (Str×Addr)→List (Str×Addr)
 | [],acc=>acc
 | (n,k)::r,acc=>if k == .free then ZaI cells r ((n,(cells.lookup n).getD 0)::acc) else ZaI cells r acc
theorem Zf6{sc:Scope}{env:Env}(h:∀y∈sc.names,y.2=.free→∃c,env.cells.lookup y.1=some c) :
  closureFor sc env=pure (ZaI env.cells sc.names []):=by
 have go:∀ (names:List (Str×NameKind)) (acc:List (Str×Addr)),(∀y∈names,y.2=.free→∃c,env.cells.lookup y.1=some c) →
   (forIn names acc fun (x:Str×NameKind) (r:List (Str×Addr))=>if (x.2 == NameKind.free)=true then (do let c ← cellOf env x.1;pure (ForInStep.yield ((x.1,c)::r))) else pure (ForInStep.yield r):Sem (List (Str×Addr)))=pure (ZaI env.cells names acc):=by
  intro names
  induction names with
  | nil=>intro acc _;rfl
  | cons y r ih =>
   intro acc hy
   obtain⟨n,k⟩:=y
   rw[List.forIn_cons]
   cases hk:(k == NameKind.free) with
   | false =>
    have e1:ZaI env.cells ((n,k)::r) acc=ZaI env.cells r acc:=by
     show (if (k == NameKind.free)=true then _ else _)=_
     rw[hk];rfl
    rw[e1,← ih acc fun z hz=>hy z (Qw _ hz)]
    simp only[hk,Bool.false_eq_true,if_false,pure_bind]
   | true =>
    have hk':k=.free:=by simpa using hk
    obtain⟨c,hc⟩:=hy (n,k) Q2 hk'
    have e1:ZaI env.cells ((n,k)::r) acc=ZaI env.cells r ((n,c)::acc):=by
     show (if (k == NameKind.free)=true then _ else _)=_
     rw[hk,hc];rfl
    have e2:cellOf env n=pure c:=by
     unfold cellOf
     rw[hc]
    rw[e1,← ih ((n,c)::acc) fun z hz=>hy z (Qw _ hz)]
    simp only[hk,if_true,e2,pure_bind]
 have q:=go sc.names [] h
 unfold closureFor
 first
  | (rw[show (forIn sc.names ([]:List (Str×Addr)) _:Sem (List (Str×Addr)))=pure (ZaI env.cells sc.names []) from q];rfl)
  | (simp only[bind_pure];exact q)
  | exact q
theorem Zdx(cells:List (Str×Addr)):∀ (names:List (Str×NameKind)) (acc:List (Str×Addr)) (x:Str) (c:Addr),(ZaI cells names acc).lookup x=some c →
  (∃y∈names,y.1=x∧y.2=.free∧c=(cells.lookup x).getD 0)∨acc.lookup x=some c
 | [],acc,x,c,h=>.inr h
 | (n,k)::r,acc,x,c,h=>by
  by_cases hk:(k == NameKind.free)=true
  ·have e:ZaI cells ((n,k)::r) acc=ZaI cells r ((n,(cells.lookup n).getD 0)::acc):=by
    show (if (k == NameKind.free)=true then _ else _)=_
    rw[if_pos hk]
   rw[e]at h
   rcases Zdx cells r _ x c h with⟨y,hy,q⟩|q
   ·exact .inl ⟨y,Qw _ hy,q⟩
   ·rw[Qaw]at q
    by_cases hx:(x == n)=true
    ·rw[hx]at q
     have hx':x=n:=by simpa using hx
     subst hx'
     exact .inl ⟨(x,k),Q2,rfl,by simpa using hk,(Qp q).symm⟩
    ·have hx':(x == n)=false:=by simpa using hx
     rw[hx']at q
     exact .inr q
  ·have e:ZaI cells ((n,k)::r) acc=ZaI cells r acc:=by
    show (if (k == NameKind.free)=true then _ else _)=_
    rw[if_neg hk]
   rw[e]at h
   rcases Zdx cells r _ x c h with⟨y,hy,q⟩|q
   ·exact .inl ⟨y,Qw _ hy,q⟩
   ·exact .inr q
theorem ZfO(cells:List (Str×Addr)):∀ (names:List (Str×NameKind)) (acc:List (Str×Addr)) (x:Str),((∃y∈names,y.1=x∧y.2=.free)∨∃c,acc.lookup x=some c) →
  ∃c,(ZaI cells names acc).lookup x=some c
 | [],acc,x,h=>by
  rcases h with⟨y,hy,_⟩|h
  ·cases hy
  ·exact h
 | (n,k)::r,acc,x,h=>by
  by_cases hk:(k == NameKind.free)=true
  ·have e:ZaI cells ((n,k)::r) acc=ZaI cells r ((n,(cells.lookup n).getD 0)::acc):=by
    show (if (k == NameKind.free)=true then _ else _)=_
    rw[if_pos hk]
   rw[e]
   refine ZfO cells r _ x ?_
   by_cases hx:(x == n)=true
   ·exact .inr ⟨_,by rw[Qaw,hx]⟩
   ·have hx':(x == n)=false:=by simpa using hx
    rcases h with⟨y,hy,q⟩|⟨c,q⟩
    ·rcases QG.mp hy with rfl|hy
     ·exact absurd (by simpa using q.1.symm) hx
     ·exact .inl ⟨y,hy,q⟩
    ·exact .inr ⟨c,by rw[Qaw,hx'];exact q⟩
  ·have e:ZaI cells ((n,k)::r) acc=ZaI cells r acc:=by
    show (if (k == NameKind.free)=true then _ else _)=_
    rw[if_neg hk]
   rw[e]
   refine ZfO cells r _ x ?_
   rcases h with⟨y,hy,q⟩|h
   ·rcases QG.mp hy with rfl|hy
    ·exact absurd (by simpa using q.2) hk
    ·exact .inl ⟨y,hy,q⟩
   ·exact .inr h
structure Z9 (N N':List Str) (o c:Scope):Prop where
 kind:c.kind=.function
 okind:o.kind=.function
 nocell:∀y∈c.names,y.2≠.cell
 loc:∀y∈c.names,y.2=.local→c.names.lookup y.1=some .local
 free:∀y∈c.names,y.2=.free→c.names.lookup y.1=some .free∧(o.names.lookup y.1=some .cell∨o.names.lookup y.1=some .free)
 len:N.length≤N'.length
 same:∀i∈List.range N.length,∀x∈N'[i]?,c.names.lookup x=some .local∨c.names.lookup x=some .free→c.names.lookup x=some .free∧N[i]? = some x
 nd:N'.Nodup
def ZaM(X:Cx)(c:Scope)(N':List Str)(C:Addr)(s:Shared)(H:Hp)(fp:List Addr):Cx :=
 { X with N:=N',s₀:=s,H₀:=H,env:=compEnvC c (ZaI X.env.cells c.names []) C X.env,outer:=X.stack,stack:=X.stack,ex:=fp,fn:=fun _=>false,pn:=[],xe:=fun _ _=>False }
theorem Zdp{env:Env}(hf:env.scope.kind=.function):∀ (names:List (Str×NameKind)) (x:Str),
  (names.map fun (p:Str×NameKind)=>if (p.2 == NameKind.free&&env.scope.kind == .function&&env.kindOf p.1 == some .cell)=true then (p.1,NameKind.cell) else (p.1,p.2)).lookup x =
   match names.lookup x with
   | some .free=>if env.kindOf x=some .cell then some .cell else some .free
   | k=>k
 | [],x=>rfl
 | (n,k)::r,x=>by
  have ih:=Zdp hf r x
  rw[Qn]
  by_cases hx:(x == n)=true
  ·have hx':x=n:=by simpa using hx
   subst hx'
   have e2:List.lookup x ((x,k)::r)=some k:=by rw[Qaw];simp
   rw[e2]
   by_cases hk:k=.free
   ·subst hk
    by_cases hc:env.kindOf x=some .cell
    ·simp[List.lookup_cons,hf,hc]
    ·simp[List.lookup_cons,hf,hc]
   ·have hk':(k == NameKind.free)=false:=by simpa using hk
    rw[hk']
    simp only[Bool.false_and,Bool.false_eq_true,if_false,List.lookup_cons,beq_self_eq_true]
    all_goals (cases k<;>first|rfl|exact absurd rfl hk)
  ·have hx':(x == n)=false:=by simpa using hx
   have e2:List.lookup x ((n,k)::r)=List.lookup x r:=by rw[Qaw,hx']
   rw[e2,← ih]
   by_cases hc:(k == NameKind.free&&env.scope.kind == .function&&env.kindOf n == some .cell)=true
   ·simp only[hc,if_true,List.lookup_cons,hx']
   ·simp only[hc,if_false,List.lookup_cons,hx',Bool.false_eq_true]
section
variable {X:Cx} {N N':List Str} {o c:Scope}
theorem Zcv(S:Z9 N N' o c)(ho:X.env.scope=o)(cl:List (Str×Addr))(C:Addr)(x:Str):(compEnvC c cl C X.env).kindOf x =
  match c.names.lookup x with
  | some .free=>if X.env.kindOf x=some .cell then some .cell else some .free
  | k=>k:=Zdp (env:=X.env) (by rw[ho];exact S.okind) c.names x
theorem ZcP{names:List (Str×NameKind)}{x:Str}{k:NameKind}(h:names.lookup x=some k):(x,k)∈names:=Qaa h
theorem Zb0(S:Z9 N N' o c)(ho:X.env.scope=o)(ok:X.Ok){x:Str}{a:Addr}(h:(ZaI X.env.cells c.names []).lookup x=some a) :
  X.env.cells.lookup x=some a∧c.names.lookup x=some .free:=by
 rcases Zdx _ _ _ _ _ h with⟨y,hy,rfl,hf,e⟩|q
 ·have hk:=S.free y hy hf
  have hv:X.env.kindOf y.1=some .cell∨X.env.kindOf y.1=some .free:=by
   show X.env.scope.names.lookup y.1=_∨X.env.scope.names.lookup y.1=_
   rw[ho];exact hk.2
  obtain⟨b,hb⟩:=ok.has y.1 hv
  rw[hb]at e
  exact⟨by rw[hb,e];rfl,hk.1⟩
 ·cases q
theorem ZhP(S:Z9 N N' o c)(ho:X.env.scope=o)(ok:X.Ok){x:Str}(h:c.names.lookup x=some .free):∃a,(ZaI X.env.cells c.names []).lookup x=some a∧X.env.cells.lookup x=some a:=by
 obtain⟨a,ha⟩:=ZfO X.env.cells c.names [] x (.inl ⟨(x,.free),ZcP h,rfl,rfl⟩)
 exact⟨a,ha,(Zb0 S ho ok ha).1⟩
theorem Zoh(S:Z9 N N' o c)(ho:X.env.scope=o){pins:List (Addr×Obj)}{σ:St}{H:Hp}{s:Shared}{fp:List Addr}(I:Inv X pins σ H s)
  (hf:∀b∈fp,Zfw X pins H b) (ht:∀b∈fp,b<s.heap.objs.size):(ZaM X c N' s.heap.objs.size s H fp).Ok where
 mod:=I.ok.mod
 kind:=S.kind
 glob:=I.ok.glob
 blt:=I.ok.blt
 above:=Qh _
 inj:=fun x y a h1 h2=>I.ok.inj x y a (Zb0 S ho I.ok h1).1 (Zb0 S ho I.ok h2).1
 has:=fun x hx=>by
  have e:=Zcv (X:=X) S ho (ZaI X.env.cells c.names []) s.heap.objs.size x
  have hx':(compEnvC c (ZaI X.env.cells c.names []) s.heap.objs.size X.env).kindOf x=some .cell∨(compEnvC c (ZaI X.env.cells c.names []) s.heap.objs.size X.env).kindOf x=some .free:=hx
  rw[e]at hx'
  cases q:c.names.lookup x with
  | none=>rw[q]at hx';rcases hx' with z|z<;>cases z
  | some k =>
   by_cases hk:k=.free
   ·subst hk
    obtain⟨a,ha,_⟩:=ZhP S ho I.ok q
    exact⟨a,ha⟩
   ·rw[q]at hx'
    have hc:k=.cell:=by
     cases k<;>first|rfl|exact absurd rfl hk|(rcases hx' with z|z<;>cases z)
    subst hc
    exact absurd rfl (S.nocell _ (ZcP q))
 cab:=fun x a h=>by cases (show false=true from h)
 hd:=I.ok.hd
 frames:=I.ok.frames
 stk:=.inl rfl
 exf:=fun b hb=>⟨QS (ht b hb),fun x a h=>(hf b hb).2.2.2.2.1 x a (Zb0 S ho I.ok h).1⟩
 bs:=fun b ob e=>I.bs b ob e
 bsz:=QM I.ok.bsz I.sz
 noex:=fun b ob e hb=>by
  rcases(hf b hb).2.2.2.1 with z|z
  ·exact I.ok.noex b ob e z
  ·exact absurd (QF (Qy e) (QM I.ok.bsz z)) (Qak _)
 exfs:=fun b hb hb'=>by
  rcases QG.mp (I.stkSub b hb') with z|z
  ·exact(hf b hb).2.1 z
  ·exact(hf b hb).2.2.1 z
 funs:=I.stack
 frf:=I.stkFree
theorem ZlI(S:Z9 N N' o c)(hN:X.N=N)(ho:X.env.scope=o){pins:List (Addr×Obj)}{σ:St}{H:Hp}{s:Shared}{fp:List Addr}{h₁:Heap}{tk:Nat}{m₀:Str→Option Value}(I:Inv X pins σ H s)
  (hf:∀b∈fp,Zfw X pins H b) (ht:∀b∈fp,b<s.heap.objs.size) (hns:h₁.Ns s.heap.objs.size m₀) (hk:∀b ob,s.heap.get? b=some ob→h₁.get? b=some ob) :
  Inv (ZaM X c N' s.heap.objs.size s H fp) [] (σ++List.replicate (N'.length-N.length) none) H { s with heap:=h₁,toks:=tk } where
 ok:=Zoh S ho I hf ht
 os:=rfl
 bare:=I.bare
 base:=Un.kept hk
 loc:=by
  refine⟨m₀,hns,fun i x v e1 e2 e3=>?_⟩
  obtain⟨m,hn,hl⟩:=I.loc
  have hlen:σ.length=N.length:=by rw[I.len,hN]
  have hi:i<σ.length:=by
   by_cases hi:i<σ.length
   ·exact hi
   ·rw[QN (by omega),List.getElem?_replicate]at e2
    split at e2<;>cases e2
  have e2':σ[i]? = some (some v):=by rw[QU hi]at e2;exact e2
  have kd:=Zcv (X:=X) S ho (ZaI X.env.cells c.names []) s.heap.objs.size x
  have vis:c.names.lookup x=some .local∨c.names.lookup x=some .free:=by
   have e3':(compEnvC c (ZaI X.env.cells c.names []) s.heap.objs.size X.env).kindOf x=some .local∨(compEnvC c (ZaI X.env.cells c.names []) s.heap.objs.size X.env).kindOf x=some .cell∨(compEnvC c (ZaI X.env.cells c.names []) s.heap.objs.size X.env).kindOf x=some .free:=e3
   rw[kd]at e3'
   cases q:c.names.lookup x with
   | none=>rw[q]at e3';rcases e3' with z|z|z<;>cases z
   | some k =>
    cases k with
    | «local»=>exact .inl rfl
    | free=>exact .inr rfl
    | cell=>exact absurd rfl (S.nocell _ (ZcP q))
    | _=>rw[q]at e3';rcases e3' with z|z|z<;>cases z
  obtain⟨hfr,hNi⟩:=S.same i (Q5.mpr (by omega)) x (by rw[show N'[i]? = some x from e1];rfl) vis
  have hok:X.env.kindOf x=some .cell∨X.env.kindOf x=some .free:=by
   show X.env.scope.names.lookup x=_∨X.env.scope.names.lookup x=_
   rw[ho];exact(S.free _ (ZcP hfr) rfl).2
  obtain⟨u,r,l⟩:=hl i x v (by rw[hN];exact hNi) e2' (.inr hok)
  refine⟨u,r,.inr ⟨?_,?_⟩⟩
  ·show (compEnvC c (ZaI X.env.cells c.names []) s.heap.objs.size X.env).kindOf x=some .cell∨(compEnvC c (ZaI X.env.cells c.names []) s.heap.objs.size X.env).kindOf x=some .free
   rw[kd,hfr]
   show (if X.env.kindOf x=some .cell then some NameKind.cell else some NameKind.free)=some .cell∨(if X.env.kindOf x=some .cell then some NameKind.cell else some NameKind.free)=some .free
   by_cases q:X.env.kindOf x=some .cell
   ·rw[if_pos q];exact .inl rfl
   ·rw[if_neg q];exact .inr rfl
  ·obtain⟨a,ha,ha'⟩:=ZhP S ho I.ok hfr
   refine⟨a,ha,?_⟩
   rcases l with⟨z,_⟩|⟨_,a',e,ob,hob,hd⟩
   ·rcases hok with q|q<;>rw[q]at z<;>cases z
   ·rw[ha']at e;cases e
    exact⟨ob,hk _ _ hob,hd⟩
 cell:=fun x a h=>by
  obtain⟨v,ob,e,d⟩:=I.cell x a (Zb0 S ho I.ok h).1
  exact⟨v,ob,hk _ _ e,d⟩
 free:=I.hok.fresh (Qh _)
 freeC:=fun x a h=>I.freeC x a (Zb0 S ho I.ok h).1
 pin:=fun p hp=>absurd (show p∈([]:List (Addr×Obj)) from hp) (by simp)
 hok:=I.hok.kept hk
 len:=by
  have hlen:σ.length=N.length:=by rw[I.len,hN]
  have:=S.len
  show (σ++List.replicate (N'.length-N.length) none).length=N'.length
  rw[Qf,List.length_replicate]
  omega
end
abbrev Zjq(ifs:List Expr)(env:Env):Sem Bool :=
 forIn ifs true fun k r=>if r=true then do let ok ← isTrue k env (eval k env);pure (ForInStep.yield ok) else pure (ForInStep.yield r)
def PTs(X:Cx)(ifs:List Expr)(t:TT):Prop :=
 ∀ (pins:List (Addr×Obj)) (s:Shared) (σ:St) (H:Hp) (Q:Bool→Hp→Prop),Inv X pins σ H s→t σ H Q→wpAny (model X.prog X.w) X.A (Zjq ifs X.env) (TP X pins σ Q) X.xe s
def ZiP:TT:=fun _ H Q=>Q true H
theorem Zbg{X:Cx}:PTs X [] ZiP:=fun _ _ _ H _ I h=>wpAny_tests_nil ⟨H,I,h⟩
section
variable {prog:Program} {w:World} {A:Around} {R:Result→Shared→Prop} {s:Shared}
theorem Zg6{elt target iter:Expr}{ifs:List Expr}{scope:Scope}{pos:Pos}{it acc:Value}{env:Env}{E:Value→Shared→Prop}(I:Nat→Shared→Prop)
  (hE:∀e s',E e s'→False)
  (turn:∀n s,I n s→wpAny (model prog w) A (pyNext it) (fun r s₁=>match r with
   | none=>R (.ok .next) s₁
   | some v=>wpAny (model prog w) A (letOwnedTupleGo target it v) (fun _ s₀=>wpAny (model prog w) A (assign target env v) (fun _ s₂ =>
     wpAny (model prog w) A (Zjq ifs env) (fun ok s₃ =>
      if ok=true then wpAny (model prog w) A (eval elt env) (fun x s₄ =>
       wpAny (model prog w) A (call (.builtin "list.append") [acc,x]) (fun _ s₅=>∃m,m<n∧I m s₅) E s₄) E s₃
      else ∃m,m<n∧I m s₃) E s₂) E s₀) E s₁) E s)
  (n:Nat) (h:I n s):codeAny (model prog w) A (.compLoop (.ListComp elt [⟨target,iter,ifs,0⟩] scope pos) 0 it acc env) R s:=by
 have go:∀ {α:Type} {t:Sem α} {Q:α→Shared→Prop} {s:Shared},wpAny (model prog w) A t Q E s→wpAny (model prog w) A t Q (notedBy (model prog w) A env fun e s'=>R (.error e) s') s :=
  fun {α t Q s} q=>wpAny_mono q (fun _ _ z=>z) fun e s' z=>(hE e s' z).elim
 refine codeAny_loop rfl I (fun n s hI=>?_) n h
 show wpAny _ A ((compTurn (.ListComp elt [⟨target,iter,ifs,0⟩] scope pos) 0 it acc env).onRaise (fun x=>do noteFrame x env;theTreesLotGoes x)) _ _ s
 refine wpAny_noted ?_
 rw[compTurn_list]
 refine wpAny_bind (wpAny_standAt (wpAny_bind (thn (go (turn n s hI)) fun r s₁ h₁=>?_)))
 cases r with
 | none=>exact wpAny_pure h₁
 | some v =>
  refine wpAny_bind (thn (go h₁) fun _ s₀ h₀=>wpAny_bind (thn (go h₀) fun _ s₂ h₂=>wpAny_bind (thn (go h₂) fun ok s₃ h₃=>?_)))
  cases ok with
  | false=>exact wpAny_pure ⟨rfl,h₃⟩
  | true =>
   exact wpAny_bind (wpAny_bind (thn (go h₃) fun x s₄ h₄=>wpAny_bind (thn (go h₄) fun _ s₅ h₅=>wpAny_pure (wpAny_pure ⟨rfl,h₅⟩))))
end
def Zhs(J:It)(D:Addr)(k:Nat)(σ:St)(H1:Hp)(g:TG)(tc:TT)(te:TE)(Q:VK):Prop :=
 ∃W:Nat→Nat→List V→St→Hp→Prop,(∃m,W 0 m [] (σ++List.replicate k none) (upd H1 D (.lst []))) ∧
  ∀i m ys σ2 H2,W i m ys σ2 H2→(J.stop i H2∧Q (.ref D) H2) ∨
   (J.go i H2∧∃N:List V→St→Hp→Prop,(∀ys' σ' H',N ys' σ' H'→∃m',m'<m∧W (i+1) m' ys' σ' H')∧∀x H3,J.yld i H2 x H3→g x σ2 H3 fun σ4 H4=>tc σ4 H4 fun b H5 =>
    if b=true then te σ4 H5 fun y H6=>H6 D=some (.lst ys)∧ys.length<sizeLine∧N (ys++[y]) σ4 (upd H6 D (.lst (ys++[y]))) else N ys σ4 H5)
def ZlK(n:Nat)(wi:TI)(g:TG)(tc:TT)(te:TE):TE:=fun σ H Q=>wi σ H fun J H1=>∀D,H1 D=none→Zhs J D n σ H1 g tc te Q
section
variable {X:Cx} {N N':List Str} {o c:Scope}
theorem ZhO{elt tg iter:Expr}{ifs:List Expr}{pos pos':Pos}{wi:TI}{g:TG}{tc:TT}{te:TE}{use:Option (Value→Sem Unit)}{QQ:Value→Shared→Prop}(S:Z9 N N' o c)(hN:X.N=N)(ho:X.env.scope=o)(hc:X.calm=true)
  (hi:PI X tg iter wi) (hg:∀C s H fp,PG (ZaM X c N' C s H fp) tg g) (ht:∀C s H fp,PTs (ZaM X c N' C s H fp) ifs tc) (he:∀C s H fp,PE (ZaM X c N' C s H fp) elt te)
  (hs:∀x,foldedSetIterable iter X.env x=pure x) {pins:List (Addr×Obj)} {s:Shared} {σ:St} {H:Hp} {Q:VK} (I:Inv X pins σ H s) (h:ZlK (N'.length-N.length) wi g tc te σ H Q)
  (post:∀ (D C:Addr) (s5:Shared) (H5:Hp) (m:Str→Option Value),Inv X pins σ H5 s5→H5 C=none→s5.heap.Ns C m→C≠X.env.locals→X.s₀.heap.objs.size≤C→(∀x a,X.env.cells.lookup x=some a→a≠C)→(∀p∈X.pn++pins,p.1≠C) →
   Q (.ref D) H5→compPost (model X.prog X.w) X.A X.xe use QQ (.ref D) C (.ok .next) s5) :
  wpAny (model X.prog X.w) X.A (comprehension (.ListComp elt [⟨tg,iter,ifs,0⟩] c pos) c X.env pos' (newList []) false (eval iter X.env) use) QQ X.xe s:=by
 have hclos:closureFor c X.env=pure (ZaI X.env.cells c.names []):=Zf6 fun y hy hf=>by
  refine I.ok.has y.1 ?_
  show X.env.scope.names.lookup y.1=_∨X.env.scope.names.lookup y.1=_
  rw[ho];exact(S.free y hy hf).2
 refine wpAny_comprehension_free (use:=use) rfl hs hclos S.kind S.loc (thn (hi pins s σ H _ I h) fun v s1 h1=>thn h1 fun itv s2 h2=>?_)
 obtain⟨it,fp,tn,J,H2,e,I2,T,st2,f2,hR⟩:=h2
 subst e
 have hD:H2 s2.heap.objs.size=none:=I2.fresh
 have I3:Inv X pins σ (upd H2 s2.heap.objs.size (.lst [])) { s2 with heap:=s2.heap.push { cls:=.type "list",data:=.seq ([]:List Value).toArray } } :=
  I2.lnew (ys:=[]) (its:=[]) (t':=s2.toks) .nil (Qv _)
 have fpl:∀b∈fp,b<s2.heap.objs.size:=fun b hb=>by
  obtain⟨ob,e,_⟩:=T.obj 0 _ st2 b hb
  exact Qy e
 refine wpAny_newObj_type (wpAny_newFunctionEnv S.nocell (by intro y hy;simp at hy) (fun h₁ hns₁ hsb₁=>?_) S.kind)
 have e3:∃s3:Shared,s3={ s2 with heap:=s2.heap.push { cls:=.type "list",data:=.seq ([]:List Value).toArray } }:=⟨_,rfl⟩
 obtain⟨s3,hs3⟩:=e3
 have e3:s3.heap=s2.heap.push { cls:=.type "list",data:=.seq ([]:List Value).toArray }:=by rw[hs3]
 have sz3:s3.heap.objs.size=s2.heap.objs.size+1:=by rw[e3,Heap.size_push]
 have fpl3:∀b∈fp,b<s3.heap.objs.size:=fun b hb=>QF (fpl b hb) (by rw[sz3];exact QaD _)
 have f3:∀b∈fp,Zfw X pins (upd H2 s2.heap.objs.size (.lst [])) b:=fun b hb=>⟨by rw[Zd (QS (fpl b hb))];exact(f2 b hb).1,(f2 b hb).2⟩
 have st3:tn 0 s3.heap:=T.keep 0 _ _ st2 fun b _ ob e=>by rw[e3];exact Qs _ e
 rw[← hs3]at I3
 show codeAny (model X.prog X.w) X.A (.compStart _ 0 (.ref it) (.ref s2.heap.objs.size) (compEnvC c (ZaI X.env.cells c.names []) (s2.heap.push { cls:=.type "list",data:=.seq ([]:List Value).toArray }).objs.size X.env))
  (compPost (model X.prog X.w) X.A X.xe use QQ (.ref s2.heap.objs.size) (s2.heap.push { cls:=.type "list",data:=.seq ([]:List Value).toArray }).objs.size)
  { s2 with heap:=h₁,toks:=s2.toks+([]:List (Str×Value)).length }
 have hns:h₁.Ns s3.heap.objs.size (fun x=>([]:List (Str×Value)).reverse.lookup x):=by rw[e3];exact hns₁
 have hk1:∀b ob,s3.heap.get? b=some ob→h₁.get? b=some ob:=fun b ob e=>by
  rw[e3]at e
  exact hsb₁.extBut b ob (QS (Qy e)) (Qs _ e)
 rw[← e3]
 have es4:({ s2 with heap:=h₁,toks:=s2.toks+([]:List (Str×Value)).length }:Shared)={ s3 with heap:=h₁,toks:=s2.toks }:=by rw[hs3];rfl
 rw[es4]
 obtain⟨W,⟨m0,w0⟩,turn⟩:=hR s2.heap.objs.size hD
 have I4:=ZlI (tk:=s2.toks) S hN ho I3 f3 fpl3 hns hk1
 have st4:tn 0 h₁:=T.keep 0 _ _ st3 fun b _ ob e=>hk1 b ob e
 generalize hX:ZaM X c N' s3.heap.objs.size s3 (upd H2 s2.heap.objs.size (.lst [])) fp=Y at I4
 have Yp:Y.prog=X.prog:=by rw[← hX];rfl
 have Yw:Y.w=X.w:=by rw[← hX];rfl
 have YK:Y.K=X.K:=by rw[← hX];rfl
 have Yc:Y.calm=true:=by rw[← hX];exact hc
 have YA:Y.A=X.A:=by rw[← hX];rfl
 have Yenv:Y.env=compEnvC c (ZaI X.env.cells c.names []) s3.heap.objs.size X.env:=by rw[← hX];rfl
 have Yl:Y.env.locals=s3.heap.objs.size:=by rw[Yenv];rfl
 have Yxe:Y.xe=fun _ _=>False:=by rw[← hX];rfl
 have hg':=hg s3.heap.objs.size s3 (upd H2 s2.heap.objs.size (.lst [])) fp
 have ht':=ht s3.heap.objs.size s3 (upd H2 s2.heap.objs.size (.lst [])) fp
 have he':=he s3.heap.objs.size s3 (upd H2 s2.heap.objs.size (.lst [])) fp
 rw[hX]at hg' ht' he'
 have stat:∀ {H':Hp},(∀b∈fp,H' b=none)→∀b∈fp,Zfw Y [] H' b:=fun {H'} hn b hb=>by
  obtain⟨_,q1,q2,q3,q4,_⟩:=f3 b hb
  have z1:=I4.ok.exf b (by rw[← hX];exact hb)
  refine⟨hn b hb,z1.1,I4.ok.exfs b (by rw[← hX];exact hb),.inl (by rw[← hX];exact hb),z1.2,fun p hp=>?_⟩
  have hp':p∈([]:List (Addr×Obj)):=by
   have:Y.pn=[]:=by rw[← hX];rfl
   rw[this]at hp;exact hp
  cases hp'
 have fin:∀ (s5:Shared) (σ5:St) (H5:Hp),Inv Y [] σ5 H5 s5→Q (.ref s2.heap.objs.size) H5→compPost (model X.prog X.w) X.A X.xe use QQ (.ref s2.heap.objs.size) s3.heap.objs.size (.ok .next) s5:=fun s5 σ5 H5 I5 q=>by
  obtain⟨m,hn,_⟩:=id I5.loc
  rw[Yl]at hn
  have hCn:H5 s3.heap.objs.size=none:=by have:=I5.free;rw[Yl]at this;exact this
  have un:Un (frs X.stack) fp (upd H2 s2.heap.objs.size (.lst [])) H5 s3.heap s5.heap:=by
   have:=I5.base
   rw[← hX]at this
   exact this
  have os5:s5.os=s3.os:=by have:=I5.os;rw[← hX]at this;exact this
  have hok5:HOk X.prog X.w H5 s5.heap:=by
   have:=I5.hok
   rw[Yp,Yw]at this
   exact this
  refine post _ _ s5 H5 m (I3.call' (s':=s5) (ch:=fp) os5 un hok5 I5.bare fun b hb=>?_) hCn hn (Nat.ne_of_gt I3.lt) I3.sz (fun x a e=>?_) (fun p hp=>?_) q
  ·obtain⟨_,q1,_,q3,q4,q5⟩:=f3 b hb
   exact⟨q3,q1,q4,q5⟩
  ·obtain⟨v,ob,e',_⟩:=I3.cell x a e
   exact QS (Qy e')
  ·exact QS (Qy (I3.pin p hp).1)
 have loop:codeAny (model X.prog X.w) X.A (.compLoop (.ListComp elt [⟨tg,iter,ifs,0⟩] c pos) 0 (.ref it) (.ref s2.heap.objs.size) (compEnvC c (ZaI X.env.cells c.names []) s3.heap.objs.size X.env))
   (compPost (model X.prog X.w) X.A X.xe use QQ (.ref s2.heap.objs.size) s3.heap.objs.size) { s3 with heap:=h₁,toks:=s2.toks }:=by
  rw[← Yenv,← YA]
  refine Zg6 (E:=fun _ _=>False) (fun n s'=>∃i ys σ' H',Inv Y [] σ' H' s'∧tn i s'.heap∧(∀b∈fp,H' b=none)∧W i n ys σ' H') (fun _ _ z=>z) ?_ m0
   ⟨0,[],_,_,I4,st4,fun b hb=>(f3 b hb).1,?_⟩
  ·rintro n s5 ⟨i,ys,σ5,H5,I5,st5,fr5,w5⟩
   rcases turn i n ys σ5 H5 w5 with⟨stop,qn⟩|⟨go,Nn,hNn,step⟩
   ·refine thn (T.done Y Yp Yw YK Yc i [] s5 σ5 H5 _ I5 (stat fr5) st5 stop) ?_
    rintro r s6 ⟨hr,I6⟩
    subst hr
    have fq:=fin s6 σ5 H5 I6 qn
    rw[← YA]at fq
    exact fq
   ·refine thn (T.item Y Yp Yw YK Yc i [] s5 σ5 H5 _ I5 (stat fr5) st5 go) ?_
    rintro r s6 ⟨u,hr,h6⟩
    subst hr
    refine thn h6 ?_
    rintro _ s7 ⟨x,H7,I7,r7,y7,st7,fr7⟩
    have I7':=I7.pinned (stat fr7) (T.obj _ _ st7)
    have back:∀ {σ9:St} {H9:Hp} {s9:Shared},Inv Y ([]++ZfJ fp s7.heap) σ9 H9 s9→Inv Y [] σ9 H9 s9∧tn (i+1) s9.heap∧∀b∈fp,H9 b=none:=fun {σ9 H9 s9} I9=>by
     refine⟨I9.unpinned,T.keep _ _ _ st7 fun b hb ob e=>(I9.pin (b,ob) (Ql _ (Ql _ (ZcV hb e)))).1,fun b hb=>?_⟩
     obtain⟨ob,e,d⟩:=T.obj _ _ st7 b hb
     exact(I9.pin (b,ob) (Ql _ (Ql _ (ZcV hb e)))).2.1
    have P1:=hg' _ s7 σ5 H7 x u _ I7' r7 (step x H7 y7)
    rw[Yp,Yw,Yxe]at P1
    refine thn P1 ?_
    rintro _ s8 ⟨σ8,H8,I8,q8⟩
    have P2:=ht' _ s8 σ8 H8 _ I8 q8
    rw[Yp,Yw,Yxe]at P2
    refine thn P2 ?_
    rintro ok s9 ⟨H9,I9,q9⟩
    cases ok with
    | false =>
     rw[if_neg Qt]at q9
     rw[if_neg Qt]
     obtain⟨b1,b2,b3⟩:=back I9
     obtain⟨m',hm',w9⟩:=hNn _ _ _ q9
     exact⟨m',hm',i+1,ys,σ8,H9,b1,b2,b3,w9⟩
    | true =>
     rw[if_pos rfl]at q9
     rw[if_pos rfl]
     have P3:=he' _ s9 σ8 H9 _ I9 q9
     rw[Yp,Yw,Yxe]at P3
     refine thn P3 ?_
     rintro y s10 ⟨vy,H10,I10,r10,hDl,hsz,q10⟩
     have P4:=ZaR (X:=Y) _ s10 σ8 H10 (.ref s2.heap.objs.size) [vy] (.ref s2.heap.objs.size) [y] (fun _ H'=>Nn (ys++[vy]) σ8 H') I10 rfl (.cons r10 .nil) ⟨_,ys,vy,rfl,rfl,hDl,hsz,q10⟩
     rw[Yp,Yw,Yxe]at P4
     refine thn P4 ?_
     rintro _ s11 ⟨_,H11,I11,_,q11⟩
     obtain⟨b1,b2,b3⟩:=back I11
     obtain⟨m',hm',w11⟩:=hNn _ _ _ q11
     exact⟨m',hm',i+1,ys++[vy],σ8,H11,b1,b2,b3,w11⟩
  ·exact w0
 have lp:=T.self X.A 0 { s3 with heap:=h₁,toks:=s2.toks } (fun it' s'=>codeAny (model X.prog X.w) X.A (.compLoop (.ListComp elt [⟨tg,iter,ifs,0⟩] c pos) 0 it' (.ref s2.heap.objs.size) (compEnvC c (ZaI X.env.cells c.names []) s3.heap.objs.size X.env))
   (compPost (model X.prog X.w) X.A X.xe use QQ (.ref s2.heap.objs.size) s3.heap.objs.size) s') (fun _ _=>False) st4 loop
 exact codeAny_compStart_list loop (wpAny_mono lp (fun _ _ z=>z) fun _ _ z=>z.elim)
theorem Inv.let{pins:List (Addr×Obj)}{σ:St}{H:Hp}{s:Shared}{C:Addr}{h':Heap}(I:Inv X pins σ H s)(hn:H C=none)(hL:C≠X.env.locals)(h1:X.s₀.heap.objs.size≤C)
  (h2:∀x a,X.env.cells.lookup x=some a→a≠C) (h3:∀p∈X.pn++pins,p.1≠C) (hs:Heap.SameBut C s.heap h'):Inv X pins σ H { s with heap:=h' } :=
 I.turned (t':=s.toks) (fun b ob hb e=>hs.extBut b ob hb e) hn hL (.inr h1) h2 h3
theorem ZbU{elt tg iter:Expr}{ifs:List Expr}{pos:Pos}{wi:TI}{g:TG}{tc:TT}{te:TE}(S:Z9 N N' o c)(hN:X.N=N)(ho:X.env.scope=o)(hc:X.calm=true)
  (hi:PI X tg iter wi) (hg:∀C s H fp,PG (ZaM X c N' C s H fp) tg g) (ht:∀C s H fp,PTs (ZaM X c N' C s H fp) ifs tc) (he:∀C s H fp,PE (ZaM X c N' C s H fp) elt te)
  (hs:∀x,foldedSetIterable iter X.env x=pure x:=by intro _;rfl) :
  PE X (.ListComp elt [⟨tg,iter,ifs,0⟩] c pos) (ZlK (N'.length-N.length) wi g tc te):=by
 intro pins s σ H Q I h
 rw[eval_ListComp]
 refine ZhO (use:=none) S hN ho hc hi hg ht he hs I h fun D C s5 H5 m I5 hCn hn n1 n2 n3 n4 q=>⟨m,hn,fun h' hsb=>?_⟩
 exact⟨.ref D,H5,I5.let hCn n1 n2 n3 n4 hsb,rfl,q⟩
theorem Zd3{i:Nat}{x:Str}{elt tg iter:Expr}{ifs:List Expr}{pos pos' spos:Pos}{wi:TI}{g:TG}{tc:TT}{te:TE}(hnd:X.N.Nodup)(hx:X.N[i]? = some x)(hl:Loc X.env.scope x)(S:Z9 N N' o c)(hN:X.N=N)(ho:X.env.scope=o)(hc:X.calm=true)
  (hi:PI X tg iter wi) (hg:∀C s H fp,PG (ZaM X c N' C s H fp) tg g) (ht:∀C s H fp,PTs (ZaM X c N' C s H fp) ifs tc) (he:∀C s H fp,PE (ZaM X c N' C s H fp) elt te)
  (hsw:swapsWith (.ListComp elt [⟨tg,iter,ifs,0⟩] c pos) (some (.Name x pos')) spos.line X.env=pure true)
  (hs:∀x,foldedSetIterable iter X.env x=pure x:=by intro _;rfl) (hf:X.fn x=true∨X.env.scope.names.lookup x=some .local:=by first|exact .inl rfl|exact .inr rfl|assumption) :
  PS X (.Assign [.Name x pos'] (.ListComp elt [⟨tg,iter,ifs,0⟩] c pos) spos) (ZoU (ZlK (N'.length-N.length) wi g tc te) (ZjL i)):=by
 intro pins s σ H D I h
 rw[exec_Assign_Name_used _ _ _ _ hsw]
 refine wpAny_bind (wpAny_standAt (wpAny_bind ?_))
 show wpAny _ X.A (do let _ ← comprehension (.ListComp elt [⟨tg,iter,ifs,0⟩] c pos) c X.env _ (newList []) false (eval iter X.env) (some (assign (.Name x pos') X.env))) _ _ s
 refine wpAny_bind (thn (ZhO (QQ:=fun _ s'=>SP X pins D .next s') (use:=some (assign (.Name x pos') X.env)) S hN ho hc hi hg ht he hs I h ?_) fun _ s' hq=>wpAny_pure (wpAny_pure hq))
 intro L C s5 H5 m I5 hCn hn n1 n2 n3 n4 q
 show wpAny _ X.A (assign (.Name x pos') X.env (.ref L)) _ _ _
 refine wpAny_assign_Name (Zgp (v:=.ref L) I5 hnd hx hl rfl (?_) hf)
 rintro s6 I6 ⟨a,hsb,ha⟩
 have nCa:C≠a:=by
  rcases ha with z|z
  ·rw[z];exact n1
  ·exact(n3 x a z).symm
 exact⟨m,hn.sameBut hsb nCa,fun h' hsb'=>⟨_,H5,I6.let hCn n1 n2 n3 n4 hsb',q⟩⟩
end
theorem Zft{ys:List Str}:∀ {us:List Value},Zy (ys.map V.str) us→StrsAre us ys:=by
 induction ys with
 | nil=>intro us r;rw[Qai]at r;cases r;exact .nil
 | cons y ys ih =>
  intro us r
  rw[Qn]at r
  cases r with
  | cons r1 r2 =>
   obtain⟨t,e⟩:=r1
   subst e
   exact .cons _ _ (ih r2)
theorem Zgw:∀ {vs:List Value} {ys:List Str},StrsAre vs ys→Zy (ys.map V.str) vs
 | _,_,.nil=>.nil
 | _,_,.cons _ t h=>.cons ⟨t,rfl⟩ (Zgw h)
section
variable {X:Cx}
def ZqL(K:PySem.W.Frag):List V→Hp→VK→Prop:=fun xs H Q=>∃x c t b,xs=[x,.ty c]∧Zel K H x t∧PySem.W.kitOne K t (.type c)=some b∧Q (.bl b) H
theorem Zlf:Za2 X (.builtin "isinstance") (ZqL X.K):=by
 intro pins s σ H xs us Q I r h
 obtain⟨x,c,t,b,rfl,ty,e,q⟩:=h
 obtain⟨u,w',rfl,rx,rc⟩:=Zl6 r
 cases rc
 exact ZkJ I rx ty e fun tk=>⟨.bl b,H,I.tok _,rfl,q⟩
def rIsiT(K:PySem.W.Frag):List V→Hp→VK→Prop:=fun xs H Q=>∃ (x:V) (tp:Addr) (cs:List String) (t:Value) (b:Bool),xs=[x,.ref tp]∧H tp=some (.tup (cs.map V.ty))∧Zel K H x t∧PySem.W.kitAny K t (cs.map Value.type)=some b∧Q (.bl b) H
theorem Zhr:Za2 X (.builtin "sorted") (fun xs H Q=>∃ (p:Addr) (ss:List Str),xs=[.ref p]∧SqL X.K H p (ss.map V.str)∧ss.length<64 ∧
  ∀ (l:Addr) (ss':List Str),H l=none→ss'.Perm ss→sortedS ss'=true→Q (.ref l) (upd H l (.lst (ss'.map V.str)))):=by
 intro pins s σ H xs us Q I r h
 obtain⟨p,ss,rfl,hq,h64,q⟩:=h
 obtain⟨u,rfl,rx⟩:=ZdA r
 cases rx
 obtain⟨its,rv,pl,hz⟩:=I.list hq
 have hlen:=rv.length
 rw[Qa]at hlen hz
 refine sorted_strs pl.isList (Zft rv) (by omega) fun out ss' a1 a2 a3=>?_
 obtain⟨e,he⟩:=sortedAll_at s.heap its out
 have hp:=a2.length_eq
 refine⟨.ref (s.heap.objs.size+1),_,I.laid (t':=s.toks) (o:=.lst (ss'.map V.str)) (fun _ _=>sortedAll_old) (QaD _) ⟨by rw[Qa];omega,out.toList,e,Zgw a1,by simpa using he⟩,rfl,q _ ss' (I.hok.fresh (QaD _)) a2 a3⟩
theorem Zos:MtR X "str.join" (fun x vs H Q=>∃ (sep:Str) (p:Addr) (ys:List Str),x=.str sep∧vs=[.ref p]∧SqL X.K H p (ys.map V.str)∧(ys.map (·.length)).sum+ys.length*sep.length≤16777216∧Q (.str (Txt.join sep ys)) H):=by
 intro pins s σ H x vs v us Q I rx rv h
 obtain⟨sep,p,ys,rfl,rfl,hq,hz,q⟩:=h
 obtain⟨t,rfl⟩:=rx
 obtain⟨u,rfl,ru⟩:=rv.one
 cases ru
 obtain⟨its,r',pl,_⟩:=I.list hq
 exact join_list pl.isList (Zft r') hz fun t' k=>⟨.str _,H,I.tok _,⟨_,rfl⟩,q⟩
theorem ZnW:OpR X (binaryOp .Mult) (fun x y H Q=>∃a n,x=.str a∧y=.int n∧0≤n∧n≤1000000∧(a.length:Int)*n≤1000000∧Q (.str (Txt.mul a n)) H):=by
 intro pins s σ H x y v u Q I rx ry h
 obtain⟨a,n,rfl,rfl,h0,h1,h2,q⟩:=h
 obtain⟨t,rfl⟩:=rx
 obtain⟨t',rfl⟩:=ry
 have h2':a.length*n.toNat≤1000000:=by
  have e:((a.length*n.toNat:Nat):Int)=(a.length:Int)*n:=by rw[Int.natCast_mul,Int.toNat_of_nonneg h0]
  omega
 refine PySem.P.mul_str ?_ (fun c1 c2=>?_) (fun c1 c2=>?_) ?_
 ·have e1:decide (n < -(2 ^ 63:Int))=false:=decide_eq_false (by omega)
  have e2:decide (n≥2 ^ 63)=false:=decide_eq_false (by omega)
  rw[e1,e2];rfl
 ·have hn:(1:Int)≤n:=by omega
  have q1:(a.length:Int)*1≤(a.length:Int)*n:=Int.mul_le_mul_of_nonneg_left hn (Int.natCast_nonneg _)
  have q2:(1000000:Int)≤(2 ^ 63-1) / n:=by
   rw[Int.le_ediv_iff_mul_le (by omega)]
   have:(1000000:Int)*n≤1000000*1000000:=Int.mul_le_mul_of_nonneg_left h1 (by decide)
   omega
  omega
 ·unfold Builtin.Str.tooLong
  have hl:sizeLine=16777216:=sizeLine_eq
  exact decide_eq_false (by omega)
 ·have e:Txt.mul a n=if n<1 then Str.empty else if (n == 1||a.length == 0)=true then a else ⟨(List.replicate n.toNat a.cps).foldl (·++·) #[]⟩:=rfl
  rw[e]at q
  by_cases c1:n<1
  ·rw[if_pos c1]at q ⊢
   exact⟨by decide,.str _,H,I.tok _,⟨_,rfl⟩,q⟩
  ·rw[if_neg c1]at q ⊢
   by_cases c2:(n == 1||a.length == 0)=true
   ·rw[if_pos c2]at q ⊢
    exact⟨.str _,H,I,⟨_,rfl⟩,q⟩
   ·rw[if_neg c2]at q ⊢
    refine⟨?_,.str _,H,I.tok _,⟨_,rfl⟩,q⟩
    have hfold:∀ (k:Nat) (acc:Array Nat),((List.replicate k a.cps).foldl (·++·) acc).size=acc.size+k*a.cps.size:=by
     intro k
     induction k with
     | zero=>intro acc;simp
     | succ k ih=>intro acc;rw[List.replicate_succ,List.foldl_cons,ih,Array.size_append,Nat.succ_mul];omega
    show ((List.replicate n.toNat a.cps).foldl (·++·) #[]).size≤sizeLine
    rw[hfold]
    have e2:a.cps.size=a.length:=rfl
    have:n.toNat*a.cps.size≤1000000:=by rw[e2,Nat.mul_comm];exact h2'
    have hl:sizeLine=16777216:=sizeLine_eq
    simp only[List.size_toArray,List.length_nil]
    omega
def rSlS:V→Option Int→Option Int→Hp→VK→Prop:=fun x lo hi H Q=>∃z,x=.str z∧z.length≤sizeLine∧Q (.str (Txt.slice z lo hi)) H
end
inductive Src where
 | l (a:Addr)|t (a:Addr)|s (z:Str)
def Src.val:Src→V
 | .l a=>.ref a
 | .t a=>.ref a
 | .s z=>.str z
def ZnZ(c:Nat):V:=.str ⟨#[c]⟩
def Src.its(K:PySem.W.Frag)(H:Hp):Src→List V→Prop
 | .l a,xs=>SqL K H a xs
 | .t a,xs=>SqT K H a xs
 | .s z,xs=>xs=z.cps.toList.map ZnZ
def Src.at(h:Heap)(i:Addr):Src→Nat→Prop
 | .l a,k=>h.IsListIter i a k
 | .t a,k=>h.IsTupleIter i a k
 | .s z,k=>∃tk,h.IsStrIter i (strIterType z) z tk k
def Src.raw(h:Heap):Src→List Value→Prop
 | .l a,us=>h.IsList a us.toArray
 | .t a,us=>h.IsTuple a us.toArray
 | .s _,_=>True
def Src.fit:Src→List Value→Nat→Value→Prop
 | .l _,us,k,u=>us[k]? = some u
 | .t _,us,k,u=>us[k]? = some u
 | .s z,_,k,u=>∃c tk,z.cps[k]? = some c∧u=.str ⟨#[c]⟩ tk
def Src.many:Src→List Value→Nat
 | .l _,us=>us.length
 | .t _,us=>us.length
 | .s z,_=>z.cps.size
def Src.off:Src→Addr→Prop
 | .l a,b=>a≠b
 | .t a,b=>a≠b
 | .s _,_=>True
section
variable {prog:Program} {w:World} {A:Around} {E:Value→Shared→Prop} {s:Shared}
structure ZipOff (z TI TO i1 i2:Addr) (S1 S2:Src):Prop where
 TIz:TI≠z
 TOz:TO≠z
 i1z:i1≠z
 i2z:i2≠z
 TITO:TI≠TO
 TIi1:TI≠i1
 TIi2:TI≠i2
 TOi1:TO≠i1
 TOi2:TO≠i2
 i12:i1≠i2
 s1z:S1.off z
 s1TO:S1.off TO
 s1i1:S1.off i1
 s1i2:S1.off i2
 s2z:S2.off z
 s2TO:S2.off TO
 s2i1:S2.off i1
 s2i2:S2.off i2
end
def Src.iter(tk:Tok):Src→Obj
 | .l a=>{ cls:=.type "list_iterator",data:=.fields #[.ref a,.int 0 0] }
 | .t a=>{ cls:=.type "tuple_iterator",data:=.fields #[.ref a,.int 0 0] }
 | .s z=>{ cls:=.type (strIterType z),data:=.fields #[.str z tk,.int 0 0] }
def Src.value(tk:Tok):Src→Value
 | .l a=>.ref a
 | .t a=>.ref a
 | .s z=>.str z tk
abbrev zH1(h:Heap)(S1:Src)(t1:Tok):Heap:=h.push (S1.iter t1)
abbrev zH2(h:Heap)(S1 S2:Src)(t1 t2:Tok):Heap:=(zH1 h S1 t1).push (S2.iter t2)
abbrev zH3(h:Heap)(S1 S2:Src)(t1 t2:Tok):Heap:=(zH2 h S1 S2 t1 t2).push { cls:=.type "tuple",data:=.seq #[.ref h.objs.size,.ref (zH1 h S1 t1).objs.size] }
abbrev zH4(h:Heap)(S1 S2:Src)(t1 t2:Tok):Heap:=(zH3 h S1 S2 t1 t2).push { cls:=.type "tuple",data:=.seq #[.none,.none] }
abbrev zH5(h:Heap)(S1 S2:Src)(t1 t2:Tok):Heap:=(zH4 h S1 S2 t1 t2).push { cls:=.type "zip",data:=.fields #[.none,.bool false,.bool false,.ref (zH2 h S1 S2 t1 t2).objs.size,.ref (zH3 h S1 S2 t1 t2).objs.size] }
section
variable {prog:Program} {w:World} {A:Around} {E:Value→Shared→Prop} {s:Shared}
end
def Itz(K:PySem.W.Frag)(S1 S2:Src):It :=
 ⟨fun i H=>∃xs ys,S1.its K H xs∧S2.its K H ys∧i<xs.length∧i<ys.length,
  fun i H v H'=>∃p,H p=none∧v=.ref p∧∀xs ys,S1.its K H xs→S2.its K H ys→∀x y,xs[i]? = some x→ys[i]? = some y→H'=upd H p (.tup [x,y]),
  fun i H=>∃xs ys,S1.its K H xs∧S2.its K H ys∧(xs.length≤i∨ys.length≤i)⟩
section
variable {X:Cx} {pins:List (Addr×Obj)} {σ:St} {H:Hp} {s:Shared}
theorem Inv.zipped{fp:List Addr}{h':Heap}{tk:Nat}{x y:V}{u v:Value}(I:Inv X pins σ H s)(hf:∀b∈fp,Zfw X pins H b)(rx:ZD x u)(ry:ZD y v)
  (hp:IsPair h' s.heap.objs.size u v) (hfh:∀b∈fp,∃o,h'.get? b=some o) (hk:∀c o,c ∉ fp→s.heap.get? c=some o→h'.get? c=some o) :
  Inv X pins σ (upd H s.heap.objs.size (.tup [x,y])) { s with heap:=h',toks:=tk }:=by
 have hn:H s.heap.objs.size=none:=I.fresh
 have ne:∀b ob,s.heap.get? b=some ob→b≠s.heap.objs.size:=fun b ob e=>QS (Qy e)
 have nt:∀b u,H b=some u→b≠s.heap.objs.size:=fun b u e=>Zb e hn
 have nfp:∀b u,H b=some u→b ∉ fp:=fun b u e hb=>by rw[(hf b hb).1]at e;cases e
 refine I.step (g':=s.gens) (d':=s.drawn) (ch:=fp) (fun b hb=>⟨(hf b hb).2.2.2.1,(hf b hb).2.1,(hf b hb).2.2.2.2.1,(hf b hb).2.2.2.2.2⟩)
  (fun b ob _ _ hc e _=>hk b ob hc e) (fun b ob _ _ hc e _=>⟨ob.slots,hk b ob hc e⟩) (fun b ob _ e n=>by rw[Zd (ne b ob e)];exact n) (fun b ob hc e=>⟨ob,hk b ob hc e⟩)
  (fun b xs e=>by rw[Zd (nt b _ e)];exact e) (fun b ob u e=>by rw[Zd (nt b _ e)];exact e) (fun b ps e=>⟨#[],by rw[Zd (nt b _ e),e];simp⟩) (fun m hm=>?_) (fun b ub e=>?_) I.bare
 ·obtain⟨ob,es,ep,ho,r⟩:=hm
  exact⟨ob,es,ep,hk _ ob (fun z=>(hf _ z).2.1 rfl) ho,r⟩
 ·by_cases hb:b=s.heap.objs.size
  ·subst hb
   rw[Zc]at e;cases e
   exact⟨by show 2≤sizeLine;decide,[u,v],.cons rx (.cons ry .nil),⟨_,hp,rfl,_,rfl⟩⟩
  ·rw[Zd hb]at e
   refine(I.hok b ub e).stay (fun c w' hc q=>hk c w' ?_ q) (fun c q=>by rw[Zd (nt c _ q)];exact q) fun c xs q=>by rw[Zd (nt c _ q)];exact q
   rcases hc with z|z
   ·rw[z];exact nfp b ub e
   ·exact nfp c _ z
end
def iZip(K:PySem.W.Frag)(ta:TA):TI:=fun σ H R=>ta σ H fun vs H1=>∃S1 S2 xs ys,vs=[Src.val S1,Src.val S2]∧S1.its K H1 xs∧S2.its K H1 ys∧R (Itz K S1 S2) H1
section
variable {X:Cx} (K:PySem.W.Frag)
theorem ixL(h:X.K=K:=by rfl):IxR X (ZoW K):=by subst h;exact Znx
theorem ixT(h:X.K=K:=by rfl):IxR X (Zpg K):=by subst h;exact ZpU
theorem slL(h:X.K=K:=by rfl):SlR X (ZqM K):=by subst h;exact Znk
def ZqC:List V→Hp→VK→Prop:=fun xs H Q=>∃p ys,xs=[.ref p]∧(SqL K H p ys∨SqT K H p ys)∧Q (.int ys.length) H
theorem ZbH(h:X.K=K:=by rfl):Za2 X (.builtin "len") (ZqC K):=by subst h;exact Zhg
theorem Zoi(h:X.K=K:=by rfl):Za2 X (.builtin "isinstance") (ZqL K):=by subst h;exact Zlf
def rAllQ:List V→Hp→VK→Prop:=fun xs H Q=>∃ (p:Addr) (bs:List Bool),xs=[.ref p]∧SqL K H p (bs.map V.bl)∧Q (.bl (bs.all id)) H
def rSrtI:List V→Hp→VK→Prop:=fun xs H Q=>∃ (p:Addr) (ns:List Int),xs=[.ref p]∧SqL K H p (ns.map V.int)∧ns.length<64 ∧
  ∀ (l:Addr) (ns':List Int),H l=none→ns'.Perm ns→ns'.Pairwise (·≤·)→Q (.ref l) (upd H l (.lst (ns'.map V.int)))
def Zq6:List V→Hp→VK→Prop:=fun xs H Q=>∃ (p:Addr) (ss:List Str),xs=[.ref p]∧SqL K H p (ss.map V.str)∧ss.length<64 ∧
  ∀ (l:Addr) (ss':List Str),H l=none→ss'.Perm ss→sortedS ss'=true→Q (.ref l) (upd H l (.lst (ss'.map V.str)))
theorem ZlV(h:X.K=K:=by rfl):Za2 X (.builtin "sorted") (Zq6 K):=by subst h;exact Zhr
def ZqY:V→List V→Hp→VK→Prop:=fun x vs H Q=>∃ (sep:Str) (p:Addr) (ys:List Str),x=.str sep∧vs=[.ref p]∧SqL K H p (ys.map V.str)∧(ys.map (·.length)).sum+ys.length*sep.length≤16777216∧Q (.str (Txt.join sep ys)) H
theorem ZqA(h:X.K=K:=by rfl):MtR X "str.join" (ZqY K):=by subst h;exact Zos
theorem iL{tg l:Expr}{tl:TE}(hl:PE X l tl)(h:X.K=K:=by rfl):PI X tg l (ZoC K tl):=by subst h;exact Zok hl
theorem iT{tg l:Expr}{tl:TE}(hl:PE X l tl)(h:X.K=K:=by rfl):PI X tg l (Zq5 K tl):=by subst h;exact ZpM hl
theorem gT{es:List Expr}{k:Nat}{t:TGs}{n:Nat}{pos:Pos}(h:PGs X es t)(hK:X.K=K:=by rfl)(hc:X.calm=true:=by rfl)
  (hn:(assignEach es X.env).length=n:=by rfl) (hst:(assignEach es X.env).findIdx? (·.1)=none:=by rfl):PG X (.Tuple es k pos) (Zq1 K n t):=by subst hK;exact ZpI hc h hn hst
end
structure Df (P:Program) (w:World) (K:PySem.W.Frag) (mg:Str→Option Value) (base:Heap) (k:Nat) (x:Str) (ps:List Str) (sp:Sp):Prop where
 ex:∃f fd,ZdT P w K mg base CX0 k f fd ps sp∧mg x=some (.ref f)∧PySem.W.keepIn K (.ref f)=true∧Zb6 K fd ps []
section
variable {P:Program} {w:World} {K:PySem.W.Frag} {mg:Str→Option Value} {base:Heap}
structure Top (K:PySem.W.Frag) (mg:Str→Option Value) (x:Str) (st:Stmt) (ps:List Str):Prop where
 ex:∃f fd,Fun K x x st f fd∧mg x=some (.ref f)∧Zb6 K fd ps []
theorem Top.df{x:Str}{st:Stmt}{N ps:List Str}{k:Nat}{sp:Sp}(T:Top K mg x st ps)(S:Zr N ps (Zg st))(len:∀vs H Q E,sp vs H Q E→vs.length=ps.length)
  (hbody:∀ (cdv:Value) (f:Addr) (A:Around) (outer:List Env) (s:Shared) (H:Hp) (vs:List V) (Q:VK) (E:XK),ZaG k (A.deeper (envOfC x (Zg st) s.heap.objs.size f cdv))→sp vs H Q E →
   ∃t,PSs (Zhc CX0 P w K mg base N x (Zg st) f cdv A outer s H E).nox (Zm st) t∧t { nx:=fun _ H'=>Q .non H',rt:=Q } (Zda N vs) H):Df P w K mg base (k+1) x ps sp:=by
 obtain⟨f,fd,F,m,b⟩:=T.ex
 exact⟨f,fd,F.ok S len (fun cdv A outer s H vs Q E hr h=>hbody cdv f A outer s H vs Q E hr h),m,F.kp,b⟩
end
section
variable {X:Cx} {k j:Nat} {x:Str} {ps:List Str} {sp:Sp} {e:Expr} {es:List Expr} {t:TA} {p pos:Pos}
theorem ZA(F:Df X.prog X.w X.K X.mg X.base k x ps sp)(hr:ZaG j X.A)(ha:PA X (e::es) t)(hjk:k≤j:=by decide)(hg:Gl X x:=by rfl)(hdb:(x == ("__debug__" : Str))=false:=by decide)
  (he:starEach (e::es) X.env=(false,eval e X.env)::starEach es X.env:=by rfl) (hpl:(backTo pos (starEach es X.env)).any (·.1)=false:=by rfl) :
  PE X (.Call (.Name x p) (e::es) [] pos) (ZoD sp [] E0 t):=by
 obtain⟨f,fd,F,m,kp,b⟩:=F.ex
 exact Zn6 F (hr.mono hjk) hg m kp b .nil Zj3 ha hdb he hpl
theorem Zj4{T:String}(hm:X.mg x=none)(hv:bootBuiltins x=some (.type T))(hg:Gl X x:=by rfl)(hn:x ≠ "__name__":=by decide)(hd:(x == ("__debug__" : Str))=false:=by decide):PE X (.Name x pos) (tC (.ty T)) :=
 Zn4 hg hm hv rfl hn hd
end
theorem ZcX{lo:Int}{n k:Nat}{D:Addr}{σ:St}{H1:Hp}{g:TG}{te:TE}{Q:VK}(Pv:Nat→List V→St→Hp→Prop)(h0:Pv 0 [] (σ++List.replicate k none) (upd H1 D (.lst [])))
  (hs:∀i ys σ H,i<n→Pv i ys σ H→g (.int (lo+i)) σ H fun σ4 H4=>te σ4 H4 fun y H6=>H6 D=some (.lst ys)∧ys.length<sizeLine∧Pv (i+1) (ys++[y]) σ4 (upd H6 D (.lst (ys++[y]))))
  (hd:∀ys σ H,Pv n ys σ H→Q (.ref D) H):Zhs (Itr lo n) D k σ H1 g ZiP te Q:=by
 refine⟨fun i m ys σ H=>m=n-i∧i≤n∧Pv i ys σ H,⟨n,by simp,Qv _,h0⟩,?_⟩
 rintro i m ys σ H ⟨rfl,hi,p⟩
 by_cases hlt:i<n
 ·refine .inr ⟨hlt,Pv (i+1),fun ys' σ' H' p'=>⟨n-(i+1),by omega,rfl,hlt,p'⟩,fun x H' y=>?_⟩
  obtain⟨e,y⟩:=y
  subst e y
  simp only[ZiP,↓reduceIte]
  exact hs i ys σ _ hlt p
 ·have e:i=n:=by omega
  subst e
  exact .inl ⟨Qh _,hd ys σ H p⟩
section
variable {X:Cx} {N N':List Str} {o c:Scope} {x:Str} {pos:Pos} {C:Addr} {s:Shared} {H:Hp} {fp:List Addr}
theorem Zd7(S:Z9 N N' o c)(ho:X.env.scope=o)(hl:c.names.lookup x=some .local):(ZaM X c N' C s H fp).env.scope.names.lookup x=some .local:=by
 have e:=Zcv (X:=X) S ho (ZaI X.env.cells c.names []) C x
 rw[hl]at e
 exact e
theorem Zcx(S:Z9 N N' o c)(ho:X.env.scope=o)(hl:c.names.lookup x=some .globalImplicit):Gl (ZaM X c N' C s H fp) x:=by
 have e:=Zcv (X:=X) S ho (ZaI X.env.cells c.names []) C x
 rw[hl]at e
 exact e
theorem ZmV(S:Z9 N N' o c)(ho:X.env.scope=o)(hl:c.names.lookup x=some .free):Vis (ZaM X c N' C s H fp).env.scope x:=by
 have e:=Zcv (X:=X) S ho (ZaI X.env.cells c.names []) C x
 rw[hl]at e
 have e':(ZaM X c N' C s H fp).env.scope.names.lookup x=if X.env.kindOf x=some .cell then some NameKind.cell else some NameKind.free:=e
 by_cases z:X.env.kindOf x=some .cell
 ·rw[if_pos z]at e';exact .inr (.inl e')
 ·rw[if_neg z]at e';exact .inr (.inr e')
theorem cv(i:Nat)(S:Z9 N N' o c)(ho:X.env.scope=o)(hl:c.names.lookup x=some .free)(hN:N'[i]? = some x:=by rfl)(hd:(x == ("__debug__" : Str))=false:=by decide)(hcd:(x == ("__classdict__" : Str))=false:=by decide) :
  PE (ZaM X c N' C s H fp) (.Name x pos) (Zol i):=ZiC hN (ZmV S ho hl) hd hcd
theorem cw(i:Nat)(S:Z9 N N' o c)(ho:X.env.scope=o)(hl:c.names.lookup x=some .local)(hN:N'[i]? = some x:=by rfl)(hd:(x == ("__debug__" : Str))=false:=by decide)(hcd:(x == ("__classdict__" : Str))=false:=by decide) :
  PE (ZaM X c N' C s H fp) (.Name x pos) (Zol i):=ZiC hN (.inl (Zd7 S ho hl)) hd hcd
theorem cg(i:Nat)(S:Z9 N N' o c)(ho:X.env.scope=o)(hl:c.names.lookup x=some .local)(hi:N'[i]? = some x:=by rfl):PG (ZaM X c N' C s H fp) (.Name x pos) (ZjL i) :=
 Zx S.nd hi (.inl (Zd7 S ho hl)) (.inr (Zd7 S ho hl))
end
mutual
inductive DV (K:PySem.W.Frag) (H:Hp):V→PyData→Prop where
 | non:DV K H .non .none
 | bl (b:Bool):DV K H (.bl b) (.bool b)
 | int (i:Int):DV K H (.int i) (.int i)
 | str (s:Str):DV K H (.str s) (.str s)
 | lst {a:Addr} {xs:List V} {ds:List PyData}:SqL K H a xs→DVs K H xs ds→DV K H (.ref a) (.list ds)
 | tup {a:Addr} {xs:List V} {ds:List PyData}:SqT K H a xs→DVs K H xs ds→DV K H (.ref a) (.tuple ds)
inductive DVs (K:PySem.W.Frag) (H:Hp):List V→List PyData→Prop where
 | nil:DVs K H [] []
 | cons {x:V} {d:PyData} {xs:List V} {ds:List PyData}:DV K H x d→DVs K H xs ds→DVs K H (x::xs) (d::ds)
end
section
variable {X:Cx} {pins:List (Addr×Obj)} {σ:St} {H:Hp} {s:Shared}
mutual
theorem Inv.reads(I:Inv X pins σ H s):∀ {x:V} {d:PyData} {u:Value},DV X.K H x d→ZD x u→∃as,Reads s.heap u d as
 | _,_,_,.non,r=>by cases r;exact⟨_,.none⟩
 | _,_,_,.bl b,r=>by cases r;exact⟨_,.bool b⟩
 | _,_,_,.int i,r=>by obtain⟨t,rfl⟩:=r;exact⟨_,.int i t⟩
 | _,_,_,.str z,r=>by obtain⟨t,rfl⟩:=r;exact⟨_,.str z t⟩
 | _,_,_,.lst h hs,r=>by
  cases r
  obtain⟨its,rv,⟨o,n,e,hc,_,hd⟩,_⟩:=I.list h
  obtain⟨as,q⟩:=Inv.readsAll I hs rv
  exact⟨_,reads_list_at e hc hd (by simpa using q)⟩
 | _,_,_,.tup h hs,r=>by
  cases r
  obtain⟨its,rv,⟨o,e,hc,n,hd⟩,_⟩:=I.tuple h
  obtain⟨as,q⟩:=Inv.readsAll I hs rv
  exact⟨_,reads_tuple_at e hc hd (by simpa using q)⟩
theorem Inv.readsAll(I:Inv X pins σ H s):∀ {xs:List V} {ds:List PyData} {us:List Value},DVs X.K H xs ds→Zy xs us→∃as,ReadsAll s.heap us ds as
 | _,_,_,.nil,r=>by cases r;exact⟨_,.nil⟩
 | _,_,_,.cons h hs,r=>by
  cases r with
  | cons r1 r2 =>
   obtain⟨as,q1⟩:=Inv.reads I h r1
   obtain⟨bs,q2⟩:=Inv.readsAll I hs r2
   exact⟨_,.cons q1 q2⟩
end
def Zq4(K:PySem.W.Frag)(neg:Bool):R2:=fun x y H Q=>∃d e,DV K H x d∧DV K H y e∧SeqAt.shaped d=true∧SeqAt.shaped e=true∧Q (.bl (if neg then !PyData.eqv d e else PyData.eqv d e)) H
theorem ZoT(hu:X.A.units+64<cLine):OpR X (compareOp .NotEq) (Zq4 X.K true):=by
 intro pins s σ H x y v u Q I rx ry h
 obtain⟨d,e,h1,h2,s1,s2,q⟩:=h
 obtain⟨as,r1⟩:=I.reads h1 rx
 obtain⟨bs,r2⟩:=I.reads h2 ry
 exact ne_dataH r1 r2 s1 s2 hu ⟨.bl _,H,I,rfl,q⟩
end
theorem neD{X:Cx}(K:PySem.W.Frag){k:Nat}(hr:ZaG k X.A)(h:X.K=K:=by rfl):OpR X (compareOp .NotEq) (Zq4 K true):=by subst h;exact ZoT hr.units
mutual
theorem DV.mono{K:PySem.W.Frag}{H H':Hp}(s:Zu H H'):∀ {x:V} {d:PyData},DV K H x d→DV K H' x d
 | _,_,.non=>.non
 | _,_,.bl b=>.bl b
 | _,_,.int i=>.int i
 | _,_,.str z=>.str z
 | _,_,.lst h hs=>.lst (s.seq h) (DVs.mono s hs)
 | _,_,.tup h hs=>.tup (by
   rcases h with(h|⟨ob,h⟩)|h
   ·exact .inl (.inl (s _ _ h))
   ·exact .inl (.inr ⟨ob,s _ _ h⟩)
   ·exact .inr h) (DVs.mono s hs)
theorem DVs.mono{K:PySem.W.Frag}{H H':Hp}(s:Zu H H'):∀ {xs:List V} {ds:List PyData},DVs K H xs ds→DVs K H' xs ds
 | _,_,.nil=>.nil
 | _,_,.cons h hs=>.cons (DV.mono s h) (DVs.mono s hs)
end
def Ite(K:PySem.W.Frag)(a:Addr):It :=
 ⟨fun i H=>∃xs,SqL K H a xs∧i<xs.length,
  fun i H v H'=>∃p,H p=none∧v=.ref p∧∀xs,SqL K H a xs→∀x,xs[i]? = some x→H'=upd H p (.tup [.int i,x]),
  fun i H=>∃xs,SqL K H a xs∧xs.length≤i⟩
theorem ZkM{P:Program}{w:World}{K:PySem.W.Frag}{elts:List Expr}{x1:Nat}{tpos:Pos}{a e it:Addr}(hne:e≠it) :
  Zmk P w K (.Tuple elts x1 tpos) (Ite K a) [e,it] e (fun i h=>(∃old,IsEnum h e it i old)∧h.IsListIter it a i) where
 mem:=by simp
 obj:=fun i h st b hb=>by
  obtain⟨⟨old,he⟩,o,hit,hc,hd⟩:=st
  simp only[List.mem_cons,List.not_mem_nil,or_false]at hb
  rcases hb with rfl|rfl
  ·exact⟨_,he,fun v z=>by cases z⟩
  ·exact⟨o,hit,fun v z=>by rw[hd]at z;cases z⟩
 keep:=fun i h h' st k=>by
  obtain⟨⟨old,he⟩,hit⟩:=st
  exact⟨⟨old,k e (by simp) _ he⟩,hit.at fun o q=>k it (by simp) o q⟩
 item:=by
  intro X hP hw hK hc i pins s σ H E I hf st hg
  subst hP hw hK
  obtain⟨⟨old,he⟩,hit⟩:=st
  obtain⟨xs,q1,l1⟩:=hg
  obtain⟨its,rv,pl,_⟩:=I.list q1
  obtain⟨u,hu,ru⟩:=rv.get (Qb l1)
  refine wpAny_pyNext_enum_item he hit pl.isList (x:=u) (by simpa using hu) hne fun h' a1 a2 a3 a4 a5=>?_
  have lt:∀ {b:Addr} {o:Obj},s.heap.get? b=some o→s.heap.objs.size≠b:=fun q=>Nat.ne_of_gt (Qy q)
  have hes:s.heap.objs.size≠e:=lt he
  refine⟨_,rfl,wpAny_letOwnedTupleGo_enum a1 fun h'' he'' hs''=>?_⟩
  have hs':Heap.SameBut e h' h'':=hs''
  have hit'':h''.IsListIter it a (i+1):=a2.extBut hs'.extBut hne.symm
  have I2:Inv X pins σ (upd H s.heap.objs.size (.tup [.int i,xs[i]])) { s with heap:=h'',toks:=s.toks+1 }:=by
   refine I.zipped (fp:=[e,it]) (u:=.int i s.toks) (v:=u) hf ⟨_,rfl⟩ ru (hs'.extBut _ _ hes a3) (fun b hb=>?_) fun c o hc q=>?_
   ·simp only[List.mem_cons,List.not_mem_nil,or_false]at hb
    rcases hb with rfl|rfl
    ·exact⟨_,he''⟩
    ·obtain⟨o,q,_⟩:=hit'';exact⟨o,q⟩
   ·simp only[List.mem_cons,List.not_mem_nil,or_false,not_or]at hc
    exact hs'.extBut _ _ hc.1 (a5 c o hc.1 hc.2 q)
  refine⟨.ref s.heap.objs.size,_,I2,rfl,⟨s.heap.objs.size,I.fresh,rfl,fun xs' w1 x' e1=>?_⟩,⟨⟨_,he''⟩,hit''⟩,fun b hb=>?_⟩
  ·have e3:=I.list_inj w1 q1
   subst e3
   rw[Qb l1]at e1
   cases e1
   rfl
  ·rw[Zd (fun z=>by
    obtain⟨o,q⟩:∃o,s.heap.get? b=some o:=by
     simp only[List.mem_cons,List.not_mem_nil,or_false]at hb
     rcases hb with rfl|rfl
     ·exact⟨_,he⟩
     ·obtain⟨o,q,_⟩:=hit;exact⟨o,q⟩
    exact lt q z.symm)]
   exact(hf b hb).1
 done:=by
  intro X hP hw hK hc i pins s σ H E I hf st hg
  subst hP hw hK
  obtain⟨⟨old,he⟩,hit⟩:=st
  obtain⟨xs,q1,l1⟩:=hg
  obtain⟨its,rv,pl,_⟩:=I.list q1
  obtain⟨f0,f1,f2,f3,f4,f5⟩:=hf it (by simp)
  have hl:=rv.length
  exact wpAny_pyNext_enum_end (I.ok.hd hc) he hit pl.isList (by rw[List.getElem?_toArray];exact QD (by omega)) fun h' eb=>⟨rfl,I.turned (t':=s.toks) (fun b o hb q=>eb b o hb q) f0 f1 f3 f4 f5⟩
 self:=fun _ _ _ _ _ st h=>by obtain⟨⟨old,he⟩,_⟩:=st;exact wpAny_pyIter_enum he h
def ZoQ(K:PySem.W.Frag)(ta:TA):TI:=fun σ H R=>ta σ H fun vs H1=>∃a xs,vs=[V.ref a]∧SqL K H1 a xs∧R (Ite K a) H1
theorem ZnG{X:Cx}{l:Expr}{ta:TA}{p pos:Pos}{elts:List Expr}{x1:Nat}{tpos:Pos}(hg:Gl X "enumerate")(hm:X.mg "enumerate" = none)(ha:PA X [l] ta)
  (hs:starEach [l] X.env=[(false,eval l X.env)]:=by rfl):PI X (.Tuple elts x1 tpos) (.Call (.Name "enumerate" p) [l] [] pos) (ZoQ X.K ta):=by
 intro pins s σ H R I h
 refine Call_ (ZeE I hg hm boot_enumerate (Qac (thn (ha pos pins s σ H _ I h) ?_) hs rfl))
 rintro us s1 ⟨vs,H1,I1,r1,q1⟩
 obtain⟨a,xs,e,y1,q⟩:=q1
 subst e
 obtain⟨u,rfl,ru⟩:=r1.one
 cases ru
 obtain⟨its,rv,pl,_⟩:=I1.list y1
 refine call_enumerate_list pl.isList fun h' he hit hsz hk=>wpAny_pyIter_enum he ?_
 have I2:Inv X pins σ H1 { s1 with heap:=h' }:=I1.kept (t':=s1.toks) hk
 refine⟨_,_,_,_,H1,rfl,I2,ZkM (a:=a) (e:=s1.heap.objs.size+1) (it:=s1.heap.objs.size) (Nat.ne_of_gt (Nat.lt_succ_self _)),⟨⟨_,he⟩,hit⟩,fun b hb=>?_,q⟩
 have hb':s1.heap.objs.size≤b:=by
  simp only[List.mem_cons,List.not_mem_nil,or_false]at hb
  rcases hb with rfl|rfl
  ·exact Nat.le_add_right _ 1
  ·exact Qh _
 exact I1.fpOk hb' (I1.hok.fresh hb')
theorem iE{X:Cx}(K:PySem.W.Frag){l:Expr}{ta:TA}{p pos:Pos}{elts:List Expr}{x1:Nat}{tpos:Pos}(hm:X.mg "enumerate" = none)(ha:PA X [l] ta)(hg:Gl X "enumerate":=by rfl)(hK:X.K=K:=by rfl)
  (hs:starEach [l] X.env=[(false,eval l X.env)]:=by rfl):PI X (.Tuple elts x1 tpos) (.Call (.Name "enumerate" p) [l] [] pos) (ZoQ K ta):=by subst hK;exact ZnG hg hm ha hs
theorem Zii{K:PySem.W.Frag}{a:Addr}{xs:List V}{g:TG}{tb:TS}{D:ZeF}{σ:St}{H:Hp}(Pv:Nat→St→Hp→Prop)(h0:Pv 0 σ H)(hl:∀i σ H,Pv i σ H→SqL K H a xs)
  (hs:∀i x σ H p,xs[i]? = some x→Pv i σ H→H p=none→g (.ref p) σ (upd H p (.tup [.int i,x])) fun σ2 H2=>tb { D with nx:=Pv (i+1),ct:=Pv (i+1),bk:=D.nx } σ2 H2) (hd:∀σ H,Pv xs.length σ H→D.nx σ H) :
  ∃W:Nat→Nat→St→Hp→Prop,(∃m,W 0 m σ H)∧∀i m σ H,W i m σ H →
   ((Ite K a).stop i H∧D.nx σ H)∨((Ite K a).go i H∧∃N:St→Hp→Prop,(∀σ' H',N σ' H'→∃m',m'<m∧W (i+1) m' σ' H')∧∀x H',(Ite K a).yld i H x H'→g x σ H' fun σ2 H2=>tb { D with nx:=N,ct:=N,bk:=D.nx } σ2 H2):=by
 refine⟨fun i m σ H=>m=xs.length-i∧i≤xs.length∧Pv i σ H,⟨xs.length,by simp,Qv _,h0⟩,?_⟩
 rintro i m σ H ⟨rfl,hi,p⟩
 have q1:=hl i σ H p
 by_cases hlt:i<xs.length
 ·refine .inr ⟨⟨xs,q1,hlt⟩,Pv (i+1),fun σ' H' p'=>⟨xs.length-(i+1),by omega,rfl,hlt,p'⟩,fun x H' y=>?_⟩
  obtain⟨r,hr,rfl,e⟩:=y
  have e':=e xs q1 _ (Qb hlt)
  subst e'
  exact hs i _ σ H r (Qb hlt) p hr
 ·have e:i=xs.length:=by omega
  exact .inl ⟨⟨xs,q1,by omega⟩,hd σ H (e ▸ p)⟩
def rMinL(K:PySem.W.Frag):List V→Hp→VK→Prop:=fun vs H Q=>∃ (p:Addr) (ns:List Int),vs=[.ref p]∧SqL K H p (ns.map V.int)∧0<ns.length∧∀M,M∈ns→(∀a∈ns,M≤a)→Q (.int M) H
def ZpY(K:PySem.W.Frag):List V→Hp→VK→Prop:=fun xs H Q=>∃p ys,xs=[.ref p]∧(SqL K H p ys∨SqT K H p ys)∧∀l,H l=none→Q (.ref l) (upd H l (.lst ys))
theorem ZoJ{X:Cx}(K:PySem.W.Frag)(h:X.K=K:=by rfl):Za2 X (.type "list") (ZpY K):=by subst h;exact ZgV
section
variable {prog:Program} {w:World} {A:Around} {E:Value→Shared→Prop} {s:Shared}
end
def gLst(K:PySem.W.Frag)(n:Nat)(t:TGs):TG:=fun v σ H Q=>∃a xs,v=.ref a∧SqL K H a xs∧xs.length=n∧t xs σ H Q
def Zgo(xs:List V)(lo hi:Option Int)(st:Int):List V :=
 (sliceRange (sliceBounds lo hi (some st) xs.length).1 (sliceBounds lo hi (some st) xs.length).2.1 (sliceBounds lo hi (some st) xs.length).2.2).filterMap fun i=>xs[i]?
theorem ZgJ{xs:List V}{us:List Value}(r:Zy xs us):∀is:List Nat,Zy (is.filterMap fun i=>xs[i]?) (is.filterMap fun i=>us[i]?)
 | []=>.nil
 | i::is=>by
  have ih:=ZgJ r is
  by_cases hi:i<xs.length
  ·have e1:xs[i]? = some xs[i]:=Qb hi
   obtain⟨u,hu,ru⟩:=r.get e1
   rw[Q4,Q4,e1,hu]
   exact .cons ru ih
  ·have e1:xs[i]? = none:=QD (by omega)
   have e2:us[i]? = none:=QD (by rw[← r.length];omega)
   rw[Q4,Q4,e1,e2]
   exact ih
def ZpV(X:Cx)(r:V→Option Int→Option Int→Int→Hp→VK→Prop):Prop :=
 ∀ (pins:List (Addr×Obj)) (s:Shared) (σ:St) (H:Hp) (x:V) (v vl vu vs:Value) (lo hi:Option Int) (st:Int) (sl:Addr) (Q:VK),Inv X pins σ H s→ZD x v→s.heap.IsSliceOf sl vl vu vs→IsPart vl lo→IsPart vu hi→IsPart vs (some st)→r x lo hi st H Q →
  ∃T id,typeLookup (.type T) "__getitem__" = pure (some (.builtin id))∧s.TypeIs v T∧wpAny (model X.prog X.w) X.A (getItem v (.ref sl)) (EP X pins σ Q) X.xe s
def Zro(r:V→Option Int→Option Int→Int→Hp→VK→Prop)(te:TE)(tl th ts:TO):TE:=fun σ H Q=>te σ H fun x H1=>tl σ H1 fun l H2=>th σ H2 fun u H3=>ts σ H3 fun k H4=>∃i,k=some i∧r x l u i H4 Q
section
variable {X:Cx} {e st:Expr} {te:TE} {lo hi:Option Expr} {tl th ts:TO} {pos p2:Pos}
theorem Zkh{r:V→Option Int→Option Int→Int→Hp→VK→Prop}(hr:ZpV X r)(he:PE X e te)(hl:PO X lo tl)(hu:PO X hi th)(hst:PO X (some st) ts):PE X (.Subscript e (.Slice lo hi (some st) p2) pos) (Zro r te tl th ts):=by
 intro pins s σ H Q I h
 refine Subscript_ (thn (he pins s σ H _ I h) ?_)
 rintro v s1 ⟨x,H1,I1,r1,q1⟩
 refine wpAny_Slice (thn (hl pins s1 σ H1 _ I1 q1) fun vl s2 ⟨l,H2,I2,pl,q2⟩=>thn (hu pins s2 σ H2 _ I2 q2) fun vu s3 ⟨u,H3,I3,pu,q3⟩=>thn (hst pins s3 σ H3 _ I3 q3) ?_)
 rintro vs s4 ⟨k,H4,I4,pk,q4⟩
 obtain⟨i,rfl,q4⟩:=q4
 have I5:Inv X pins σ H4 { s4 with heap:=s4.heap.push { cls:=.type "slice",data:=.fields #[vl,vu,vs] } }:=I4.kept (t':=s4.toks) fun b ob q=>Qs _ q
 obtain⟨T,id,hT,ht,hg⟩:=hr pins { s4 with heap:=s4.heap.push { cls:=.type "slice",data:=.fields #[vl,vu,vs] } } σ H4 x v vl vu vs l u i s4.heap.objs.size Q I5 r1 (Heap.IsSliceOf.new ..) pl pu pk q4
 show wpAny (model X.prog X.w) X.A (subscriptTail e (.Slice lo hi (some st) p2) v (.ref s4.heap.objs.size)) (EP X pins σ Q) X.xe { s4 with heap:=s4.heap.push { cls:=.type "slice",data:=.fields #[vl,vu,vs] } }
 exact tail_any (ops:=[v,.ref s4.heap.objs.size]) ht hT hg (by with_unfolding_all rfl)
def ZoO(K:PySem.W.Frag):V→Option Int→Option Int→Int→Hp→VK→Prop:=fun x lo hi st H Q=>∃a xs,x=.ref a∧SqL K H a xs∧st≠0∧∀p,H p=none→Q (.ref p) (upd H p (.lst (Zgo xs lo hi st)))
theorem Zly:ZpV X (ZoO X.K):=by
 intro pins s σ H x v vl vu vs lo hi st sl Q I rx hs pl pu pk h
 obtain⟨a,xs,rfl,hx,hne,q⟩:=h
 cases rx
 obtain⟨its,r,ht,hz⟩:=I.list hx
 have hlen:=r.length
 refine⟨"list",_,slot_list_getitem.lookup,ht.isList.typeIs,?_⟩
 refine wpAny_getItem_list_slice ht.isList hs pl pu pk (by intro e;exact hne (Qp e)) ?_ (by rw[QB]<;>omega)
 have hsz:=slicePick_size_le its.toArray lo hi (some st)
 have hv:Zy (Zgo xs lo hi st) (slicePick its.toArray lo hi (some st)).toList:=by
  unfold slicePick Zgo
  simp only[List.size_toArray,← hlen]
  have:=ZgJ r (sliceRange (sliceBounds lo hi (some st) xs.length).1 (sliceBounds lo hi (some st) xs.length).2.1 (sliceBounds lo hi (some st) xs.length).2.2)
  simpa using this
 refine⟨.ref s.heap.objs.size,_,I.laid (t':=s.toks) (o:=.lst (Zgo xs lo hi st)) (fun b ob q=>Qs _ q) (Qh _) ?_,rfl,q _ (I.hok.fresh (Qh _))⟩
 refine⟨?_,(slicePick its.toArray lo hi (some st)).toList,0,hv,?_⟩
 ·have e1:its.toArray.size=xs.length:=by rw[QB];exact hlen.symm
  rw[hv.length,Array.length_toList]
  exact QM hsz (by rw[e1];exact hz)
 ·simpa using QL _ rfl
theorem ZrB(K:PySem.W.Frag)(h:X.K=K:=by rfl):ZpV X (ZoO K):=by subst h;exact Zly
end
theorem Ze4(n:Nat):sliceRange ((n:Int)-1) (-1) (-1)=(List.range n).map fun i=>n-1-i:=by
 unfold sliceRange
 have hc:(if (-1:Int)>0 then (if (n:Int)-1 < -1 then (-1-((n:Int)-1) + -1-1) / -1 else 0) else (if (n:Int)-1 > -1 then ((n:Int)-1 - -1 - -1-1) / (- -1) else 0)).toNat=n:=by
  rw[if_neg (by decide)]
  by_cases h:(n:Int)-1 > -1
  ·rw[if_pos h,show (- -1:Int)=1 by decide,Int.ediv_one];omega
  ·rw[if_neg h];omega
 simp only[]
 rw[hc]
 apply QH
 intro k hk
 have:=Q5.mp hk
 omega
theorem Zf9{α:Type}(xs:List α):((List.range xs.length).map fun i=>xs.length-1-i).filterMap (fun i=>xs[i]?)=xs.reverse:=by
 rw[List.filterMap_map]
 have e:∀n,n≤xs.length→(List.range n).filterMap ((fun i=>xs[i]?) ∘ fun i=>xs.length-1-i)=xs.reverse.take n:=by
  intro n
  induction n with
  | zero=>intro _;rfl
  | succ n ih =>
   intro hn
   rw[QaB,List.filterMap_append,ih (by omega)]
   have h1:xs[xs.length-1-n]? = some xs[xs.length-1-n]:=Qb (by omega)
   rw[Q4]
   simp only[Function.comp,h1,List.filterMap_nil]
   rw[QK,List.getElem?_reverse (by omega),h1]
   rfl
 rw[e _ (Qh _)]
 exact Qz (by simp)
theorem Zkl(xs:List V):Zgo xs none none (-1)=xs.reverse:=by
 have e:sliceRange (sliceBounds none none (some (-1)) xs.length).1 (sliceBounds none none (some (-1)) xs.length).2.1 (sliceBounds none none (some (-1)) xs.length).2.2=sliceRange ((xs.length:Int)-1) (-1) (-1):=rfl
 unfold Zgo
 rw[e,Ze4,Zf9]
section
variable {X:Cx}
def rInsert:V→List V→Hp→VK→Prop:=fun x vs H Q=>∃l xs i y,x=.ref l∧vs=[.int i,y]∧H l=some (.lst xs)∧0≤i∧i≤xs.length∧xs.length<sizeLine∧Q .non (upd H l (.lst (xs.take i.toNat++y::xs.drop i.toNat)))
def rBits:V→List V→Hp→VK→Prop:=fun x vs H Q=>∃i,x=.int i∧vs=[]∧Q (.int (Builtin.Int.intBits i:Nat)) H
theorem inQ(K:PySem.W.Frag)(h:X.K=K:=by rfl):OpR X (compareOp .In) (rIn K false):=by subst h;exact ZkA
def rTupQ(K:PySem.W.Frag):List V→Hp→VK→Prop:=fun xs H Q=>∃p ys,xs=[.ref p]∧((SqL K H p ys∧∀l,H l=none→Q (.ref l) (upd H l (.tup ys)))∨(SqT K H p ys∧Q (.ref p) H))
end
def Its(z:Str):It:=⟨fun i _=>i<z.cps.size,fun i H v H'=>H'=H∧∃c,z.cps[i]? = some c∧v=.str ⟨#[c]⟩,fun i _=>z.cps.size≤i⟩
section
variable {X:Cx} {tg:Expr}
def iStr(tl:TE):TI:=fun σ H R=>tl σ H fun x H1=>∃z,x=.str z∧R (Its z) H1
end
def Zrt:PyData→Str
 | .str z=>z
 | d=>d.shown
def rStrD(K:PySem.W.Frag):List V→Hp→VK→Prop:=fun xs H Q=>∃x d,xs=[x]∧DV K H x d∧PyData.layable0 d=true∧d.intsShort 13=true∧d.showable=true∧Q (.str (Zrt d)) H
def Zbi(kvs:List (List Key×V))(k:List Key):Option V:=(kvs.find? fun kv=>decide (kv.1=k)).map (·.2)
abbrev ZeT(H:Hp):List (List Key×V)→List (List Key×Addr×Value)→Prop:=Paired fun (p:List Key×V) (q:List Key×Addr×Value)=>p.1=q.1∧H q.2.1=some (.tup (p.1.map kV))∧ZD p.2 q.2.2
theorem Zkn{H:Hp}{kvs:List (List Key×V)}{xs:List (List Key×Addr×Value)}(r:ZeT H kvs xs){p:List Key×V}{q:List Key×Addr×Value}(h:p.1=q.1∧H q.2.1=some (.tup (p.1.map kV))∧ZD p.2 q.2.2):ZeT H (kvs++[p]) (xs++[q]):=by
 induction r with
 | nil=>exact .cons h .nil
 | cons a t ih=>exact .cons a ih
theorem Zk5{H H':Hp}{kvs:List (List Key×V)}{xs:List (List Key×Addr×Value)}(k:∀b ys,H b=some (.tup ys)→H' b=some (.tup ys))(r:ZeT H kvs xs):ZeT H' kvs xs:=by
 induction r with
 | nil=>exact .nil
 | cons a t ih=>exact .cons ⟨a.1,k _ _ a.2.1,a.2.2⟩ ih
theorem ZhH{H:Hp}{R:List Key→Addr→Prop}(k:∀ks b,H b=some (.tup (ks.map kV))→R ks b){kvs:List (List Key×V)}{xs:List (List Key×Addr×Value)}(r:ZeT H kvs xs):∀x∈xs,R x.1 x.2.1:=by
 induction r with
 | nil=>intro x hx;cases hx
 | cons a t ih =>
  intro x hx
  rcases QG.mp hx with rfl|hx
  ·exact k _ _ (by rw[← a.1];exact a.2.1)
  ·exact ih x hx
theorem Zlt{H:Hp}{kvs:List (List Key×V)}{xs:List (List Key×Addr×Value)}(r:ZeT H kvs xs):kvs.length=xs.length:=by
 induction r with
 | nil=>rfl
 | cons a t ih=>rw[QE,QE,ih]
theorem Zp5{P:Program}{w:World}{k:Key}{u:Value}(r:ZD (kV k) u):(ZK P w).is k u=true:=by
 rcases k with i|x
 ·obtain⟨t,e⟩:=(show ∃t,u=Value.int i t from r)
  rw[e]
  exact Ze1 P w i t
 ·obtain⟨t,e⟩:=(show ∃t,u=Value.str x t from r)
  rw[e]
  exact ZeW P w x t
theorem Zfs{P:Program}{w:World}:∀ (ks:List Key) (us:List Value),Zy (ks.map kV) us→ItemsAre (ZK P w) ks us:=by
 intro ks
 induction ks with
 | nil=>intro us r;cases (show Zy [] us from r);exact .nil
 | cons k ks ih =>
  intro us r
  cases (show Zy (kV k::ks.map kV) us from r) with
  | cons a b=>exact .cons (Zp5 a) (ih _ b)
section
variable {X:Cx} {pins:List (Addr×Obj)} {σ:St} {H:Hp} {s:Shared}
theorem Inv.tkey{ks:List Key}{b:Addr}(I:Inv X pins σ H s)(e:H b=some (.tup (ks.map kV))):(tupleKind (ZK X.prog X.w)).is s.heap ks b:=by
 obtain⟨_,its,r,hb⟩:=I.hok b _ e
 obtain⟨o,h1,h2,n,h3⟩:=hb
 refine⟨o,its.toArray,n,h1,h2,h3,?_⟩
 have:=Zfs (P:=X.prog) (w:=X.w) ks its r
 simpa using this
def Zql:TE:=fun _ H Q=>∀p,H p=none→Q (.ref p) (upd H p (.dT []))
theorem Zhe{pos:Pos}:PE X (.Dict [] [] pos) Zql:=by
 intro pins s σ H Q I h
 have hb:sysModules<s.heap.objs.size:=Nat.lt_trans (by decide) (show mainGlobals<s.heap.objs.size from(I.mod.glob.keeps I.bk).lt)
 refine wpAny_Dict_empty ⟨.ref s.heap.objs.size,upd H s.heap.objs.size (.dT []),?_,rfl,h _ (I.hok.fresh (Qh _))⟩
 refine I.laid (t':=s.toks) (fun _ _ q=>Qs _ q) (Qh _) ?_
 refine⟨Qv _,?_,[],.nil,_,#[],0,QL _ rfl,⟨rfl,rfl,rfl⟩,rfl,rfl,List.nodup_nil⟩
 exact beq_eq_false_iff_ne.mpr fun z=>Qak _ (z ▸ hb)
end
def rSetDef:V→List V→Hp→VK→Prop:=fun x vs H Q=>∃d kvs b ks y,x=.ref d∧vs=[.ref b,y]∧H d=some (.dT kvs)∧H b=some (.tup (ks.map kV))∧kvs.length<sizeLine ∧
 (∀v,Zbi kvs ks=some v→Q v H)∧(Zbi kvs ks=none→Q y (upd H d (.dT (kvs++[(ks,y)]))))
def ZrX:List V→Hp→VK→Prop:=fun xs H Q=>∃j:Int,xs=[.int j]∧∀p,H p=none→Q (.ref p) (upd H p (.rng 0 j))
def ZrW:List V→Hp→VK→Prop:=fun xs H Q=>∃i j:Int,xs=[.int i,.int j]∧∀p,H p=none→Q (.ref p) (upd H p (.rng i j))
def Z0(lo:Int)(n:Nat):List Int:=(List.range n).map fun (k:Nat)=>lo+k
theorem ZaF(lo:Int)(n:Nat):(Z0 lo n).length=n:=by simp[Z0]
def rListR:List V→Hp→VK→Prop:=fun xs H Q=>∃ (p:Addr) (lo hi:Int),xs=[.ref p]∧H p=some (.rng lo hi) ∧ -(2 ^ 62)≤lo∧lo<2 ^ 62 ∧ -(2 ^ 62)≤hi∧hi<2 ^ 62∧(hi-lo).toNat≤1000 ∧
 ∀l,H l=none→Q (.ref l) (upd H l (.lst ((Z0 lo (hi-lo).toNat).map V.int)))
section
variable {prog:Program} {w:World} {A:Around} {E:Value→Shared→Prop} {s:Shared}
end
section
variable {X:Cx}
def rSlTS(K:PySem.W.Frag):V→Option Int→Option Int→Int→Hp→VK→Prop:=fun x lo hi st H Q=>∃a xs,x=.ref a∧SqT K H a xs∧lo=none∧hi=none∧st = -1∧∀p,H p=none→Q (.ref p) (upd H p (.tup xs.reverse))
def rExtendT(K:PySem.W.Frag):V→List V→Hp→VK→Prop:=fun x vs H Q=>∃l b xs zs,x=.ref l∧vs=[.ref b]∧H l=some (.lst xs)∧H b=some (.tup zs)∧xs.length+zs.length≤sizeLine∧Q .non (upd H l (.lst (xs++zs)))
theorem ZgX{prog:Program}{w:World}{A:Around}{E:Value→Shared→Prop}{s:Shared}{a:Addr}{o:Obj}{xs:Array Value}{n:Nat}{Q:Array Value→Shared→Prop}(ho:s.heap.get? a=some o)(hd:o.data=.seq xs n)(h:Q xs s):wpAny (model prog w) A (Builtin.List.listItems (.ref a)) Q E s:=by
 unfold Builtin.List.listItems
 exact wpAny_bind (wpAny_seqItems ho hd (wpAny_pure h))
def gSlice(to:TE)(tl th:TO):TG:=fun v σ H Q=>to σ H fun o H1=>tl σ H1 fun l H2=>th σ H2 fun u H3=>∃ (p b:Addr) (xs ys:List V) (a c:Int),o=.ref p∧v=.ref b∧l=some a∧u=some c∧H3 p=some (.lst xs)∧H3 b=some (.lst ys)∧p≠b∧0≤a∧a≤c∧c≤xs.length∧xs.length+ys.length≤sizeLine ∧
 Q σ (upd H3 p (.lst (xs.take a.toNat++ys++xs.drop c.toNat)))
def rSumB(K:PySem.W.Frag):List V→Hp→VK→Prop:=fun vs H Q=>∃ (p:Addr) (ns:List Int),vs=[.ref p]∧SqL K H p (ns.map V.int)∧ns.length≤1000∧(∀n∈ns,0≤n∧n≤10000000000)∧Q (.int ns.sum) H
theorem Zef(ns:List Int):∀n,n≤ns.length→preSum (fun j=>ns.getD j 0) n=(ns.take n).sum
 | 0,_=>rfl
 | n+1,h=>by
  have ih:=Zef ns n (by omega)
  have e:ns.take (n+1)=ns.take n++[ns.getD n 0]:=by
   rw[QK,Qb (by omega),Qi,Qb (by omega)]
   rfl
  rw[e,Qag,← ih]
  simp[preSum]
end
section
variable {prog:Program} {w:World} {A:Around} {E:Value→Shared→Prop} {s:Shared} {κ:PyProof.Rows.KeyKind} {k0:SortKind} {a₀:Array Keyed} {st:SortSt}
def LtAt(prog:Program)(w:World)(A:Around)(s:Shared)(k0:SortKind)(κ:PyProof.Rows.KeyKind):Prop :=
 ∀ (E:Value→Shared→Prop) (x y:Value) (a b:κ.α) (Q:Bool→Shared→Prop),κ.keyOf x=some a→κ.keyOf y=some b→Q (κ.blt a b) s→wpAny (model prog w) A (keyLt' k0 x y) Q E s
structure SB (k0:SortKind) (a₀:Array Keyed) (st:SortSt):Prop where
 perm:(arrOf st).Perm a₀
 kind:kindOf st=k0
 failed:failedOf st=none
 pend:pendingOf st = #[]
theorem Zrf(st:SortSt)(xs:Array Keyed):arrOf (setArr st xs)=xs:=rfl
end
section
variable {prog:Program} {w:World} {A:Around} {E:Value→Shared→Prop} {s:Shared} {κ:PyProof.Rows.KeyKind}
end
def kLt:Key→Key→Bool
 | .inl i,.inl j=>decide (i<j)
 | .inr x,.inr y=>decide (x.cps.toList<y.cps.toList)
 | .inl _,.inr _=>true
 | .inr _,.inl _=>false
theorem ZiZ:∀a:Key,kLt a a=false
 | .inl i=>decide_eq_false (by omega)
 | .inr x=>decide_eq_false (List.lt_irrefl _)
theorem Zk4:∀a b c:Key,kLt a b=true→kLt b c=true→kLt a c=true
 | .inl i,.inl j,.inl k,h1,h2=>by have:=of_decide_eq_true h1;have:=of_decide_eq_true h2;exact decide_eq_true (by omega)
 | .inr x,.inr y,.inr z,h1,h2=>decide_eq_true (List.lt_trans (of_decide_eq_true h1) (of_decide_eq_true h2))
 | .inl _,.inl _,.inr _,_,_=>rfl
 | .inl _,.inr _,.inr _,_,_=>rfl
 | .inl _,.inr _,.inl _,_,h=>by cases h
 | .inr _,.inl _,_,h,_=>by cases h
 | .inr _,.inr _,.inl _,_,h=>by cases h
theorem ZkU:∀a b:Key,kLt a b=false→kLt b a=false→a=b
 | .inl i,.inl j,h1,h2=>by have:=of_decide_eq_false h1;have:=of_decide_eq_false h2;congr 1;omega
 | .inr x,.inr y,h1,h2=>by
  have a1:¬ x.cps.toList<y.cps.toList:=of_decide_eq_false h1
  have a2:¬ y.cps.toList<x.cps.toList:=of_decide_eq_false h2
  have e:x.cps.toList=y.cps.toList:=List.le_antisymm a2 a1
  obtain⟨xs⟩:=x
  obtain⟨ys⟩:=y
  congr 2
  exact Array.toList_inj.mp e
 | .inl _,.inr _,h,_=>by cases h
 | .inr _,.inl _,_,h=>by cases h
def ZT:List Key→List Key→Bool
 | [],[]=>false
 | [],_::_=>true
 | _::_,[]=>false
 | x::xs,y::ys=>if x=y then ZT xs ys else kLt x y
theorem Z5(x y:Key)(xs ys:List Key):ZT (x::xs) (y::ys)=if x=y then ZT xs ys else kLt x y:=rfl
theorem ZbF:∀a:List Key,ZT a a=false
 | []=>rfl
 | x::r=>by unfold ZT;rw[if_pos rfl];exact ZbF r
theorem Zbu:∀a b c:List Key,ZT a b=true→ZT b c=true→ZT a c=true
 | [],[],_,h,_=>by cases h
 | [],_::_,[],_,h=>by cases h
 | [],_::_,_::_,_,_=>rfl
 | _::_,[],_,h,_=>by cases h
 | _::_,_::_,[],_,h=>by cases h
 | x::r,y::s,z::t,h1,h2=>by
  have ih:=Zbu r s t
  unfold ZT at h1 h2 ⊢
  by_cases e1:x=y
  ·rw[if_pos e1]at h1
   by_cases e2:y=z
   ·rw[if_pos e2]at h2
    rw[if_pos (e1.trans e2)]
    exact ih h1 h2
   ·rw[if_neg e2]at h2
    rw[if_neg (fun e=>e2 (e1.symm.trans e)),e1]
    exact h2
  ·rw[if_neg e1]at h1
   by_cases e2:y=z
   ·rw[if_neg (fun e=>e1 (e.trans e2.symm)),← e2]
    exact h1
   ·rw[if_neg e2]at h2
    have h3:=Zk4 _ _ _ h1 h2
    rw[if_neg (fun e=>by rw[e,ZiZ]at h3;cases h3)]
    exact h3
theorem Zbv:∀a b:List Key,ZT a b=false→ZT b a=false→a=b
 | [],[],_,_=>rfl
 | [],_::_,h,_=>by cases h
 | _::_,[],_,h=>by cases h
 | x::r,y::s,h1,h2=>by
  unfold ZT at h1 h2
  by_cases e:x=y
  ·rw[if_pos e]at h1
   rw[if_pos e.symm]at h2
   rw[e,Zbv r s h1 h2]
  ·rw[if_neg e]at h1
   rw[if_neg fun z=>e z.symm]at h2
   exact absurd (ZkU _ _ h1 h2) e
theorem Zmp(a b c:List Key)(h:ZT a c=true):ZT a b=true∨ZT b c=true:=by
 by_cases h1:ZT a b=true
 ·exact .inl h1
 ·by_cases h2:ZT b a=true
  ·exact .inr (Zbu _ _ _ h2 h)
  ·have e:=Zbv a b (by simpa using h1) (by simpa using h2)
   rw[← e];exact .inr h
def unV:V→Option Key
 | .int i=>some (.inl i)
 | .str x=>some (.inr x)
 | _=>none
def ZoK:List V→Option (List Key)
 | []=>some []
 | x::r=>(unV x).bind fun k=>(ZoK r).map (k::·)
def Za7(ks:List Key):List Bool:=ks.map fun k=>k.isLeft
def Zqt(H:Hp)(sh:List Bool):Value→Option (List Key)
 | .ref a=>match H a with
  | some (.tup xs)=>(ZoK xs).bind fun ks=>if Za7 ks=sh then some ks else none
  | _=>none
 | _=>none
def tupKind(H:Hp)(sh:List Bool):PyProof.Rows.KeyKind:=⟨⟨List Key,ZT,ZbF,Zbu,fun a b c h=>Zmp a b c h,Zbv⟩,Zqt H sh,[]⟩
section
variable {prog:Program} {w:World} {A:Around} {E:Value→Shared→Prop} {s:Shared}
end
section
variable {prog:Program} {w:World} {A:Around} {E:Value→Shared→Prop} {s:Shared}
end
abbrev ZcR:=List (Addr×List Key)
def Zaw(ts:ZcR):List V:=ts.map fun t=>V.ref t.1
def AtT(H:Hp)(ts:ZcR):Prop:=∀t∈ts,H t.1=some (.tup (t.2.map kV))
theorem ZeK:∀ {ts:ZcR} {us:List Value},Zy (Zaw ts) us→us=ts.map fun t=>Value.ref t.1
 | [],_,h=>by cases h;rfl
 | t::r,_,h=>by
  cases h with
  | cons a b=>rw[ZeK b];cases a;rfl
def rSrtT(K:PySem.W.Frag):List V→Hp→VK→Prop:=fun xs H Q=>∃ (p:Addr) (ts:ZcR) (sh:List Bool),xs=[.ref p]∧SqL K H p (Zaw ts)∧AtT H ts∧sh≠[]∧(∀t∈ts,Za7 t.2=sh)∧ts.length<64 ∧
 ∀ (l:Addr) (ts':ZcR),H l=none→ts'.Perm ts→ts'.Pairwise (fun a b=>ZT b.2 a.2=false)→Q (.ref l) (upd H l (.lst (Zaw ts')))
theorem ZmJ(A:Around)(s:Shared){k m:Key}{p q:Value}(hp:ZD (kV k) p)(hq:ZD (kV m) q)(hs:k.isLeft=m.isLeft):∃e,SeqAt.EqAt A s p q e∧(e=true↔k=m):=by
 cases k with
 | inl i =>
  cases m with
  | inl j =>
   obtain⟨t,rfl⟩:=hp
   obtain⟨u,rfl⟩:=hq
   exact⟨_,SeqAt.EqAt.int_int i t j u,by simp⟩
  | inr y=>cases hs
 | inr x =>
  cases m with
  | inl j=>cases hs
  | inr y =>
   obtain⟨t,rfl⟩:=hp
   obtain⟨u,rfl⟩:=hq
   exact⟨_,SeqAt.EqAt.str_str x t y u,by simp⟩
theorem ZmE(A:Around)(s:Shared){k m:Key}{p q:Value}(hp:ZD (kV k) p)(hq:ZD (kV m) q)(hs:k.isLeft=m.isLeft)(prog:Program)(w:World)(E:Value→Shared→Prop)(Q:Value→Shared→Prop)(h:Q (.bool (kLt k m)) s) :
  wpAny (model prog w) A (richCompare .Lt p q) Q E s:=by
 cases k with
 | inl i =>
  cases m with
  | inl j =>
   obtain⟨t,rfl⟩:=hp
   obtain⟨u,rfl⟩:=hq
   exact(PyProof.Rows.lt_int h:wpAny (model prog w) A (compareOp .Lt (.int i t) (.int j u)) Q E s)
  | inr y=>cases hs
 | inr x =>
  cases m with
  | inl j=>cases hs
  | inr y =>
   obtain⟨t,rfl⟩:=hp
   obtain⟨u,rfl⟩:=hq
   exact(PyProof.Rows.lt_str h:wpAny (model prog w) A (compareOp .Lt (.str x t) (.str y u)) Q E s)
section
open PySem.SeqAt
open PySem.AutoSeq1 (wpAny_loadPart')
open PySem.MeetsSeq PySem.MeetsSeq2 PySem.MeetsSeq3
theorem Zge(l b:Addr)(items items2:Array Value)(n n2:Nat)(dd dd2:Option Addr)(sl sl2:Array (Option Value))(ks ms:List Key)(hi:Zy (ks.map kV) items.toList)(hj:Zy (ms.map kV) items2.toList)(hs:Za7 ks=Za7 ms) :
  Meets (Builtin.«tuple.__lt__» ⟨[.ref l,.ref b],[]⟩)
   (fun _ R s=>s.heap.get? l=some { cls:=.type "tuple",dict:=dd,data:=.seq items n,slots:=sl }∧s.heap.get? b=some { cls:=.type "tuple",dict:=dd2,data:=.seq items2 n2,slots:=sl2 } ∧
    R (.ok (.ret (.bool (ZT ks ms)))) s) :=
 .of_wp fun prog w A R s h=>by
  obtain⟨hp,g,d,tk,os⟩:=s;obtain⟨hl,hb,h⟩:=h
  have f2:=AutoSeq1.sub_tuple_tuple
  have z1:items.size=ks.length:=by have:=hi.length;simpa using this.symm
  have z2:items2.size=ms.length:=by have:=hj.length;simpa using this.symm
  have z3:ks.length=ms.length:=by have:=congrArg List.length hs;simpa [Za7] using this
  wp_walk using wpAny_loadPart' hl,wpAny_loadPart' hb,wpAny_forIn_list _ (fun rest b s'=>b.1=none∧s'=⟨hp,g,d,tk,os⟩∧∃ (vs ws:List Value) (ks' ms':List Key),rest=vs.zip ws ∧
   Zy (ks'.map kV) vs∧Zy (ms'.map kV) ws∧Za7 ks'=Za7 ms'∧R (.ok (.ret (.bool (ZT ks' ms')))) ⟨hp,g,d,tk,os⟩) _
  case turn =>
   rintro⟨y,x⟩ rest b s' ⟨hb',rfl,vs,ws,ks',ms',hz,hvi,hwi,hsh,hR⟩
   cases ks' with
   | nil=>cases hvi;rw[List.zip_nil_left]at hz;cases hz
   | cons k1 kr =>
    cases ms' with
    | nil=>cases hsh
    | cons m1 mr =>
     cases hvi with
     | cons r1 rr =>
      cases hwi with
      | cons r1' rr' =>
       rw[List.zip_cons_cons]at hz
       injection hz with hyx hrest
       injection hyx with hy hx
       subst hy hx
       rw[Z5]at hR
       unfold Za7 at hsh
       rw[Qn,Qn]at hsh
       injection hsh with s1 s2
       obtain⟨e,he,hiff⟩:=ZmJ A.in1 ⟨hp,g,d,tk,os⟩ r1 r1' s1
       refine wpAny_bind (he prog w _ _ ?_)
       cases e with
       | true =>
        rw[if_pos (hiff.mp rfl)]at hR
        wp_walk
        exact⟨rfl,rfl,_,_,_,_,hrest,rr,rr',s2,hR⟩
       | false =>
        rw[if_neg (fun q=>absurd (hiff.mpr q) Qt)]at hR
        have hri:=ZmE A.in1 ⟨hp,g,d,tk,os⟩ r1 r1' s1 prog w
        wp_walk using hri
        exact⟨_,rfl,by simpa using hR⟩
  case fin =>
   rintro⟨b1,b2⟩ s' ⟨hb',rfl,vs,ws,ks',ms',hz,hvi,hwi,hsh,hR⟩
   simp only at hb'
   subst hb'
   have hv:ZT ks' ms'=decide (items.size<items2.size):=by
    rw[decide_eq_false (by omega)]
    cases ks' with
    | nil =>
     cases ms' with
     | nil=>rfl
     | cons _ _=>cases hsh
    | cons k1 kr =>
     cases ms' with
     | nil=>cases hsh
     | cons m1 mr =>
      cases hvi with
      | cons r1 rr =>
       cases hwi with
       | cons r1' rr'=>rw[List.zip_cons_cons]at hz;cases hz
   rw[hv]at hR
   wp_walk
   exact⟨_,rfl,by simpa [Builtin.Tuple.tupleCompareSizes] using hR⟩
  case h =>
   exact⟨rfl,rfl,items.toList,items2.toList,ks,ms,rfl,hi,hj,hs,h⟩
end
section
variable {prog:Program} {w:World} {A:Around} {E:Value→Shared→Prop} {s:Shared}
theorem ZiF{l b:Addr}{items items2:Array Value}{ks ms:List Key}{Q:Value→Shared→Prop}(hl:IsTup s.heap l items)(hb:IsTup s.heap b items2)(hi:Zy (ks.map kV) items.toList)(hj:Zy (ms.map kV) items2.toList)(hs:Za7 ks=Za7 ms)
  (hu:A.units<cLine) (h:Q (.bool (ZT ks ms)) s):wpAny (model prog w) A (richCompare .Lt (.ref l) (.ref b)) Q E s:=by
 obtain⟨⟨cls,dd,data,sl⟩,ho,hc,n,hd⟩:=id hl
 obtain⟨⟨cls2,dd2,data2,sl2⟩,ho2,hc2,n2,hd2⟩:=id hb
 simp only at hc hd hc2 hd2
 subst hc hd hc2 hd2
 exact richCompare_meets_room (op:=.Lt) ⟨_,ho,rfl⟩ ⟨_,ho2,rfl⟩ PySem.F.slot_tuple_lt PySem.F.entry_tuple_lt (PySem.F.args_tuple_lt_2 _ _) (Zge l b items items2 n n2 dd dd2 sl sl2 ks ms hi hj hs)
  ⟨ho,ho2,show Value.bool (ZT ks ms)≠Value.notImplemented∧Q (.bool (ZT ks ms)) s from⟨(fun x=>nomatch x),h⟩⟩ hu
end
section
variable {prog:Program} {w:World}
theorem Zk2{A:Around}{a:Args}:(A.under (.builtin "min.loop" a)).units≤A.units+1:=by
 show A.units+(Code.builtin "min.loop" a).cUnits≤A.units+1
 first|exact Qh _|simp[Code.cUnits,Code.frames,Code.isFrame]
theorem Zfq{A:Around}{R:Result→Shared→Prop}{l I S:Addr}{ts:ZcR}{sh:List Bool}{h0:Heap}{kw:List (Str×Value)}(hh:A.handled=none)(hu:A.units+4<cLine)(hlist:h0.IsList l (ts.map fun t=>Value.ref t.1).toArray)
  (hI:h0.get? I=none) (hS:h0.get? S=none) (hSI:S≠I) (htup:∀t∈ts,∃its:List Value,Zy (t.2.map kV) its∧IsTup h0 t.1 its.toArray) (hsh:∀t∈ts,Za7 t.2=sh) (s0:Shared)
  (q:∀ (h':Heap) (t:Addr×List Key),(∀b o,h0.get? b=some o→h'.get? b=some o)→t∈ts→(∀u∈ts,ZT u.2 t.2=false)→R (.ok (.ret (.ref t.1))) { s0 with heap:=h' }) :
  ∀ (k j:Nat) (h:Heap) (t:Addr×List Key) (c:Nat),ts.length-j=k→j≤ts.length→(∀b o,h0.get? b=some o→h.get? b=some o)→h.IsListIter I l j→h.get? S=some { cls:=.type "list",data:=.seq #[.ref t.1,.ref t.1] c }→t∈ts →
   (∀u∈ts.take j,ZT u.2 t.2=false)→codeAny (model prog w) A (.builtin "min.loop" { pos:=[.ref I,.none,.ref S],kw:=kw }) R { s0 with heap:=h }
 | k,j,h,t,c,hk,hj,keep,hit,hst,htm,hbest=>by
  refine codeAny_builtin F.entry_min_loop ?_
  show wpAny _ _ (seqItems? (.ref S) >>= _) _ _ _
  refine wpAny_bind (wpAny_seqItems hst rfl ?_)
  have keepL:h.IsList l (ts.map fun t=>Value.ref t.1).toArray:=by
   obtain⟨o,ho,r⟩:=hlist
   exact⟨o,keep _ _ ho,r⟩
  by_cases hlt:j<ts.length
  ·have hx:((ts.map fun t=>Value.ref t.1).toArray)[j]? = some (Value.ref ts[j].1):=by simp[hlt]
   refine wpAny_bind (wpAny_tryCatch (wpAny_pyNext_list_item hit keepL hx fun h1 hit1 sb=>?_))
   have keep1:∀b o,h0.get? b=some o→h1.get? b=some o:=fun b o hb=>by
    have nb:b≠I:=fun e=>by rw[e,hI]at hb;cases hb
    rw[sb.2 b nb];exact keep b o hb
   have hst1:h1.get? S=some { cls:=.type "list",data:=.seq #[.ref t.1,.ref t.1] c }:=by rw[sb.2 S hSI];exact hst
   refine wpAny_bind (wpAny_pure ?_)
   have hjm:ts[j]∈ts:=Q0 hlt
   obtain⟨i1,v1,t1⟩:=htup _ hjm
   obtain⟨i2,v2,t2⟩:=htup _ htm
   have tup1:∀ {a:Addr} {its:List Value},IsTup h0 a its.toArray→IsTup h1 a its.toArray:=fun ⟨o,ho,hc⟩=>⟨o,keep1 _ _ ho,hc⟩
   have hsh1:Za7 ts[j].2=Za7 t.2:=(hsh _ hjm).trans (hsh _ htm).symm
   refine wpAny_bind (wpAny_tryCatch (wpAny_holding (wpAny_bind (ZiF (tup1 t1) (tup1 t2) (by simpa using v1) (by simpa using v2) hsh1 (Qan Zk2 (by omega)) (wpAny_bind (wpAny_holding (wpAny_truthy_bool (wpAny_bind (wpAny_letGo (wpAny_pure ?_))))))))))
   cases hb:ZT ts[j].2 t.2 with
   | true =>
    refine wpAny_bind (wpAny_updateSeq hst1 rfl ?_ (by show 2≤_;rw[sizeLine_eq];decide) (by show 2≤_;rw[sizeLine_eq];decide))
    refine wpAny_bind (wpAny_letGo (wpAny_pure ⟨rfl,?_⟩))
    refine Zfq hh hu hlist hI hS hSI htup hsh s0 q (k-1) (j+1) _ ts[j] c (by omega) (by omega) (fun b o hb'=>?_) ?_ ?_ hjm (fun u hu'=>?_)
    ·have nb:S≠b:=fun e=>by rw[← e,hS]at hb';cases hb'
     exact Qad _ nb (keep1 b o hb')
    ·obtain⟨o,ho,r⟩:=hit1
     exact⟨o,Qad _ hSI ho,r⟩
    ·have:=get?_update_seq (c := "list") hst1 (fun _=>#[.ref ts[j].1,.ref ts[j].1])
     simpa using this
    ·rw[QK,Qb hlt]at hu'
     rcases Qe.mp hu' with hu'|hu'
     ·have:=hbest u hu'
      cases hz:ZT u.2 ts[j].2 with
      | false=>rfl
      | true=>rw[Zbu _ _ _ hz hb]at this;cases this
     ·have:u=ts[j]:=by simpa using hu'
      rw[this];exact ZbF _
   | false =>
    refine wpAny_bind (wpAny_letGo (wpAny_pure ⟨rfl,?_⟩))
    refine Zfq hh hu hlist hI hS hSI htup hsh s0 q (k-1) (j+1) h1 t c (by omega) (by omega) keep1 hit1 hst1 htm (fun u hu'=>?_)
    rw[QK,Qb hlt]at hu'
    rcases Qe.mp hu' with hu'|hu'
    ·exact hbest u hu'
    ·have:u=ts[j]:=by simpa using hu'
     rw[this];exact hb
  ·have hx:((ts.map fun t=>Value.ref t.1).toArray)[j]? = none:=by simp;omega
   refine wpAny_bind (wpAny_tryCatch (wpAny_pyNext_list_end hh hit keepL hx fun h1 eb=>?_))
   have hst1:h1.get? S=some { cls:=.type "list",data:=.seq #[.ref t.1,.ref t.1] c }:=eb S _ hSI hst
   refine wpAny_bind (wpAny_updateSeq hst1 rfl ?_ (by show 2≤_;rw[sizeLine_eq];decide) (by show 0≤_;omega))
   refine wpAny_bind (wpAny_letGo (wpAny_pure ?_))
   refine q _ t (fun b o hb=>?_) htm (fun u hu'=>hbest u (by rw[Qz (by omega)];exact hu'))
   have nb:S≠b:=fun e=>by rw[← e,hS]at hb;cases hb
   have nI:b≠I:=fun e=>by rw[e,hI]at hb;cases hb
   exact Qad _ nb (eb b o nI (keep b o hb))
termination_by k=>k
theorem Zkt{A:Around}{R:Result→Shared→Prop}{l I S:Addr}{ts:ZcR}{sh:List Bool}{h0 h:Heap}{c:Nat}{kw:List (Str×Value)}(hh:A.handled=none)(hu:A.units+4<cLine)(hlist:h0.IsList l (ts.map fun t=>Value.ref t.1).toArray)
  (hI:h0.get? I=none) (hS:h0.get? S=none) (hSI:S≠I) (htup:∀t∈ts,∃its:List Value,Zy (t.2.map kV) its∧IsTup h0 t.1 its.toArray) (hsh:∀t∈ts,Za7 t.2=sh) (s0:Shared) (keep:∀b o,h0.get? b=some o→h.get? b=some o) (hit:h.IsListIter I l 0) (hst:h.get? S=some { cls:=.type "list",data:=.seq #[] c })
  (hne:ts≠[]∨∃n d kr,kw=(n,d)::kr∧∀h':Heap,(∀b o,h0.get? b=some o→h'.get? b=some o)→R (.ok (.ret d)) { s0 with heap:=h' })
  (q:∀ (h':Heap) (t:Addr×List Key),(∀b o,h0.get? b=some o→h'.get? b=some o)→t∈ts→(∀u∈ts,ZT u.2 t.2=false)→R (.ok (.ret (.ref t.1))) { s0 with heap:=h' }) :
  codeAny (model prog w) A (.builtin "min.loop" { pos:=[.ref I,.none,.ref S],kw:=kw }) R { s0 with heap:=h }:=by
 refine codeAny_builtin F.entry_min_loop ?_
 show wpAny _ _ (seqItems? (.ref S) >>= _) _ _ _
 refine wpAny_bind (wpAny_seqItems hst rfl ?_)
 have keepL:h.IsList l (ts.map fun t=>Value.ref t.1).toArray:=by
  obtain⟨o,ho,r⟩:=hlist
  exact⟨o,keep _ _ ho,r⟩
 cases ts with
 | nil =>
  obtain⟨n,d,kr,rfl,q0⟩:=hne.resolve_left (by simp)
  refine wpAny_bind (wpAny_tryCatch (wpAny_pyNext_list_end hh hit keepL (by simp) fun h1 eb=>?_))
  show wpAny _ _ (rule _ >>= _) _ _ _
  refine wpAny_bind (wpAny_rule (wpAny_pure ?_))
  refine q0 _ fun b o hb=>?_
  have nI:b≠I:=fun e=>by rw[e,hI]at hb;cases hb
  exact eb b o nI (keep b o hb)
 | cons t r =>
  refine wpAny_bind (wpAny_tryCatch (wpAny_pyNext_list_item hit keepL (x:=.ref t.1) (by simp) fun h1 hit1 sb=>?_))
  have keep1:∀b o,h0.get? b=some o→h1.get? b=some o:=fun b o hb=>by
   have nb:b≠I:=fun e=>by rw[e,hI]at hb;cases hb
   rw[sb.2 b nb];exact keep b o hb
  have hst1:h1.get? S=some { cls:=.type "list",data:=.seq #[] c }:=by rw[sb.2 S hSI];exact hst
  refine wpAny_bind (wpAny_pure ?_)
  show wpAny _ _ (updateSeq S _ >>= _) _ _ _
  refine wpAny_bind (wpAny_updateSeq hst1 rfl ?_ (by show 0≤_;omega) (by show 2≤_;rw[sizeLine_eq];decide))
  refine wpAny_pure ⟨rfl,?_⟩
  refine Zfq hh hu hlist hI hS hSI htup hsh s0 q _ 1 _ t (c+1) rfl (by simp) (fun b o hb'=>?_) ?_ ?_ (by simp) (fun u hu'=>?_)
  ·have nb:S≠b:=fun e=>by rw[← e,hS]at hb';cases hb'
   exact Qad _ nb (keep1 b o hb')
  ·obtain⟨o,ho,r⟩:=hit1
   exact⟨o,Qad _ hSI ho,r⟩
  ·have:=get?_update_seq (c := "list") hst1 (fun _=>#[.ref t.1,.ref t.1])
   simpa using this
  ·have:u=t:=by simpa using hu'
   rw[this];exact ZbF _
end
section
variable {X:Cx}
def ZoL(K:PySem.W.Frag):List V→Hp→VK→Prop:=fun vs H Q=>∃ (p:Addr) (ts:ZcR) (sh:List Bool),vs=[.ref p]∧SqL K H p (Zaw ts)∧AtT H ts∧ts≠[]∧(∀t∈ts,Za7 t.2=sh) ∧
 ∀t:Addr×List Key,t∈ts→(∀u∈ts,ZT u.2 t.2=false)→Q (.ref t.1) H
theorem Zm4{prog:Program}{w:World}{A:Around}{R:Result→Shared→Prop}{s:Shared}{l:Addr}{ts:ZcR}{sh:List Bool}{kw:List (Str×Value)}{kw2:List (Str×Value)}(hh:A.handled=none)(hu:A.units+4<cLine)(hlist:s.heap.IsList l (ts.map fun t=>Value.ref t.1).toArray)
  (hkw:(kw=[]∧kw2=[])∨∃d,kw=[(Str.ofString "default",d)]∧kw2=[(Str.ofString "default",d)])
  (htup:∀t∈ts,∃its:List Value,Zy (t.2.map kV) its∧IsTup s.heap t.1 its.toArray) (hsh:∀t∈ts,Za7 t.2=sh)
  (hne:ts≠[]∨∃n d kr,kw2=(n,d)::kr∧∀h':Heap,(∀b o,s.heap.get? b=some o→h'.get? b=some o)→R (.ok (.ret d)) { s with heap:=h' })
  (q:∀ (h':Heap) (t:Addr×List Key),(∀b o,s.heap.get? b=some o→h'.get? b=some o)→t∈ts→(∀u∈ts,ZT u.2 t.2=false)→R (.ok (.ret (.ref t.1))) { s with heap:=h' }) :
  codeAny (model prog w) A (.call (.builtin "min") { pos:=[.ref l],kw:=kw }) R s:=by
 refine codeAny_call_builtin_at rfl F.entry_min ?_
 have hc:checkBuiltinCall "min" { pos:=[.ref l],kw:=kw }=pure ():=by
  rcases hkw with⟨rfl,_⟩|⟨d,rfl,_⟩<;>rfl
 rw[hc]
 refine wpAny_pure ?_
 have go:∀ {A':Around},A'.handled=none→wpAny (model prog w) A' (pyIter (.ref l) >>= fun it=>newList [] >>= fun b=>again (.builtin "min.loop" { pos:=[it,.none,b],kw:=kw2 })) (fun fin s'=>match fin with
   | Fin.done f=>R (Except.ok f) s'
   | Fin.again c'=>c'.quiet=true∧codeAny (model prog w) A c' R s') (fun e s'=>R (Except.error e) s') s:=fun {A'} hA'=>by
  refine wpAny_bind (wpAny_pyIter_list hlist ?_)
  refine wpAny_bind (wpAny_newList ?_ (by show 0≤_;omega))
  refine wpAny_pure ⟨rfl,?_⟩
  have none_at:∀b,s.heap.objs.size≤b→s.heap.get? b=none:=fun b hb=>by
   cases e:s.heap.get? b with
   | none=>rfl
   | some o=>exact absurd (Qy e) (Nat.not_lt.mpr hb)
  have hsz:(s.heap.push { cls:=Value.type "list_iterator",data:=Data.fields #[Value.ref l,Value.int 0 0] }).objs.size=s.heap.objs.size+1:=size_push' _ _
  refine Zkt (h0:=s.heap) (c:=0) hh hu hlist (none_at _ (Qh _)) (none_at _ (by rw[hsz];exact QaD _)) (by rw[hsz];exact Nat.succ_ne_self _) htup hsh s (fun b o h=>Qs _ (Qs _ h)) ⟨_,Qs _ (QL _ rfl),rfl,rfl⟩ (QL _ rfl) hne q
 rcases hkw with⟨rfl,rfl⟩|⟨d,rfl,rfl⟩
 ·exact go hh
 ·exact go hh
theorem Zkj(hc:X.calm=true)(hu:X.A.units+64<cLine):Za2 X (.builtin "min") (ZoL X.K):=by
 intro pins s σ H vs us Q I r h
 obtain⟨p,ts,sh,rfl,hq,hat,hne,hsh,q⟩:=h
 obtain⟨u,rfl,rx⟩:=ZdA r
 cases rx
 obtain⟨its,rv,pl,hz⟩:=I.list hq
 have ei:=ZeK rv
 subst ei
 refine wpAny_call (Zm4 (sh:=sh) (I.ok.hd hc) (by omega) pl.isList (.inl ⟨rfl,rfl⟩) (fun t ht=>?_) hsh (.inl hne) fun h' t kp ht hmin=>?_)
 ·obtain⟨i,v,q,_⟩:=I.tuple (SqT.of (K:=X.K) (hat t ht))
  exact⟨i,v,q⟩
 ·exact⟨.ref t.1,H,I.kept (t':=s.toks) kp,rfl,q t ht hmin⟩
theorem Zqu(K:PySem.W.Frag){k:Nat}(hr:ZaG k X.A)(hc:X.calm=true:=by rfl)(h:X.K=K:=by rfl):Za2 X (.builtin "min") (ZoL K):=by subst h;exact Zkj hc hr.units
def tMinD(K:PySem.W.Frag)(te:TA):TE:=fun σ H Q=>te σ H fun vs H1=>∃ (p:Addr) (ts:ZcR) (sh:List Bool),vs=[.ref p]∧SqL K H1 p (Zaw ts)∧AtT H1 ts∧(∀t∈ts,Za7 t.2=sh)∧(ts=[]→Q .non H1) ∧
 ∀t:Addr×List Key,t∈ts→(∀u∈ts,ZT u.2 t.2=false)→Q (.ref t.1) H1
end
theorem ZgB{α β:Type}(f:α→β):∀ (l:List α) (i:Nat),(l.eraseIdx i).map f=(l.map f).eraseIdx i
 | [],_=>rfl
 | a::r,0=>rfl
 | a::r,i+1=>by simp[ZgB f r i]
theorem ZkQ{A:Around}{a:Args}:(A.under (.builtin "list.remove.loop" a)).units≤A.units+1:=by
 show A.units+(Code.builtin "list.remove.loop" a).cUnits≤A.units+1
 rw[plainId_units MeetsSeq.plain_remove_loop]
 exact Qh _
def EqS(s:Shared)(items:List Value)(v:Value)(e:Nat→Bool):Prop:=∀ (prog:Program) (w:World) (A:Around) (E:Value→Shared→Prop) (Q:Bool→Shared→Prop) (m:Nat) (x:Value),A.units+2<cLine→items[m]? = some x→Q (e m) s→wpAny (model prog w) A (eqBool x v) Q E s
theorem ZhJ{prog:Program}{w:World}{A:Around}{R:Result→Shared→Prop}{s:Shared}{l:Addr}{items:List Value}{n:Nat}{v:Value}{e:Nat→Bool}{j:Nat}(hl:s.heap.get? l=some { cls:=.type "list",data:=.seq items.toArray n })(hq:EqS s items v e)(hu:A.units+8<cLine)(hz:items.length≤1000)
  (hj:j<items.length) (h1:e j=true) (h0:∀m,m<j→e m=false) (q:R (.ok (.ret .none)) { s with heap:=s.heap.update l (Obj.mapSeq fun xs=>xs.eraseIdxIfInBounds j) }) :
  ∀ (k i:Nat),j-i=k→i≤j→codeAny (model prog w) A (.builtin "list.remove.loop" { pos:=[.ref l,v,rawInt (i:Int)] }) R s
 | k,i,hk,hi=>by
  refine codeAny_builtin MeetsSeq.entry_remove_loop ?_
  have hx:items.toArray[((i:Nat):Int).toNat]? = some items[i]:=by rw[Q7];simp
  show wpAny _ _ (Builtin.List.listItems (.ref l) >>= _) _ _ _
  refine wpAny_bind (ZgX hl rfl ?_)
  show wpAny _ _ (match items.toArray[((i:Nat):Int).toNat]? with|none=>_|some x=>_) _ _ _
  rw[hx]
  refine wpAny_bind (hq prog w _ _ _ i _ (Qan (Nat.add_le_add_right ZkQ 2) (by omega)) (by simp) ?_)
  by_cases e0:i=j
  ·subst e0
   rw[h1]
   show wpAny _ _ (updateSeq l _ >>= _) _ _ _
   refine wpAny_bind (wpAny_updateSeq hl rfl ?_ (by rw[QB,sizeLine_eq];omega) ?_)
   ·rw[Q7]
    exact wpAny_pure q
   ·show (items.toArray.eraseIdxIfInBounds ((i:Nat):Int).toNat).size≤_
    rw[List.eraseIdxIfInBounds_toArray,QB,sizeLine_eq]
    have:=List.length_eraseIdx_le items ((i:Nat):Int).toNat
    omega
  ·rw[h0 i (by omega)]
   refine wpAny_pure ⟨plainId_quiet MeetsSeq.plain_remove_loop _,?_⟩
   have:=ZhJ (prog:=prog) (w:=w) hl hq hu hz hj h1 h0 q (k-1) (i+1) (by omega) (by omega)
   rw[show ((i+1:Nat):Int)=(i:Int)+1 by omega]at this
   exact this
termination_by k=>k
theorem Zkp(l:Addr)(items:List Value)(n:Nat)(v:Value)(e:Nat→Bool)(j:Nat):Meets (Builtin.«list.remove» { pos:=[.ref l,v] }) (fun A R s=>s.heap.get? l=some { cls:=.type "list",data:=.seq items.toArray n }∧EqS s items v e∧A.units+8<cLine∧items.length≤1000∧j<items.length∧e j=true∧(∀m,m<j→e m=false) ∧
  R (.ok (.ret .none)) { s with heap:=s.heap.update l (Obj.mapSeq fun xs=>xs.eraseIdxIfInBounds j) }):=by
 intro prog w A R s ⟨hl,hq,hu,hz,hj,h1,h0,q⟩
 show wpAny _ _ (pure (Fin.again (.builtin "list.remove.loop" { pos:=[.ref l,v,rawInt 0] }))) _ _ _
 exact wpAny_pure ⟨plainId_quiet MeetsSeq.plain_remove_loop _,ZhJ hl hq hu hz hj h1 h0 q j 0 rfl (Qv _)⟩
section
variable {X:Cx}
def rRemI:V→List V→Hp→VK→Prop:=fun x vs H Q=>∃ (l:Addr) (ns:List Int) (n:Int),x=.ref l∧vs=[.int n]∧H l=some (.lst (ns.map V.int))∧n∈ns∧ns.length≤1000∧Q .non (upd H l (.lst ((ns.erase n).map V.int)))
def ZoH:V→List V→Hp→VK→Prop:=fun x vs H Q=>∃ (l:Addr) (ts:ZcR) (t:Addr×List Key),x=.ref l∧vs=[.ref t.1]∧H l=some (.lst (Zaw ts))∧AtT H ts∧t∈ts∧ts.length≤1000∧∀ (i:Nat) (hi:i<ts.length),ts[i].2=t.2→Q .non (upd H l (.lst (Zaw (ts.eraseIdx i))))
theorem Zor(hu:X.A.units+64<cLine):MtM X "list.remove" ZoH:=by
 intro pins s σ H x vs v us Q I rx rv h
 obtain⟨l,ts,t,rfl,rfl,hH,hat,ht,hz,q⟩:=h
 cases rx
 obtain⟨u,rfl,ru⟩:=rv.one
 cases ru
 obtain⟨z,its,n',r,hl,e⟩:=I.lstM hH
 have ei:=ZeK r
 subst ei
 have hj:ts.findIdx (fun u=>decide (u.2=t.2))<ts.length:=List.findIdx_lt_length.mpr ⟨t,ht,decide_eq_true rfl⟩
 have key:∀u∈ts,(tupleKind (ZK X.prog X.w)).is s.heap u.2 u.1:=fun u hu'=>I.tkey (hat u hu')
 have tup:∀u∈ts,∃i:List Value,Zy (u.2.map kV) i∧IsTup s.heap u.1 i.toArray:=fun u hu'=>by
  obtain⟨i,v,q,_⟩:=I.tuple (SqT.of (K:=X.K) (hat u hu'))
  exact⟨i,v,q⟩
 refine call_meets F.slot_list_remove ⟨_,e,rfl⟩ F.entry_list_remove (F.args_list_remove_2 _ _) (Zkp l _ n' _ (fun m=>match ts[m]? with|some u=>decide (u.2=t.2)|none=>false) (ts.findIdx (fun u=>decide (u.2=t.2)))) ⟨e,?_,by omega,by rw[Qa];omega,by rw[Qa];exact hj,?_,?_,?_⟩
 ·intro prog w A E Q' m x hA hx hQ
  rw[Qk]at hx
  cases hm:ts[m]? with
  | none=>rw[hm]at hx;cases hx
  | some u =>
   rw[hm]at hx
   cases hx
   simp only[hm]at hQ
   obtain⟨i1,v1,o1,g1,c1,n1,d1⟩:=tup u (Qr hm)
   obtain⟨i2,v2,o2,g2,c2,n2,d2⟩:=tup t ht
   refine wpAny_eqBool_tuple (knd:=ZK prog w) (x:=u.2) (y:=t.2) (by omega) ⟨o1,_,n1,g1,c1,d1,?_⟩ ⟨o2,_,n2,g2,c2,d2,?_⟩ hQ
   ·simpa using Zfs u.2 i1 v1
   ·simpa using Zfs t.2 i2 v2
 ·simp only[List.getElem?_eq_getElem hj]
  exact List.findIdx_getElem (w:=hj)
 ·intro m hm
  have hml:m<ts.length:=by omega
  simp only[List.getElem?_eq_getElem hml]
  exact List.not_of_lt_findIdx (xs:=ts) (p:=fun u=>decide (u.2=t.2)) hm
 ·have hv:Zy (Zaw (ts.eraseIdx (ts.findIdx fun u=>decide (u.2=t.2)))) ((ts.map fun t=>Value.ref t.1).eraseIdx (ts.findIdx fun u=>decide (u.2=t.2))):=by
   have:=r.eraseIdx (ts.findIdx fun u=>decide (u.2=t.2))
   unfold Zaw at this ⊢
   rw[ZgB]
   exact this
  refine⟨.non,_,I.lset (its':=(ts.map fun t=>Value.ref t.1).eraseIdx (ts.findIdx fun u=>decide (u.2=t.2))) hH e ?_ hv ?_,rfl,q _ hj (of_decide_eq_true (List.findIdx_getElem (w:=hj)))⟩
  ·show (ts.map fun t=>Value.ref t.1).toArray.eraseIdxIfInBounds _=_
   rw[List.eraseIdxIfInBounds_toArray]
  ·unfold Zaw
   rw[Qa]
   have:=List.length_eraseIdx_le ts (ts.findIdx fun u=>decide (u.2=t.2))
   rw[sizeLine_eq];omega
theorem Zry{k:Nat}(hr:ZaG k X.A):MtM X "list.remove" ZoH:=Zor hr.units
end
section
open PySem.SeqAt
open PySem.AutoSeq1 (wpAny_loadPart')
open PySem.MeetsSeq PySem.MeetsSeq2 PySem.MeetsSeq3
end
section
variable {prog:Program} {w:World} {A:Around} {E:Value→Shared→Prop} {s:Shared}
end
section
variable {X:Cx}
def rGeK(K:PySem.W.Frag):R2:=fun x y H Q=>∃ (a b:Addr) (ks ms:List Key),x=.ref a∧y=.ref b∧SqT K H a (ks.map kV)∧SqT K H b (ms.map kV)∧Za7 ks=Za7 ms∧Q (.bl (!ZT ks ms)) H
end
def rMaxL(K:PySem.W.Frag):List V→Hp→VK→Prop:=fun vs H Q=>∃ (p:Addr) (ns:List Int),vs=[.ref p]∧SqL K H p (ns.map V.int)∧0<ns.length∧∀M,M∈ns→(∀a∈ns,a≤M)→Q (.int M) H
def isNum(n:Int):Value→Bool
 | .int a _=>a == n
 | _=>false
section
variable {X:Cx}
def rCountI:V→List V→Hp→VK→Prop:=fun x vs H Q=>∃ (l:Addr) (ns:List Int) (n:Int),x=.ref l∧vs=[.int n]∧H l=some (.lst (ns.map V.int))∧Q (.int ((ns.count n:Nat):Int)) H
end
section
variable {X:Cx} {T name id:String} {r:V→List V→Hp→VK→Prop} {o e:Expr} {es:List Expr} {to:TE} {t:TA} {apos cpos:Pos}
end
def ZrY(s:Shared)(items:List Value)(v:Value)(e:Nat→Bool):Prop:=∀ (prog:Program) (w:World) (A:Around) (E:Value→Shared→Prop) (Q:Bool→Shared→Prop) (m:Nat) (x:Value),A.units+60<cLine→items[m]? = some x→Q (e m) s→wpAny (model prog w) A (eqBool x v) Q E s
section
variable {X:Cx}
def rRemD(K:PySem.W.Frag):V→List V→Hp→VK→Prop:=fun x vs H Q=>∃ (l:Addr) (xs:List V) (ds:List PyData) (y:V) (d:PyData) (i:Nat),x=.ref l∧vs=[y]∧H l=some (.lst xs)∧DVs K H xs ds∧DV K H y d∧(∀e∈ds,e.canLay0=true)∧d.canLay0=true∧d.depth≤56∧xs.length≤1000 ∧
 i<ds.length∧(∀e,ds[i]? = some e→PyData.eqv e d=true)∧(∀m e,m<i→ds[m]? = some e→PyData.eqv e d=false)∧Q .non (upd H l (.lst (xs.eraseIdx i)))
def rInD(K:PySem.W.Frag):R2:=fun x y H Q=>∃ (l:Addr) (xs:List V) (ds:List PyData) (d:PyData),y=.ref l∧SqL K H l xs∧DVs K H xs ds∧DV K H x d∧PyData.canLayAll0 ds=true∧SeqAt.shaped d=true∧d.depth≤60∧Q (.bl (ds.any fun e=>PyData.eqv e d)) H
def ZoP(K:PySem.W.Frag):List V→Hp→VK→Prop:=fun vs H Q=>∃ (p:Addr) (ns:List Int),vs=[.ref p]∧SqL K H p (ns.map V.int)∧ns.length≤1000∧(∀n∈ns,0≤n∧n≤10000000000000)∧Q (.int ns.sum) H
theorem ZkF(hc:X.calm=true):Za2 X (.builtin "sum") (ZoP X.K):=by
 intro pins s σ H vs us Q I r h
 obtain⟨p,ns,rfl,hq,hn,hb,q⟩:=h
 obtain⟨u,rfl,rx⟩:=ZdA r
 cases rx
 obtain⟨its,rv,pl,_⟩:=I.list hq
 have hi:=ZiK rv
 obtain⟨xs,e⟩:=hi.allInts.items
 have hns:ns=xs.toList.map (·.1):=by rw[← hi.numsOf,← nums_intItems,← e]
 have hsz:xs.size=ns.length:=by rw[hns,Qa,Array.length_toList]
 have hnum:numAt xs=fun j=>ns.getD j 0:=by funext j;rw[numAt_eq,hns]
 have hl:=pl.isList
 rw[e]at hl
 have bound:∀n,n≤ns.length→0≤(ns.take n).sum∧(ns.take n).sum≤10000000000000*n:=by
  intro n
  induction n with
  | zero=>intro _;exact⟨by simp,by simp⟩
  | succ n ih =>
   intro h
   have ih:=ih (by omega)
   have hm:=hb ns[n] (Q0 (by omega))
   have e2:ns.take (n+1)=ns.take n++[ns[n]]:=by rw[QK,Qb (by omega)];rfl
   rw[e2,Qag]
   have e3:([ns[n]]:List Int).sum=ns[n]:=by simp
   rw[e3]
   omega
 refine sum_intList (I.ok.hd hc) hl (fun j hj=>?_) fun h' tk t' hk=>⟨.int _,H,I.kept hk,⟨t',rfl⟩,?_⟩
 ·rw[hnum]
  have hm:=hb ns[j] (Q0 (by omega))
  have hg:ns.getD j 0=ns[j]:=by rw[Qi,Qb (by omega)];rfl
  have hp:=bound (j+1) (by omega)
  refine⟨⟨?_,?_⟩,⟨?_,?_⟩⟩
  ·show -(2 ^ 63)≤ns.getD j 0
   rw[hg];omega
  ·show ns.getD j 0<2 ^ 63
   rw[hg];omega
  ·rw[Zef ns (j+1) (by omega)];omega
  ·rw[Zef ns (j+1) (by omega)];omega
 ·rw[hnum,hsz,Zef ns ns.length (Qh _),Qz (Qh _)]
  exact q
theorem Zqb(K:PySem.W.Frag)(hc:X.calm=true:=by rfl)(h:X.K=K:=by rfl):Za2 X (.builtin "sum") (ZoP K):=by subst h;exact ZkF hc
end
theorem Zns{H:Hp}{k:List Key}{kvs:List (List Key×V)}{xs:List (List Key×Addr×Value)}(r:ZeT H kvs xs):∀ {v:V},Zbi kvs k=some v→∃p,atKey xs k=some p∧ZD v p.2:=by
 induction r with
 | nil=>intro v h;cases h
 | @cons p q ps qs h t ih =>
  intro v hv
  unfold Zbi at hv
  unfold atKey
  rw[Qah]at hv ⊢
  rw[← h.1]
  by_cases e:p.1=k
  ·rw[decide_eq_true e]at hv ⊢
   cases hv
   exact⟨q.2,rfl,h.2.2⟩
  ·rw[decide_eq_false e]at hv ⊢
   exact ih hv
theorem ZnT{H:Hp}{k:List Key}{kvs:List (List Key×V)}{xs:List (List Key×Addr×Value)}(r:ZeT H kvs xs):Zbi kvs k=none→atKey xs k=none:=by
 induction r with
 | nil=>intro _;rfl
 | @cons p q ps qs h t ih =>
  intro hv
  unfold Zbi at hv
  unfold atKey
  rw[Qah]at hv ⊢
  rw[← h.1]
  by_cases e:p.1=k
  ·rw[decide_eq_true e]at hv
   cases hv
  ·rw[decide_eq_false e]at hv ⊢
   exact ih hv
theorem Zew{kvs:List (List Key×V)}{k k':List Key}{v:V}:Zbi (kvs++[(k,v)]) k'=(Zbi kvs k').or (if k=k' then some v else none):=by
 unfold Zbi
 rw[List.find?_append]
 cases h:kvs.find? fun kv=>decide (kv.1=k') with
 | some x=>rfl
 | none =>
  by_cases e:k=k'
  ·simp[e]
  ·simp[e]
section
variable {X:Cx}
def Zg2:R2:=fun x y H Q=>∃d kvs b ks v,x=.ref d∧y=.ref b∧H d=some (.dT kvs)∧H b=some (.tup (ks.map kV))∧Zbi kvs ks=some v∧Q v H
theorem Zqp(hu:X.A.units+64<cLine):IxR X Zg2:=by
 intro value slice pins s σ H x y v u Q I rx ry h hs
 obtain⟨d,kvs,b,ks,z,rfl,rfl,hH,hb,hk,q⟩:=h
 cases rx
 cases ry
 obtain⟨_,hd,xs,rel,o,es,ep,ho,hex,hdat,hent,hnd⟩:=(show Zap X.prog X.w H s.heap d (.dT kvs) from I.hok d _ hH)
 have hm:s.heap.DictOfH (tupleKind (ZK X.prog X.w)) d xs:=⟨o,es,ep,ho,hex,hdat,hent,ZhH (R:=fun ks b=>(tupleKind (ZK X.prog X.w)).is s.heap ks b) (fun ks b e=>I.tkey e) rel,hnd⟩
 obtain⟨p,hp,rp⟩:=Zns rel hk
 exact subscriptTail_builtinR (x:=p.2) hm.typeIs PySem.F.slot_dict_getitem.lookup (wpAny_getItem_heap (knd:=tupleKind (ZK X.prog X.w)) (by show X.A.units+1<cLine;omega) (I.tkey hb) hm hp ⟨rfl,z,H,I.tok _,rp,q⟩) hs
theorem ixD{k:Nat}(hr:ZaG k X.A):IxR X Zg2:=Zqp hr.units
def ZiS:ZkP:=fun o i v H Q=>∃d kvs b ks,o=.ref d∧i=.ref b∧H d=some (.dT kvs)∧H b=some (.tup (ks.map kV))∧Zbi kvs ks=none∧kvs.length<sizeLine∧Q (upd H d (.dT (kvs++[(ks,v)])))
theorem ZpO(hu:X.A.units+64<cLine):ZmT X ZiS:=by
 intro pins s σ H o i v ov iv u Q I ro ri rv h
 obtain⟨d,kvs,b,ks,rfl,rfl,hH,hb,hk,hz,q⟩:=h
 cases ro
 cases ri
 obtain⟨_,hd,xs,rel,o,es,ep,ho,hex,hdat,hent,hnd⟩:=(show Zap X.prog X.w H s.heap d (.dT kvs) from I.hok d _ hH)
 have hm:s.heap.DictOfH (tupleKind (ZK X.prog X.w)) d xs:=⟨o,es,ep,ho,hex,hdat,hent,ZhH (R:=fun ks b=>(tupleKind (ZK X.prog X.w)).is s.heap ks b) (fun ks b e=>I.tkey e) rel,hnd⟩
 have hl:=Zlt rel
 have hno:=ZnT rel hk
 refine wpAny_setItem_heap (knd:=tupleKind (ZK X.prog X.w)) (k:=ks) (by show X.A.units+1<cLine;omega) (I.tkey hb) hm (fun h' hm' hs=>?_) (by omega)
 rw[storedH_new hno]at hm'
 obtain⟨o',es',ep',g1,g2,g3,g4,_,g5⟩:=hm'
 refine⟨_,?_,q⟩
 refine I.write (x:=d) (e:=d) (by rw[hH];exact True.intro) (.inl rfl) (fun c q hc z=>(hs.2 c hc).trans z) ⟨o',g1⟩ ?_
 refine⟨by rw[Qf,Qm];omega,hd,xs++[(ks,b,u)],?_,o',es',ep',g1,g2,g3,g4,g5⟩
 refine Zk5 (fun c ys ec=>?_) (Zkn rel ⟨rfl,hb,rv⟩)
 rw[Zd (Zjo ec hH (fun z=>nomatch z))]
 exact ec
theorem Zrq{k:Nat}(hr:ZaG k X.A):ZmT X ZiS:=ZpO hr.units
end
abbrev IsZipG(h:Heap)(z TI TO:Addr)(f0:Value)(fl:Bool):Prop :=
 h.get? z=some { cls:=.type "zip",dict:=none,data:=.fields #[f0,.bool fl,.bool false,.ref TI,.ref TO],slots:=#[] }
section
variable {prog:Program} {w:World} {A:Around} {E:Value→Shared→Prop} {s:Shared}
end
section
variable {prog:Program} {w:World} {A:Around} {R:Result→Shared→Prop} {s:Shared}
end
def Zn1(J:It)(D:Addr)(ys:List V)(σ:St)(H:Hp)(g:TG)(te:TE)(N:List V→St→Hp→Prop):Prop :=
 ∃W:Nat→Nat→List V→St→Hp→Prop,(∃m,W 0 m ys σ H) ∧
  ∀i m ys σ2 H2,W i m ys σ2 H2→(J.stop i H2∧N ys σ2 H2) ∨
   (J.go i H2∧∃N2:List V→St→Hp→Prop,(∀ys' σ' H',N2 ys' σ' H'→∃m',m'<m∧W (i+1) m' ys' σ' H')∧∀x H3,J.yld i H2 x H3→g x σ2 H3 fun σ4 H4 =>
    te σ4 H4 fun y H6=>H6 D=some (.lst ys)∧ys.length<sizeLine∧N2 (ys++[y]) σ4 (upd H6 D (.lst (ys++[y]))))
def Zow(J:It)(D:Addr)(k:Nat)(σ:St)(H1:Hp)(g:TG)(wi2:TI)(g2:TG)(te:TE)(Q:VK):Prop :=
 ∃W:Nat→Nat→List V→St→Hp→Prop,(∃m,W 0 m [] (σ++List.replicate k none) (upd H1 D (.lst []))) ∧
  ∀i m ys σ2 H2,W i m ys σ2 H2→(J.stop i H2∧Q (.ref D) H2) ∨
   (J.go i H2∧∃N:List V→St→Hp→Prop,(∀ys' σ' H',N ys' σ' H'→∃m',m'<m∧W (i+1) m' ys' σ' H')∧∀x H3,J.yld i H2 x H3→g x σ2 H3 fun σ4 H4=>wi2 σ4 H4 fun J2 H5=>Zn1 J2 D ys σ4 H5 g2 te N)
def ZrR(n:Nat)(wi:TI)(g:TG)(wi2:TI)(g2:TG)(te:TE):TE:=fun σ H Q=>wi σ H fun J H1=>∀D,H1 D=none→Zow J D n σ H1 g wi2 g2 te Q
section
variable {X:Cx} {N N':List Str} {o c:Scope}
end
end L2
namespace Hf
open L2
abbrev PW:=List (Int×Nat)
def val(P:PW):Int:=(P.map fun p=>p.1*(p.2:Int)).sum
def ws(P:PW):List Int:=P.map (·.1)
def ds(P:PW):List Nat:=P.map (·.2)
def zs(z:Nat):List Int:=List.replicate z 0
def kr(w E:Nat)(D:List Nat):Nat:=(D.map fun d=>w ^ (E-d)).sum
def Kr(w:Nat)(D:List Nat):Prop:=∃E,(∀d∈D,d≤E)∧kr w E D=w ^ E
inductive Hu (w:Nat):List Int→Nat→Int→Prop
 | stop {e:Int} {m:Nat}:Hu w [e] m 0
 | step {E L:List Int} {m:Nat} {C:Int}:1<L.length→E.Perm L→L.Pairwise (·≤·)→Hu w (L.drop m++[(L.take m).sum]) w C→Hu w E m (C+(L.take m).sum)
def Fit(w n m:Nat):Prop:=n=1∨∃t,n=m+t*(w-1)
structure Fits (w n m:Nat):Prop where
 w2:2≤w
 m2:2≤m
 mw:m≤w
 ok:Fit w n m
end Hf
namespace L2
open PySem PySem.Spec PyProof.Rows
section
variable {prog:Program} {w:World} {A:Around} {R:Result→Shared→Prop} {s:Shared}
end
def Zpo(J:It)(D:Addr)(k:Nat)(σ:St)(H1:Hp)(g:TG)(tc:TT)(tk te:TE)(Q:VK):Prop :=
 ∃W:Nat→Nat→List (List Key×V)→St→Hp→Prop,(∃m,W 0 m [] (σ++List.replicate k none) (upd H1 D (.dT []))) ∧
  ∀i m ys σ2 H2,W i m ys σ2 H2→(J.stop i H2∧Q (.ref D) H2) ∨
   (J.go i H2∧∃N:List (List Key×V)→St→Hp→Prop,(∀ys' σ' H',N ys' σ' H'→∃m',m'<m∧W (i+1) m' ys' σ' H')∧∀x H3,J.yld i H2 x H3→g x σ2 H3 fun σ4 H4=>tc σ4 H4 fun b H5 =>
    if b=true then tk σ4 H5 fun kv H6=>te σ4 H6 fun y H7=>∃ (b:Addr) (ks:List Key),kv=.ref b∧H7 D=some (.dT ys)∧H7 b=some (.tup (ks.map kV))∧Zbi ys ks=none∧ys.length<sizeLine∧N (ys++[(ks,y)]) σ4 (upd H7 D (.dT (ys++[(ks,y)]))) else N ys σ4 H5)
def tDComp(n:Nat)(wi:TI)(g:TG)(tc:TT)(tk te:TE):TE:=fun σ H Q=>wi σ H fun J H1=>∀D,H1 D=none→Zpo J D n σ H1 g tc tk te Q
section
variable {X:Cx} {N N':List Str} {o c:Scope}
end
section
variable {κ:Type} [DecidableEq κ]
def Zbq(kvs:List (κ×V))(k:κ):Option V:=(kvs.find? fun kv=>decide (kv.1=k)).map (·.2)
def ZcU(kvs:List (κ×V))(k:κ)(v:V):List (κ×V) :=
 if (kvs.any fun kv=>decide (kv.1=k))=true then kvs.map (fun kv=>if kv.1=k then (kv.1,v) else kv) else kvs++[(k,v)]
def ZjT(kvs:List (κ×V))(k:κ):List (κ×V):=kvs.filter fun kv=>decide (kv.1≠k)
theorem Zqq{k:κ}:Zbq ([]:List (κ×V)) k=none:=rfl
theorem Zds{p:κ×V}{r:List (κ×V)}{k:κ}(e:p.1=k):Zbq (p::r) k=some p.2:=by simp[Zbq,List.find?_cons,e]
theorem Zdn{p:κ×V}{r:List (κ×V)}{k:κ}(e:¬ p.1=k):Zbq (p::r) k=Zbq r k:=by simp[Zbq,List.find?_cons,e]
theorem Zfx(k:κ):∀kvs:List (κ×V),(kvs.any fun kv=>decide (kv.1=k))=(Zbq kvs k).isSome
 | []=>rfl
 | p::r=>by
  rw[Qaz]
  by_cases e:p.1=k
  ·simp only[Zds e,decide_eq_true e,Bool.true_or,Option.isSome_some]
  ·rw[Zdn e,decide_eq_false e,Bool.false_or];exact Zfx k r
theorem Ze2(kvs:List (κ×V))(k:κ)(v:V):(ZcU kvs k v).length≤kvs.length+1:=by
 unfold ZcU
 split
 ·rw[Qa];omega
 ·rw[Qf,QE,List.length_nil];omega
theorem ZmI{kvs:List (κ×V)}{k:κ}(v:V)(h:Zbq kvs k=none):ZcU kvs k v=kvs++[(k,v)]:=by
 unfold ZcU
 rw[Zfx,h]
 exact if_neg (by decide)
theorem Zc8.isSome_eq{o:Option V}{u:Option Value}(r:Zc8 o u):o.isSome=u.isSome:=by
 cases o with
 | none=>cases u with
  | none=>rfl
  | some _=>exact(show False from r).elim
 | some _=>cases u with
  | none=>exact(show False from r).elim
  | some _=>rfl
theorem Zc8.getD{o:Option V}{u:Option Value}{d:V}{d':Value}(r:Zc8 o u)(rd:ZD d d'):ZD (o.getD d) (u.getD d'):=by
 cases o with
 | none=>cases u with
  | none=>exact rd
  | some _=>exact(show False from r).elim
 | some _=>cases u with
  | none=>exact(show False from r).elim
  | some _=>exact r
theorem KV.val{kvs:List (κ×V)}{vs:List (κ×Value)}(r:KV kvs vs)(k:κ):Zc8 (Zbq kvs k) (valueAt vs k):=by
 unfold KV at r
 induction r with
 | nil=>exact True.intro
 | @cons p q ps qs h t ih =>
  obtain⟨h1,h2⟩:=h
  by_cases e:p.1=k
  ·have e':q.1=k:=h1.symm.trans e
   have b:valueAt (q::qs) k=some q.2:=by simp[valueAt,List.find?_cons,e']
   rw[Zds e,b];exact h2
  ·have e':¬ q.1=k:=fun z=>e (h1.trans z)
   have b:valueAt (q::qs) k=valueAt qs k:=by simp[valueAt,List.find?_cons,e']
   rw[Zdn e,b];exact ih
theorem KV.any{kvs:List (κ×V)}{vs:List (κ×Value)}(r:KV kvs vs)(k:κ):(kvs.any fun kv=>decide (kv.1=k))=vs.any fun kv=>decide (kv.1=k):=by
 unfold KV at r
 induction r with
 | nil=>rfl
 | cons h t ih=>rw[Qaz,Qaz,ih,h.1]
theorem KV.repl{kvs:List (κ×V)}{vs:List (κ×Value)}(r:KV kvs vs)(k:κ){y:V}{u:Value}(ry:ZD y u) :
  KV (kvs.map fun kv=>if kv.1=k then (kv.1,y) else kv) (vs.map fun kv=>if kv.1=k then (kv.1,u) else kv):=by
 unfold KV at r ⊢
 induction r with
 | nil=>exact .nil
 | @cons p q ps qs h t ih =>
  rw[Qn,Qn]
  refine .cons ?_ ih
  obtain⟨h1,h2⟩:=h
  by_cases e:p.1=k
  ·rw[if_pos e,if_pos (h1.symm.trans e)];exact⟨h1,ry⟩
  ·rw[if_neg e,if_neg (fun z=>e (h1.trans z))];exact⟨h1,h2⟩
theorem KV.put{kvs:List (κ×V)}{vs:List (κ×Value)}(r:KV kvs vs)(k:κ){y:V}{u:Value}(ry:ZD y u):KV (ZcU kvs k y) (stored vs k u):=by
 unfold ZcU stored
 rw[r.any k]
 by_cases e:(vs.any fun kv=>decide (kv.1=k))=true
 ·rw[if_pos e,if_pos e];exact r.repl k ry
 ·rw[if_neg e,if_neg e];exact Paired.snoc r ⟨rfl,ry⟩
theorem KV.length{kvs:List (κ×V)}{vs:List (κ×Value)}(r:KV kvs vs):kvs.length=vs.length:=Paired.length r
end
theorem Zjr{P:Program}{w:World}{k:Key}{u:Value}(r:ZD (kV k) u):(ZK P w).is k u=true:=by
 cases k with
 | inl i=>obtain⟨t,e⟩:=(show ∃t,u=Value.int i t from r);subst e;exact Ze1 P w i t
 | inr x=>obtain⟨t,e⟩:=(show ∃t,u=Value.str x t from r);subst e;exact ZeW P w x t
theorem ZgD{P:Program}{w:World}:∀ {ks:List Key} {us:List Value},Zy (ks.map kV) us→ItemsAre (ZK P w) ks us
 | [],_,r=>by rw[Qai]at r;cases r;exact .nil
 | k::ks,_,r=>by
  rw[Qn]at r
  cases r with
  | cons h t=>exact .cons (Zjr h) (ZgD t)
abbrev KT(H:Hp):List (List Key×V)→List (List Key×Addr×Value)→Prop:=Paired fun p q=>p.1=q.1∧H q.2.1=some (.tup (p.1.map kV))∧ZD p.2 q.2.2
theorem KT.val{H:Hp}{kvs:List (List Key×V)}{xs:List (List Key×Addr×Value)}(r:KT H kvs xs)(k:List Key):Zc8 (Zbq kvs k) ((atKey xs k).map (·.2)):=by
 induction r with
 | nil=>exact True.intro
 | @cons p q ps qs h t ih =>
  obtain⟨h1,_,h2⟩:=h
  by_cases e:p.1=k
  ·have e':q.1=k:=h1.symm.trans e
   have b:atKey (q::qs) k=some q.2:=by simp[atKey,List.find?_cons,e']
   rw[Zds e,b];exact h2
  ·have e':¬ q.1=k:=fun z=>e (h1.trans z)
   have b:atKey (q::qs) k=atKey qs k:=by simp[atKey,List.find?_cons,e']
   rw[Zdn e,b];exact ih
theorem KT.repl{H:Hp}{kvs:List (List Key×V)}{xs:List (List Key×Addr×Value)}(r:KT H kvs xs)(k:List Key){y:V}{u:Value}(ry:ZD y u) :
  KT H (kvs.map fun kv=>if kv.1=k then (kv.1,y) else kv) (xs.map (putAt k u)):=by
 induction r with
 | nil=>exact .nil
 | @cons p q ps qs h t ih =>
  rw[Qn,Qn]
  refine .cons ?_ ih
  obtain⟨h1,h2,h3⟩:=h
  unfold putAt
  by_cases e:p.1=k
  ·rw[if_pos e,if_pos (h1.symm.trans e)];exact⟨h1,h2,ry⟩
  ·rw[if_neg e,if_neg (fun z=>e (h1.trans z))];exact⟨h1,h2,h3⟩
theorem KT.put{H:Hp}{kvs:List (List Key×V)}{xs:List (List Key×Addr×Value)}(r:KT H kvs xs)(k:List Key){b:Addr}{y:V}{u:Value}(hb:H b=some (.tup (k.map kV)))(ry:ZD y u) :
  KT H (ZcU kvs k y) (storedH xs k b u):=by
 have e:(kvs.any fun kv=>decide (kv.1=k))=(atKey xs k).isSome:=by
  rw[Zfx,(r.val k).isSome_eq,Option.isSome_map]
 unfold ZcU storedH
 rw[e]
 by_cases q:(atKey xs k).isSome=true
 ·rw[if_pos q,if_pos q];exact r.repl k ry
 ·rw[if_neg q,if_neg q];exact Paired.snoc r ⟨rfl,hb,ry⟩
theorem KT.keeps{H H':Hp}{kvs:List (List Key×V)}{xs:List (List Key×Addr×Value)}(r:KT H kvs xs)(ht:∀b ys,H b=some (.tup ys)→H' b=some (.tup ys)):KT H' kvs xs :=
 Paired.mapP r fun _ _ z=>⟨z.1,ht _ _ z.2.1,z.2.2⟩
section
variable {P:Program} {w:World} {H:Hp} {h:Heap} {a:Addr}
theorem ZoB{u:HO}(ok:HOk P w H h)(e:Rd H a u):Zap P w H h a u:=e.ok ok
theorem Zgu{kvs:List (Key×V)}(ok:HOk P w H h)(e:Rd H a (.dK kvs)):kvs.length≤sizeLine∧(a == sysModules)=false∧∃vs,KV kvs vs∧h.DictOf (ZK P w) a vs :=
 show Zap P w H h a (.dK kvs) from ZoB ok e
theorem ZqB{kvs:List (Key×V)}(ok:HOk P w H h)(e:H a=some (.dK kvs)):kvs.length≤sizeLine∧(a == sysModules)=false∧∃vs,KV kvs vs∧h.DictOf (ZK P w) a vs:=Zgu ok (.inl e)
theorem Zhh{ks:List Key}(ok:HOk P w H h)(e:H a=some (.tup (ks.map kV))):(tupleKind (ZK P w)).is h ks a:=by
 obtain⟨_,its,r,o,h1,h2,n,h3⟩:=(show Zap P w H h a (.tup (ks.map kV)) from ok a _ e)
 exact⟨o,its.toArray,n,h1,h2,h3,by simpa using ZgD r⟩
theorem Zh7{kvs:List (List Key×V)}(ok:HOk P w H h)(e:Rd H a (.dT kvs)):kvs.length≤sizeLine∧(a == sysModules)=false ∧
  ∃xs,KT H kvs xs∧h.DictOfH (tupleKind (ZK P w)) a xs:=by
 obtain⟨z,y,xs,r,o,es,ep,h1,h2,h3,h4,h5⟩:=(show Zap P w H h a (.dT kvs) from ZoB ok e)
 refine⟨z,y,xs,r,o,es,ep,h1,h2,h3,h4,fun x hx=>?_,h5⟩
 have all:∀ {l:List (List Key×V)} {m:List (List Key×Addr×Value)},KT H l m→∀x∈m,(tupleKind (ZK P w)).is h x.1 x.2.1:=by
  intro l m q
  induction q with
  | nil=>intro x hx;exact nomatch hx
  | @cons p q ps qs hq t ih =>
   intro x hx
   rcases QG.mp hx with e|hx
   ·subst e
    exact Zhh ok (by rw[← hq.1];exact hq.2.1)
   ·exact ih x hx
 exact all r x hx
theorem ZqQ{kvs:List (List Key×V)}(ok:HOk P w H h)(e:H a=some (.dT kvs)):kvs.length≤sizeLine∧(a == sysModules)=false ∧
  ∃xs,KT H kvs xs∧h.DictOfH (tupleKind (ZK P w)) a xs:=Zh7 ok (.inl e)
end
def ZbL(H:Hp)(a:Addr)(y:V)(r:Option V):Prop :=
 (∃kvs k,Rd H a (.dK kvs)∧y=kV k∧r=Zbq kvs k)∨∃kvs k b,Rd H a (.dT kvs)∧y=.ref b∧H b=some (.tup (k.map kV))∧r=Zbq kvs k
def ZeN(H:Hp)(a:Addr)(y v:V)(H':Hp):Prop :=
 (∃kvs k,H a=some (.dK kvs)∧y=kV k∧kvs.length<sizeLine∧H'=upd H a (.dK (ZcU kvs k v))) ∨
 ∃kvs k b,H a=some (.dT kvs)∧y=.ref b∧H b=some (.tup (k.map kV))∧kvs.length<sizeLine∧H'=upd H a (.dT (ZcU kvs k v))
theorem ZbL.k{H:Hp}{a:Addr}{kvs:List (Key×V)}{k:Key}(e:H a=some (.dK kvs)):ZbL H a (kV k) (Zbq kvs k):=.inl ⟨kvs,k,.inl e,rfl,rfl⟩
theorem ZbL.t{H:Hp}{a b:Addr}{kvs:List (List Key×V)}{k:List Key}(e:H a=some (.dT kvs))(eb:H b=some (.tup (k.map kV))):ZbL H a (.ref b) (Zbq kvs k):=.inr ⟨kvs,k,b,.inl e,rfl,eb,rfl⟩
theorem ZeN.k{H:Hp}{a:Addr}{kvs:List (Key×V)}{k:Key}{v:V}(e:H a=some (.dK kvs))(hl:kvs.length<sizeLine):ZeN H a (kV k) v (upd H a (.dK (ZcU kvs k v))):=.inl ⟨kvs,k,e,rfl,hl,rfl⟩
theorem ZeN.t{H:Hp}{a b:Addr}{kvs:List (List Key×V)}{k:List Key}{v:V}(e:H a=some (.dT kvs))(eb:H b=some (.tup (k.map kV)))(hl:kvs.length<sizeLine) :
  ZeN H a (.ref b) v (upd H a (.dT (ZcU kvs k v))):=.inr ⟨kvs,k,b,e,rfl,eb,hl,rfl⟩
section
variable {X:Cx} {pins:List (Addr×Obj)} {σ:St} {H:Hp} {s:Shared} {a:Addr} {y v:V} {u r:Value} {o:Option V} {A:Around} {E:Value→Shared→Prop}
theorem Inv.big(I:Inv X pins σ H s):sysModules<s.heap.objs.size:=by
 have h:mainGlobals<s.heap.objs.size:=(I.mod.glob.keeps I.bk).lt
 exact Nat.lt_trans (by decide) h
theorem Zkk{Q:Value→Shared→Prop}(hu:A.units+1<cLine)(I:Inv X pins σ H s)(g:ZbL H a y (some v))(ry:ZD y u)(h:∀w' s',Inv X pins σ H s'→ZD v w'→Q w' s') :
  wpAny (model X.prog X.w) A (getItem (.ref a) u) Q E s:=by
 rcases g with⟨kvs,k,e,ey,l⟩|⟨kvs,k,b,e,ey,eb,l⟩
 ·subst ey
  obtain⟨z,hd,vs,rel,dd⟩:=Zgu I.hok e
  obtain⟨w',hw,rw'⟩:=Zc8.some_of (v:=v) (o:=valueAt vs k) (by rw[l];exact rel.val k)
  exact wpAny_getItem_of (Zjr ry) dd.mapOf hw (h w' _ (I.tok _) rw')
 ·subst ey
  cases (show u=Value.ref b from ry)
  obtain⟨z,hd,xs,rel,dd⟩:=Zh7 I.hok e
  obtain⟨w',hw,rw'⟩:=Zc8.some_of (v:=v) (o:=(atKey xs k).map (·.2)) (by rw[l];exact rel.val k)
  obtain⟨p,hp,hp2⟩:=QaF.mp hw
  refine wpAny_getItem_heap (tupleKind_room_in1 hu) (Zhh I.hok eb) dd hp ?_
  rw[hp2]
  exact h w' _ (I.tok _) rw'
theorem Zjf{h':Heap}{t':Nat}{ob:HO}(I:Inv X pins σ H s)(mu:Mut (H a))(hs:Heap.SameBut a s.heap h')(he:∃q,h'.get? a=some q)(new:Zap X.prog X.w (upd H a ob) h' a ob) :
  Inv X pins σ (upd H a ob) { s with heap:=h',toks:=t' } :=
 I.write (x:=a) (e:=a) mu (.inl rfl) (fun b q hb z=>(hs.2 b hb).trans z) he new
theorem Zp2{P:Program}{w:World}{H':Hp}{h':Heap}{kvs:List (Key×V)}{vs:List (Key×Value)}(z:kvs.length≤sizeLine)(hd:(a == sysModules)=false)(rel:KV kvs vs)(dd:h'.DictOf (ZK P w) a vs) :
  Zap P w H' h' a (.dK kvs):=⟨z,hd,vs,rel,dd⟩
theorem ZkS{H':Hp}{Q:Unit→Shared→Prop}(hu:A.units+1<cLine)(I:Inv X pins σ H s)(g:ZeN H a y v H')(ry:ZD y u)(rv:ZD v r)(h:∀s',Inv X pins σ H' s'→Q () s') :
  wpAny (model X.prog X.w) A (setItem (.ref a) u r) Q E s:=by
 rcases g with⟨kvs,k,e,ey,l,eH⟩|⟨kvs,k,b,e,ey,eb,l,eH⟩
 ·subst ey eH
  obtain⟨z,hd,vs,rel,dd⟩:=ZqB I.hok e
  have hz:vs.length≤sizeLine:=by rw[← rel.length];exact z
  have hl:(ZcU kvs k v).length≤sizeLine:=by have:=Ze2 kvs k v;omega
  refine wpAny_setItem_pairs (hsz:=hz) (Zjr ry) dd fun h' dd' hs=>h _ ?_
  have he:∃q,h'.get? a=some q:=let ⟨q,_,_,hq,_⟩:=dd';⟨q,hq⟩
  exact Zjf I (by rw[e];exact True.intro) hs he (Zp2 hl hd (rel.put k rv) dd')
 ·subst ey eH
  cases (show u=Value.ref b from ry)
  obtain⟨z,hd,xs,rel,dd⟩:=ZqQ I.hok e
  have hz:xs.length≤sizeLine:=by rw[← Paired.length rel];exact z
  have hl:(ZcU kvs k v).length≤sizeLine:=by have:=Ze2 kvs k v;omega
  refine wpAny_setItem_heap (hsz:=hz) (tupleKind_room_in1 hu) (Zhh I.hok eb) dd fun h' dd' hs=>h _ ?_
  obtain⟨q,es,ep,hq,h2,h3,h4,_,h5⟩:=dd'
  refine Zjf I (by rw[e];exact True.intro) hs ⟨q,hq⟩ ⟨hl,hd,_,(rel.put k eb rv).keeps fun c ys ec=>?_,q,es,ep,hq,h2,h3,h4,h5⟩
  rw[Zd (Zjo ec e (fun z=>nomatch z))]
  exact ec
end
section
variable {X:Cx} {pins:List (Addr×Obj)} {σ:St} {H:Hp} {s:Shared} {a:Addr} {kvs:List (Key×V)} {k:Key} {u:Value} {A:Around} {E:Value→Shared→Prop}
theorem Zqf{Q:Value→Shared→Prop}(I:Inv X pins σ H s)(e:Rd H a (.dK kvs))(h:∀t s',Inv X pins σ H s'→Q (.int kvs.length t) s'):wpAny (model X.prog X.w) A (call (.builtin "len") [.ref a]) Q E s:=by
 obtain⟨z,hd,vs,rel,dd⟩:=Zgu I.hok e
 refine call_len_dict hd dd (by rw[← rel.length];rw[sizeLine_eq]at z;omega) ?_
 rw[← rel.length]
 exact h _ _ (I.tok _)
end
def NoSl(i:Expr):Prop:=∀ov iv,subscripted i false ov iv=operate [ov,iv] (getItem ov iv)
theorem ZhI{X:Cx}{pins:List (Addr×Obj)}{σ:St}{H:Hp}{s:Shared}{a:Addr}{y:V}{o:Option V}(I:Inv X pins σ H s)(g:ZbL H a y o):s.TypeIs (.ref a) "dict":=by
 rcases g with⟨kvs,k,e,_,_⟩|⟨kvs,k,b,e,_,_,_⟩
 ·obtain⟨_,_,vs,_,dd⟩:=Zgu I.hok e
  exact dd.typeIs
 ·obtain⟨_,_,xs,_,dd⟩:=Zh7 I.hok e
  exact dd.typeIs
def tDGet(td ty:TE):TE:=fun σ H Q=>td σ H fun x H1=>ty σ H1 fun y H2=>∃a v,x=.ref a∧ZbL H2 a y (some v)∧Q v H2
def tDIn(ty td:TE):TE:=fun σ H Q=>ty σ H fun y H1=>td σ H1 fun x H2=>∃a o,x=.ref a∧ZbL H2 a y o∧Q (.bl o.isSome) H2
def tDNotIn(ty td:TE):TE:=fun σ H Q=>ty σ H fun y H1=>td σ H1 fun x H2=>∃a o,x=.ref a∧ZbL H2 a y o∧Q (.bl (!o.isSome)) H2
def sDPut(td ty tv:TE):TS:=fun D σ H=>tv σ H fun v H1=>td σ H1 fun x H2=>ty σ H2 fun y H3=>∃a H4,x=.ref a∧ZeN H3 a y v H4∧D.nx σ H4
def sDAug(td ty tv:TE)(rd:V→V→Hp→VK→Prop):TS:=fun D σ H=>td σ H fun x H1=>ty σ H1 fun y H2=>∃a v,x=.ref a∧ZbL H2 a y (some v) ∧
 tv σ H2 fun y2 H3=>rd v y2 H3 fun z H4=>∃H5,ZeN H4 a y z H5∧D.nx σ H5
def sDDel(td ty:TE):TS:=fun D σ H=>td σ H fun x H1=>ty σ H1 fun y H2=>∃a kvs k,x=.ref a∧H2 a=some (.dK kvs)∧y=kV k∧(Zbq kvs k).isSome=true∧D.nx σ (upd H2 a (.dK (ZjT kvs k)))
section
variable {X:Cx} {o i e value:Expr} {pos pos' tpos:Pos} {td ty tv:TE}
end
theorem Zmr{P:Program}{w:World}{H:Hp}(h:Heap)(hb:sysModules<h.objs.size):Zap P w H (h.push { cls:=.type "dict",data:=.dict #[] }) h.objs.size (.dK []) :=
 ⟨Qv _,beq_eq_false_iff_ne.mpr (Ne.symm (QS hb)),[],.nil,Heap.DictOf.new h⟩
def ZpT:TE:=fun _ H Q=>∀p,H p=none→Q (.ref p) (upd H p (.dK []))
def tDNewT:TE:=fun _ H Q=>∀p,H p=none→Q (.ref p) (upd H p (.dT []))
section
variable {X:Cx} {pos:Pos}
theorem ZmC:PE X (.Dict [] [] pos) ZpT:=fun pins s σ H Q I h =>
 wpAny_Dict_empty ⟨.ref s.heap.objs.size,_,I.laid (a:=s.heap.objs.size) (o:=.dK []) (t':=s.toks) (fun _ _ q=>Qs _ q) (Qh _) (Zmr s.heap I.big),rfl,h _ (I.hok.fresh (Qh _))⟩
end
def Ziz:List (TE×TE)→St→Hp→(List (V×V)→Hp→Prop)→Prop
 | [],_,H,Q=>Q [] H
 | (tk,tv)::r,σ,H,Q=>tk σ H fun x H1=>tv σ H1 fun y H2=>Ziz r σ H2 fun ps H3=>Q ((x,y)::ps) H3
abbrev VV:List (V×V)→List (Value×Value)→Prop:=Paired fun p q=>ZD p.1 q.1∧ZD p.2 q.2
def PPs(X:Cx)(pos:Pos)(keys:List (Option Expr))(values:List Expr)(trs:List (TE×TE)):Prop :=
 ∀ (pins:List (Addr×Obj)) (s:Shared) (σ:St) (H:Hp) (Q:List (V×V)→Hp→Prop),Inv X pins σ H s→Ziz trs σ H Q →
  wpAny (model X.prog X.w) X.A (evalPairs (pairTrees keys values X.env pos)) (fun vs s'=>∃ps H',Inv X pins σ H' s'∧VV ps vs∧Q ps H') X.xe s
def Zjc(kvs more:List (Key×V)):List (Key×V):=more.foldl (fun acc kv=>ZcU acc kv.1 kv.2) kvs
def tDisp(trs:List (TE×TE)):TE:=fun σ H Q=>∀p,H p=none→Ziz trs σ (upd H p (.dK [])) fun ps H2=>H2 p=some (.dK [])∧∃kvs:List (Key×V),ps=kvs.map (fun kv=>(kV kv.1,kv.2))∧kvs.length≤15∧Q (.ref p) (upd H2 p (.dK (Zjc [] kvs)))
structure M1 (X:Cx) (o:Expr) (m:Str) (apos:Pos) (e:Expr) (cpos:Pos):Prop where
 base:attributeBase o m X.env (eval o X.env)=eval o X.env
 few:((backTo cpos (starEach [e] X.env)).all (fun x=>!x.1)&&(backToKw cpos (keywordEach [] X.env)).all (fun x=>x.1.isSome)
  && decide (([e]:List Expr).length+([]:List Keyword).length+(if ([]:List Keyword).isEmpty then 0 else 1)<30))=true
 line:(apos.endLine == cpos.line)=true
 trees:backTo cpos (starEach [e] X.env)=[(false,eval e X.env)]
structure M2 (X:Cx) (o:Expr) (m:Str) (apos:Pos) (e f:Expr) (cpos:Pos):Prop where
 base:attributeBase o m X.env (eval o X.env)=eval o X.env
 few:((backTo cpos (starEach [e,f] X.env)).all (fun x=>!x.1)&&(backToKw cpos (keywordEach [] X.env)).all (fun x=>x.1.isSome)
  && decide (([e,f]:List Expr).length+([]:List Keyword).length+(if ([]:List Keyword).isEmpty then 0 else 1)<30))=true
 line:(apos.endLine == cpos.line)=true
 trees:backTo cpos (starEach [e,f] X.env)=[(false,eval e X.env),(false,eval f X.env)]
def IsD(H:Hp)(a:Addr):Prop:=(∃kvs,Rd H a (.dK kvs))∨∃kvs,Rd H a (.dT kvs)
theorem Zpu{X:Cx}{pins:List (Addr×Obj)}{σ:St}{H:Hp}{s:Shared}{a:Addr}(I:Inv X pins σ H s)(d:IsD H a) :
  s.TypeIs (.ref a) "dict"∧(∀b,Value.ref a=.ref b→∃ob,s.heap.get? b=some ob∧ob.dict=none)∧(a == sysModules)=false:=by
 rcases d with⟨kvs,e⟩|⟨kvs,e⟩
 ·obtain⟨_,hd,vs,_,dd⟩:=Zgu I.hok e
  refine⟨dd.typeIs,fun b q=>?_,hd⟩
  cases q
  obtain⟨ob,_,_,h1,h2,_⟩:=dd
  exact⟨ob,h1,h2.2.1⟩
 ·obtain⟨_,hd,xs,_,dd⟩:=Zh7 I.hok e
  refine⟨dd.typeIs,fun b q=>?_,hd⟩
  cases q
  obtain⟨ob,_,_,h1,h2,_⟩:=dd
  exact⟨ob,h1,h2.2.1⟩
section
variable {X:Cx} {pins:List (Addr×Obj)} {σ:St} {H:Hp} {s:Shared} {a:Addr} {y d:V} {u r:Value} {o:Option V} {A:Around} {E:Value→Shared→Prop}
theorem ZpJ{Q:Value→Shared→Prop}(hu:A.units+1<cLine)(I:Inv X pins σ H s)(g:ZbL H a y o)(ry:ZD y u)(h:∀w' s',Inv X pins σ H s'→ZD (o.getD .non) w'→Q w' s') :
  wpAny (model X.prog X.w) A (call (.builtin "dict.get") [.ref a,u]) Q E s:=by
 rcases g with⟨kvs,k,e,ey,l⟩|⟨kvs,k,b,e,ey,eb,l⟩
 ·subst ey
  obtain⟨z,hd,vs,rel,dd⟩:=Zgu I.hok e
  refine call_meetsIn PySem.F.slot_dict_get dd.typeIs PySem.F.entry_dict_get (PySem.F.args_dict_get_2 _ _) (meets_dict_get (ZK X.prog X.w) a (Zjr ry) hd) ⟨_,dd.mapOf,h _ _ (I.tok _) ?_⟩
  rw[l]
  exact(rel.val k).getD rfl
 ·subst ey
  cases (show u=Value.ref b from ry)
  obtain⟨z,hd,xs,rel,dd⟩:=Zh7 I.hok e
  refine call_meetsIn PySem.F.slot_dict_get dd.typeIs PySem.F.entry_dict_get (PySem.F.args_dict_get_2 _ _) (meetsH_dict_get (tupleKind (ZK X.prog X.w)) a b hd) ⟨tupleKind_room_in1 hu,k,xs,Zhh I.hok eb,dd,h _ _ (I.tok _) ?_⟩
  rw[l]
  exact(rel.val k).getD rfl
end
def ZmX(td ty:TE):TE:=fun σ H Q=>td σ H fun x H1=>∃a,x=.ref a∧IsD H1 a∧ty σ H1 fun y H2=>∃o,ZbL H2 a y o∧Q (o.getD .non) H2
def Zrv(td ty tx:TE):TE:=fun σ H Q=>td σ H fun x H1=>∃a,x=.ref a∧IsD H1 a∧ty σ H1 fun y H2=>tx σ H2 fun z H3=>∃o,ZbL H3 a y o∧Q (o.getD z) H3
def ZrV(td ty:TE):TE:=fun σ H Q=>td σ H fun x H1=>∃a,x=.ref a∧IsD H1 a∧ty σ H1 fun y H2=>∃kvs k v,H2 a=some (.dK kvs)∧y=kV k∧Zbq kvs k=some v∧Q v (upd H2 a (.dK (ZjT kvs k)))
def ZrQ(td ty tx:TE):TE:=fun σ H Q=>td σ H fun x H1=>∃a,x=.ref a∧IsD H1 a∧ty σ H1 fun y H2=>tx σ H2 fun z H3=>∃kvs k,H3 a=some (.dK kvs)∧y=kV k ∧
 (∀v,Zbq kvs k=some v→Q v (upd H3 a (.dK (ZjT kvs k))))∧(Zbq kvs k=none→Q z H3)
section
variable {X:Cx} {o e f:Expr} {apos cpos:Pos} {td ty tx:TE}
theorem ZlQ(hu:X.A.units+1<cLine)(ho:PE X o td)(he:PE X e ty)(m:M1 X o "get" apos e cpos):PE X (.Call (.Attribute o "get" apos) [e] [] cpos) (ZmX td ty):=by
 intro pins s σ H Q I h
 refine wpAny_Call_method m.base m.few m.line PySem.F.plainAttrs_dict PySem.F.slot_dict_get PySem.F.type_dict_get (thn (ho pins s σ H _ I h) ?_)
 rintro u s1 ⟨x,H1,I1,rx,a,ex,d,q1⟩
 subst ex
 obtain rfl:u=Value.ref a:=rx
 obtain⟨t1,t2,_⟩:=Zpu I1 d
 refine⟨t1,t2,?_⟩
 rw[m.trees]
 refine Calls.callWith_builtin rfl (Calls.evalArgs_plain (Calls.spliced_cons (thn (he pins s1 σ H1 _ I1 q1) fun iv s2 ⟨y,H2,I2,ry,ov,g,q2⟩=>Calls.spliced_nil ?_)))
 exact ZpJ hu I2 g ry fun w' s3 I3 rw'=>⟨_,H2,I3,rw',q2⟩
end
section
variable {X:Cx} {pins:List (Addr×Obj)} {σ:St} {H:Hp} {s:Shared} {a:Addr} {kvs:List (Key×V)} {A:Around} {E:Value→Shared→Prop}
end
section
variable {X:Cx} {pins:List (Addr×Obj)} {σ:St} {H:Hp} {s:Shared} {a:Addr} {y:V} {u:Value} {A:Around} {E:Value→Shared→Prop}
end
section
variable {X:Cx}
theorem Zkv:Za2 X (.builtin "len") (fun xs H Q=>∃a kvs,xs=[V.ref a]∧H a=some (.dK kvs)∧Q (.int kvs.length) H):=by
 intro pins s σ H xs us Q I r h
 obtain⟨a,kvs,rfl,ha,q⟩:=h
 obtain⟨u,rfl,ru⟩:=ZdA r
 cases ru
 exact Zqf I (.inl ha) fun t s' I'=>⟨.int kvs.length,H,I',⟨t,rfl⟩,q⟩
end
section
variable {κ:Type} [DecidableEq κ]
end
structure Mf (P:Program) (w:World) (K:PySem.W.Frag) (mg:Str→Option Value) (base:Heap) (k:Nat) (C:Addr) (m:Str) (ps:List Str) (sp:Sp):Prop where
 ex:∃f fd,ZdT P w K mg base CX0 k f fd ps sp∧Zmv K C m f∧Zb6 K fd ps []
structure Cf (P:Program) (w:World) (K:PySem.W.Frag) (mg:Str→Option Value) (base:Heap) (k:Nat) (C:Addr) (x:Str) (ps:List Str) (sp:Sp):Prop where
 ex:∃f fd,ZdT P w K mg base CX0 k f fd ps sp∧Mk K C f∧Zb6 K fd ps []∧mg x=some (.ref C)
structure ZeO (K:PySem.W.Frag) (C:Addr) (m qual:Str) (st:Stmt) (ps:List Str):Prop where
 ex:∃f fd,Fun K m qual st f fd∧Zmv K C m f∧Zb6 K fd ps []
structure ZnF (K:PySem.W.Frag) (mg:Str→Option Value) (C:Addr) (x qual:Str) (st:Stmt) (ps:List Str):Prop where
 ex:∃f fd,Fun K "__init__" qual st f fd∧Mk K C f∧Zb6 K fd ps []∧mg x=some (.ref C)
section
variable {P:Program} {w:World} {K:PySem.W.Frag} {mg:Str→Option Value} {base:Heap}
theorem ZeO.mf{C:Addr}{m qual:Str}{st:Stmt}{N ps:List Str}{k:Nat}{sp:Sp}(T:ZeO K C m qual st ps)(S:Zr N ps (Zg st))(len:∀vs H Q E,sp vs H Q E→vs.length=ps.length)
  (hbody:∀ (cdv:Value) (f:Addr) (A:Around) (outer:List Env) (s:Shared) (H:Hp) (vs:List V) (Q:VK) (E:XK),ZaG k (A.deeper (envOfC qual (Zg st) s.heap.objs.size f cdv))→sp vs H Q E →
   ∃t,PSs (Zhc CX0 P w K mg base N qual (Zg st) f cdv A outer s H E).nox (Zm st) t∧t { nx:=fun _ H'=>Q .non H',rt:=Q } (Zda N vs) H):Mf P w K mg base (k+1) C m ps sp:=by
 obtain⟨f,fd,F,m,b⟩:=T.ex
 exact⟨f,fd,F.ok S len (fun cdv A outer s H vs Q E hr h=>hbody cdv f A outer s H vs Q E hr h),m,b⟩
theorem ZnF.cf{C:Addr}{x qual:Str}{st:Stmt}{N ps:List Str}{k:Nat}{sp:Sp}(T:ZnF K mg C x qual st ps)(S:Zr N ps (Zg st))(len:∀vs H Q E,sp vs H Q E→vs.length=ps.length)
  (hbody:∀ (cdv:Value) (f:Addr) (A:Around) (outer:List Env) (s:Shared) (H:Hp) (vs:List V) (Q:VK) (E:XK),ZaG k (A.deeper (envOfC qual (Zg st) s.heap.objs.size f cdv))→sp vs H Q E →
   ∃t,PSs (Zhc CX0 P w K mg base N qual (Zg st) f cdv A outer s H E).nox (Zm st) t∧t { nx:=fun _ H'=>Q .non H',rt:=Q } (Zda N vs) H):Cf P w K mg base (k+1) C x ps sp:=by
 obtain⟨f,fd,F,m,b,g⟩:=T.ex
 exact⟨f,fd,F.ok S len (fun cdv A outer s H vs Q E hr h=>hbody cdv f A outer s H vs Q E hr h),m,b,g⟩
end
section
variable {X:Cx} {k j:Nat} {C:Addr} {m x:Str} {ps:List Str} {sp:Sp} {o e:Expr} {es:List Expr} {ta:TE} {t:TA} {p apos pos:Pos} {pl:Sem Bool}
theorem Ze0(F:Mf X.prog X.w X.K X.mg X.base k C m ps sp)(c:Cls X.K C)(hr:ZaG j X.A)(he:PE X o ta)(ha:PA X (e::es) t)(hjk:k≤j:=by decide)
  (hst:starEach (e::es) X.env=(false,eval e X.env)::starEach es X.env:=by rfl) (hpl:(backTo pos (starEach es X.env)).any (·.1)=false:=by rfl)
  (ht:eval (.Call (.Attribute o m apos) (e::es) [] pos) X.env=(do
   let ov ← eval o X.env
   standAt apos.atName
   let (f,first) ← holding [ov] (getMethod ov m pl)
   callWith pos f first (backTo pos (starEach (e::es) X.env)) (backToKw pos (keywordEach [] X.env))):=by rfl) :
  PE X (.Call (.Attribute o m apos) (e::es) [] pos) (ZjA C m sp [] E0 ta t):=by
 obtain⟨f,fd,F,g,b⟩:=F.ex
 exact Zot he c g F (hr.mono hjk) b .nil Zj3 ha hst hpl ht
theorem ZcM(F:Mf X.prog X.w X.K X.mg X.base k C m ps sp)(c:Cls X.K C)(hr:ZaG j X.A)(he:PE X o ta)(hjk:k≤j:=by decide)
  (ht:eval (.Call (.Attribute o m apos) [] [] pos) X.env=(do
   let ov ← eval o X.env
   standAt apos.atName
   let (f,first) ← holding [ov] (getMethod ov m pl)
   callWith pos f first (backTo pos (starEach [] X.env)) (backToKw pos (keywordEach [] X.env))):=by rfl) :
  PE X (.Call (.Attribute o m apos) [] [] pos) (ZjA C m sp [] E0 ta Zo5):=by
 obtain⟨f,fd,F,g,b⟩:=F.ex
 exact Zna he c g F (hr.mono hjk) b .nil Zj3 ht
theorem ZoE(F:Cf X.prog X.w X.K X.mg X.base k C x ps sp)(hr:ZaG j X.A)(ha:PA X (e::es) t)(hjk:k+1≤j:=by decide)(hg:Gl X x:=by rfl)(hdb:(x == ("__debug__" : Str))=false:=by decide)
  (he:starEach (e::es) X.env=(false,eval e X.env)::starEach es X.env:=by rfl) (hpl:(backTo pos (starEach es X.env)).any (·.1)=false:=by rfl) :
  PE X (.Call (.Name x p) (e::es) [] pos) (ZoI C sp [] E0 t):=by
 obtain⟨f,fd,F,g,b,gm⟩:=F.ex
 exact Zof g F (hr.mono hjk) hg gm b .nil Zj3 ha hdb he hpl
end
section
variable {X:Cx} {pins:List (Addr×Obj)} {σ:St} {H:Hp} {s:Shared} {d:Addr} {o:Obj} {u:HO}
end
def tThaw(t:TE):TE:=fun σ H Q=>∃d u,H d=some u∧Mut (some u)∧t σ H fun v H'=>∃o,H' d=some (.frz o u)∧Q v (upd H' d u)
theorem Zn2{P:Program}{w:World}{k:Key}{v:Value}(h:(ZK P w).is k v=true):ZD (kV k) v:=by
 rw[Zi6]at h
 rcases Zah h with⟨i,t,rfl,rfl⟩|⟨x,t,rfl,rfl⟩
 ·exact⟨t,rfl⟩
 ·exact⟨t,rfl⟩
def ZmK:List V→Hp→VK→Prop:=fun xs H Q=>∃d kvs,xs=[.ref d]∧H d=some (.dK kvs)∧∀l,H l=none→Q (.ref l) (upd H l (.lst (kvs.map fun kv=>kV kv.1)))
theorem Zkd{P:Program}{w:World}:∀ (kvs:List (Key×V)) (vs:List (Key×Value)) (us:List Value),KV kvs vs→us.length=vs.length→(∀ (j:Nat) (v:Value),us[j]? = some v→∃k x,vs[j]? = some (k,x)∧(ZK P w).is k v=true)→Zy (kvs.map fun kv=>kV kv.1) us:=by
 intro kvs vs us r
 unfold KV at r
 induction r generalizing us with
 | nil =>
  intro hl _
  cases us with
  | nil=>exact .nil
  | cons a b=>simp at hl
 | @cons p q ps qs h t ih =>
  intro hl hp
  cases us with
  | nil=>simp at hl
  | cons a b =>
   obtain⟨k,x,e,hk⟩:=hp 0 a rfl
   have e':q=(k,x):=by simpa using e
   rw[Qn]
   refine .cons ?_ (ih b (by simpa using hl) fun j v hv=>?_)
   ·rw[h.1,e'];exact Zn2 hk
   ·simpa using hp (j+1) v (by simpa using hv)
theorem Zix{X:Cx}(hc:X.calm=true):Za2 X (.type "list") ZmK:=by
 intro pins s σ H xs us Q I r h
 obtain⟨d,kvs,rfl,hd,q⟩:=h
 obtain⟨u,rfl,ru⟩:=ZdA r
 cases ru
 obtain⟨z,lo,vs,rel,dd⟩:=(show Zap X.prog X.w H s.heap d (.dK kvs) from I.hok d _ hd)
 obtain⟨ep,da⟩:=dd.dictAt
 have hl:kvs.length=vs.length:=rel.length
 refine PySem.W.kdl_call (PySem.W.kdl_dict lo) (I.ok.hd hc) da (by omega) fun h' tk acc c hk hD hacc=>?_
 have hv:Zy (kvs.map fun kv=>kV kv.1) acc.toList:=Zkd (P:=X.prog) (w:=X.w) kvs vs acc.toList rel (by rw[Array.length_toList];exact hacc.1) fun j v e=>hacc.2 j v (by rw[← Array.getElem?_toList];exact e)
 refine⟨.ref s.heap.objs.size,_,I.laid (a:=s.heap.objs.size) (o:=.lst (kvs.map fun kv=>kV kv.1)) (t':=tk) hk (Qh _) ?_,rfl,q _ (I.hok.fresh (Qh _))⟩
 exact⟨by rw[Qa];exact z,acc.toList,c,hv,by simpa using hD⟩
def Itv(d:Addr)(o:Obj)(kvs:List (Key×V)):It :=
 ⟨fun i H=>H d=some (.frz o (.dK kvs))∧i<kvs.length,fun i H v H'=>H'=H∧∃k,kvs[i]? = some (k,v),fun i H=>H d=some (.frz o (.dK kvs))∧kvs.length≤i⟩
def Itk(d:Addr)(o:Obj)(kvs:List (Key×V)):It :=
 ⟨fun i H=>H d=some (.frz o (.dK kvs))∧i<kvs.length,fun i H v H'=>H'=H∧∃k x,kvs[i]? = some (k,x)∧v=kV k,fun i H=>H d=some (.frz o (.dK kvs))∧kvs.length≤i⟩
def iKeys(tl:TE):TI:=fun σ H R=>tl σ H fun x H1=>∃d kvs,x=.ref d∧H1 d=some (.dK kvs)∧∀o,R (Itk d o kvs) (upd H1 d (.frz o (.dK kvs)))
def rSortedD:List V→Hp→VK→Prop:=fun xs H Q=>∃d kvs ns,xs=[.ref d]∧H d=some (.dK kvs)∧kvs.map (·.1)=ns.map Sum.inl∧ns.length<64 ∧
 ∀ (l:Addr) (ns':List Int),H l=none→ns'.Perm ns→ns'.Pairwise (·≤·)→Q (.ref l) (upd H l (.lst (ns'.map V.int)))
def rSumL(K:PySem.W.Frag):List V→Hp→VK→Prop:=fun vs H Q=>∃ (p:Addr) (ns:List Int),vs=[.ref p]∧SqL K H p (ns.map V.int)∧ns.length≤1000∧(∀n∈ns,0≤n∧n≤1000000)∧Q (.int ns.sum) H
def iVals(tl:TE):TI:=fun σ H R=>tl σ H fun x H1=>∃d kvs,x=.ref d∧H1 d=some (.dK kvs)∧∀o,R (Itv d o kvs) (upd H1 d (.frz o (.dK kvs)))
def Iti(d:Addr)(o:Obj)(kvs:List (Key×V)):It :=
 ⟨fun i H=>H d=some (.frz o (.dK kvs))∧i<kvs.length,
  fun i H v H'=>∃p k x,H p=none∧v=.ref p∧kvs[i]? = some (k,x)∧H'=upd H p (.tup [kV k,x]),
  fun i H=>H d=some (.frz o (.dK kvs))∧kvs.length≤i⟩
def iItems(tl:TE):TI:=fun σ H R=>tl σ H fun x H1=>∃d kvs,x=.ref d∧H1 d=some (.dK kvs)∧∀o,R (Iti d o kvs) (upd H1 d (.frz o (.dK kvs)))
def Zny(J:It)(D:Addr)(k:Nat)(σ:St)(H1:Hp)(g:TG)(tc:TT)(tk te:TE)(Q:VK):Prop :=
 ∃W:Nat→Nat→List (Key×V)→St→Hp→Prop,(∃m,W 0 m [] (σ++List.replicate k none) (upd H1 D (.dK []))) ∧
  ∀i m ys σ2 H2,W i m ys σ2 H2→(J.stop i H2∧Q (.ref D) H2) ∨
   (J.go i H2∧∃N:List (Key×V)→St→Hp→Prop,(∀ys' σ' H',N ys' σ' H'→∃m',m'<m∧W (i+1) m' ys' σ' H')∧∀x H3,J.yld i H2 x H3→g x σ2 H3 fun σ4 H4=>tc σ4 H4 fun b H5 =>
    if b=true then tk σ4 H5 fun kv H6=>te σ4 H6 fun y H7=>∃k:Key,kv=kV k∧H7 D=some (.dK ys)∧ys.length<sizeLine∧N (ZcU ys k y) σ4 (upd H7 D (.dK (ZcU ys k y))) else N ys σ4 H5)
def tKComp(n:Nat)(wi:TI)(g:TG)(tc:TT)(tk te:TE):TE:=fun σ H Q=>wi σ H fun J H1=>∀D,H1 D=none→Zny J D n σ H1 g tc tk te Q
section
variable {X:Cx} {N N':List Str} {o c:Scope}
end
section
variable {X:Cx}
def rIxK:R2:=fun x y H Q=>∃d kvs k v,x=.ref d∧y=kV k∧H d=some (.dK kvs)∧Zbq kvs k=some v∧Q v H
end
section
variable {prog:Program} {w:World} {A:Around} {R:Result→Shared→Prop} {I:Addr} {fp wr:List Addr} {G:Array GenState→Array GenState→Prop} {n:Nat} {P:Nat→Value→Prop} {St:Nat→Shared→Prop} {K:Type} [DecidableEq K] {knd:KeyKind prog w K}
end
section
variable {prog:Program} {w:World} {A:Around} {E:Value→Shared→Prop} {s:Shared} {K:Type} [DecidableEq K] {knd:KeyKind prog w K}
end
def rDictP(K:PySem.W.Frag):List V→Hp→VK→Prop:=fun xs H Q=>∃ (a:Addr) (ts:List (Addr×Key×V)),xs=[.ref a]∧SqL K H a (ts.map fun t=>V.ref t.1)∧(∀t∈ts,H t.1=some (.tup [kV t.2.1,t.2.2]))∧ts.length≤1000 ∧
 ∀D,H D=none→Q (.ref D) (upd H D (.dK (Zjc [] (ts.map (·.2)))))
def rInG:R2:=fun y x H Q=>∃a o,x=.ref a∧ZbL H a y o∧Q (.bl o.isSome) H
def rNotInG:R2:=fun y x H Q=>∃a o,x=.ref a∧ZbL H a y o∧Q (.bl (!o.isSome)) H
def Zrl:R2:=fun x y H Q=>∃a v,x=.ref a∧ZbL H a y (some v)∧Q v H
section
variable {X:Cx} {k:Nat}
def ZqU:ZkP:=fun o i v H Q=>∃a H',o=.ref a∧ZeN H a i v H'∧Q H'
theorem Zlw(hr:ZaG k X.A):ZmT X ZqU:=by
 intro pins s σ H o i v ov iv u Q I ro ri rv h
 obtain⟨a,H',rfl,g,q⟩:=h
 cases ro
 exact ZkS (Zm7 hr) I g ri rv fun s4 I4=>⟨H',I4,q⟩
theorem Zi9{prog:Program}{w:World}{A:Around}{E:Value→Shared→Prop}{s:Shared}{value slice:Expr}{o i:Value}{T id:String}{Q:Value→Shared→Prop}(hT:s.TypeIs o T)
  (hl:typeLookup (.type T) "__getitem__" = pure (some (.builtin id))) (hs:subscripted slice false o i=operate [o,i] (getItem o i)) (h:wpAny (model prog w) A (getItem o i) Q E s) :
  wpAny (model prog w) A (subscriptTail value slice o i) Q E s:=by
 unfold subscriptTail
 refine wpAny_bind ?_
 rw[getitemInPython_of_ne hT.not_modules]
 refine wpAny_bind (wpAny_specialOf hT hl ?_)
 have fin:wpAny (model prog w) A (subscripted slice false o i) (fun r s₃=>wpAny (model prog w) A (letTemporaryGo value o r >>= fun _=>pure r) Q E s₃) E s:=by
  rw[hs]
  exact wpAny_operating (wpAny_mono h (fun r s₃ h₃=>wpAny_bind (wpAny_letTemporaryGo (wpAny_pure h₃))) fun _ _ x=>x)
 first
  | exact wpAny_pure (wpAny_bind fin)
  | exact wpAny_bind (wpAny_pure (wpAny_bind fin))
  | exact wpAny_bind fin
theorem ixG(hr:ZaG k X.A):IxR X Zrl:=by
 intro value slice pins s σ H x y v u Q I rx ry h hs
 obtain⟨a,z,rfl,g,q⟩:=h
 cases rx
 exact Zi9 (ZhI I g) PySem.F.slot_dict_getitem.lookup hs (Zkk (Zm7 hr) I g ry fun w' s' I' rw'=>⟨z,H,I',rw',q⟩)
def rEqE(neg:Bool):R2:=fun x y H Q=>∃a b kvs,x=.ref a∧y=.ref b∧H a=some (.dK kvs)∧H b=some (.dK [])∧Q (.bl (if neg then !kvs.isEmpty else kvs.isEmpty)) H
theorem ZrA:Za2 X (.builtin "len") (fun xs H Q=>∃a kvs,xs=[V.ref a]∧H a=some (.dK kvs)∧Q (.int kvs.length) H):=Zkv
theorem ZqO(hc:X.calm=true:=by rfl):Za2 X (.type "list") ZmK:=Zix hc
end
mutual
inductive DH (H:Hp):V→PyData→Prop where
 | non:DH H .non .none
 | bl (b:Bool):DH H (.bl b) (.bool b)
 | int (i:Int):DH H (.int i) (.int i)
 | str (s:Str):DH H (.str s) (.str s)
 | lst {a:Addr} {xs:List V} {ds:List PyData}:H a=some (.lst xs)→DHs H xs ds→DH H (.ref a) (.list ds)
 | tup {a:Addr} {xs:List V} {ds:List PyData}:H a=some (.tup xs)→DHs H xs ds→DH H (.ref a) (.tuple ds)
inductive DHs (H:Hp):List V→List PyData→Prop where
 | nil:DHs H [] []
 | cons {x:V} {d:PyData} {xs:List V} {ds:List PyData}:DH H x d→DHs H xs ds→DHs H (x::xs) (d::ds)
end
mutual
theorem DH.mono{H H':Hp}(s:Zu H H'):∀ {x:V} {d:PyData},DH H x d→DH H' x d
 | _,_,.non=>.non
 | _,_,.bl b=>.bl b
 | _,_,.int i=>.int i
 | _,_,.str z=>.str z
 | _,_,.lst h hs=>.lst (s _ _ h) (DHs.mono s hs)
 | _,_,.tup h hs=>.tup (s _ _ h) (DHs.mono s hs)
theorem DHs.mono{H H':Hp}(s:Zu H H'):∀ {xs:List V} {ds:List PyData},DHs H xs ds→DHs H' xs ds
 | _,_,.nil=>.nil
 | _,_,.cons h hs=>.cons (DH.mono s h) (DHs.mono s hs)
end
mutual
theorem DH.dv{K:PySem.W.Frag}{H:Hp}:∀ {x:V} {d:PyData},DH H x d→DV K H x d
 | _,_,.non=>.non
 | _,_,.bl b=>.bl b
 | _,_,.int i=>.int i
 | _,_,.str z=>.str z
 | _,_,.lst h hs=>.lst (SqL.of h) (DHs.dv hs)
 | _,_,.tup h hs=>.tup (SqT.of h) (DHs.dv hs)
theorem DHs.dv{K:PySem.W.Frag}{H:Hp}:∀ {xs:List V} {ds:List PyData},DHs H xs ds→DVs K H xs ds
 | _,_,.nil=>.nil
 | _,_,.cons h hs=>.cons (DH.dv h) (DHs.dv hs)
end
def tyD:PyData→String
 | .none => "NoneType"
 | .bool _ => "bool"
 | .int _ => "int"
 | .str _ => "str"
 | .tuple _ => "tuple"
 | _ => "list"
def isIntD:PyData→Bool
 | .int _=>true
 | _=>false
def isBoolD:PyData→Bool
 | .bool _=>true
 | _=>false
def isLstD:PyData→Bool
 | .list _=>true
 | _=>false
def isTupD:PyData→Bool
 | .tuple _=>true
 | _=>false
def isStrD:PyData→Bool
 | .str _=>true
 | _=>false
section
open PySem.W
end
theorem ZeX:∀ {a b:List Int},a.Nodup→(∀x∈a,x∈b)→b.length≤a.length→a.Perm b
 | [],b,_,_,l=>by
  have:b=[]:=List.length_eq_zero_iff.mp (by simpa using l)
  rw[this]
 | x::r,b,na,h,l=>by
  obtain⟨n1,n2⟩:=QZ.mp na
  have hx:=h x (by simp)
  have hp:=List.perm_cons_erase hx
  refine(List.Perm.cons x (ZeX n2 (fun y hy=>?_) ?_)).trans hp.symm
  ·have nyx:y≠x:=fun e=>n1 (by rw[← e];exact hy)
   exact(Qas nyx).mpr (h y (Qw _ hy))
  ·rw[Q6 hx]
   simp only[List.length_cons]at l
   omega
theorem ZlN{kvs:List (Key×V)}{k:Key}{v:V}(h:Zbq kvs k=some v):(k,v)∈kvs:=by
 unfold Zbq at h
 obtain⟨p,hp,rfl⟩:=QaF.mp h
 have h1:=List.find?_some hp
 have h2:=List.mem_of_find?_eq_some hp
 have:p.1=k:=by simpa using h1
 rw[← this];exact h2
theorem ZhK{kvs:List (Key×V)}(hn:(kvs.map (·.1)).Nodup){k:Key}{v:V}(h:(k,v)∈kvs):Zbq kvs k=some v:=by
 induction kvs with
 | nil=>cases h
 | cons p r ih =>
  obtain⟨n1,n2⟩:=QZ.mp (by simpa using hn:(p.1::r.map (·.1)).Nodup)
  rcases QG.mp h with rfl|h
  ·exact Zds rfl
  ·rw[Zdn fun e=>n1 (e ▸ Qo (f:=(·.1)) h)]
   exact ih n2 h
def tOrK(K:PySem.W.Frag)(ta tb:TE):TE:=fun σ H Q=>ta σ H fun x H1=>∃k,ZrU K x H1 k∧if k=true then Q x H1 else tb σ H1 Q
end L2
namespace L2
open PySem PySem.Spec PyProof.Rows
def off(p:Addr)(H:Hp):Hp:=fun b=>if b=p then none else H b
section
variable {prog:Program} {w:World} {A:Around} {R:Result→Shared→Prop} {I:Addr} {fp wr:List Addr} {G:Array GenState→Array GenState→Prop} {n:Nat} {P:Nat→Value→Prop} {St:Nat→Shared→Prop} {K:Type} [DecidableEq K] {knd:KeyKind prog w K}
end
def rDPop:V→List V→Hp→VK→Prop:=fun x vs H Q=>∃a kvs k v,x=.ref a∧vs=[kV k]∧H a=some (.dK kvs)∧Zbq kvs k=some v∧Q v (upd H a (.dK (ZjT kvs k)))
def rDUpd(K:PySem.W.Frag):V→List V→Hp→VK→Prop:=fun x vs H Q=>∃ (D a:Addr) (kvs:List (Key×V)) (ts:List (Addr×Key×V)),x=.ref D∧vs=[.ref a]∧H D=some (.dK kvs)∧H a=some (.lst (ts.map fun t=>V.ref t.1))∧(∀t∈ts,H t.1=some (.tup [kV t.2.1,t.2.2]))∧ts.length≤1000∧kvs.length≤100000 ∧
 Q .non (upd H D (.dK (Zjc kvs (ts.map (·.2)))))
theorem Zox{X:Cx}{s:Stmt}:PS X s (fun _ _ _=>False):=fun pins s' σ H D I h=>h.elim
def pairsAt(ts:List (Addr×Key×V))(l:Addr)(H:Hp):Hp:=fun b=>if b=l then some (.lst (ts.map fun t=>V.ref t.1)) else
 match ts.find? fun t=>decide (t.1=b) with
 | some t=>some (.tup [kV t.2.1,t.2.2])
 | none=>H b
def tLstItems(to:TE):TE:=fun σ H Q=>to σ H fun x H1=>∃d kvs,x=.ref d∧H1 d=some (.dK kvs) ∧
 ∀ (l:Addr) (ts:List (Addr×Key×V)) (H2:Hp),H1 l=none→ts.map (·.2)=kvs→(∀t∈ts,H1 t.1=none∧H2 t.1=some (.tup [kV t.2.1,t.2.2]))→(∀b o,H1 b=some o→H2 b=some o)→H2 l=some (.lst (ts.map fun t=>V.ref t.1))→Q (.ref l) H2
theorem Zp6{X:Cx}{k:Nat}{o e:Expr}{td ty:TE}{apos cpos:Pos}(hr:ZaG k X.A)(ho:PE X o td)(he:PE X e ty)(hb:attributeBase o "get" X.env (eval o X.env)=eval o X.env:=by rfl)
  (hl:(apos.endLine == cpos.line)=true:=by rfl) (ht:backTo cpos (starEach [e] X.env)=[(false,eval e X.env)]:=by rfl):PE X (.Call (.Attribute o "get" apos) [e] [] cpos) (ZmX td ty):=by
 refine ZlQ (Zm7 hr) ho he ⟨hb,?_,hl,ht⟩
 rw[ht];rfl
section
variable {prog:Program} {w:World} {A:Around} {E:Value→Shared→Prop} {s:Shared} {l:Addr} {xs:Array (Int×Tok)}
end
def rMinQ(K:PySem.W.Frag):List V→Hp→VK→Prop:=fun vs H Q=>∃ (p:Addr) (ns:List Int),vs=[.ref p]∧SqT K H p (ns.map V.int)∧0<ns.length∧∀M,M∈ns→(∀a∈ns,M≤a)→Q (.int M) H
section
variable {X:Cx}
end
section
variable {X:Cx}
end
def tThawS(t:TS):TS:=fun D σ H=>∃d u,H d=some u∧Mut (some u)∧t ⟨fun σ' H'=>∃o,H' d=some (.frz o u)∧D.nx σ' (upd H' d u),fun _ _=>False,fun _ _=>False,fun _ _=>False⟩ σ H
def tCut(t u:TS):TS:=fun D σ H=>∃M:St→Hp→Prop,t { D with nx:=M } σ H∧∀σ' H',M σ' H'→u D σ' H'
end L2
set_option maxHeartbeats 1000000
namespace My
open PySem L2 PyProof.Rows
abbrev Ztl:=@List.tail Stmt
abbrev Zt2(x:List Stmt):=Ztl (Ztl x)
abbrev Zt4(x:List Stmt):=Zt2 (Zt2 x)
abbrev Zt8(x:List Stmt):=Zt4 (Zt4 x)
abbrev Zt16(x:List Stmt):=Zt8 (Zt8 x)
abbrev Zt32(x:List Stmt):=Zt16 (Zt16 x)
local macro_rules|`(‹$i:num›)=>`(@pv _ $i _ _ (by rfl) (Or.inl rfl) (by decide) (by decide))
local macro_rules|`(tactic|trivial)=>`(tactic|first|exact .inl rfl|exact .inr rfl|decide|exact Nat.le_refl _|omega)
local macro_rules
|`(#[Xns,$a,$b,$c])=>`(PySem.W.nsIn $a mainGlobals $b=some (some (.ref $c)))
|`(#[Xfi,$a,$b,$c,$d])=>`(PySem.W.findIn $a (.ref $b) $c=some (some (.ref $d)))
|`(#[Xlk,$z,$a,$b,$c,$d,$e,$f,$g,$h,$i,$j,$k,$l,$m])=>`(($z).lookup $a=some ⟨$b,$c,.func (PySem.W.fnOf $d $e (Zq $f) (Zm $f) (Zg $f) .none $g $h $i $j $k $l),$m⟩)
|`(#[Xci,$a,$b,$c])=>`(PySem.W.codeIn $a $b $c=true)
|`(#[Xki,$a,$b])=>`(PySem.W.keepIn $a (.ref $b)=true)
|`(#[Xif,$a,$b])=>`(PySem.W.isFn $a (.ref $b)=true)
|`(#[Zf,$a,$b])=>`(@Zf _ _ _ _ _ $a $b)
|`(#[Zw,$a,$b,$c,$d])=>`(@Zw _ _ $a _ _ _ _ $b rfl $c $d (by rfl) (by trivial))
|`(#[ZG,$a,$b,$c])=>`(@ZG _ _ _ _ _ _ _ _ $a $b $c)
|`(#[Zh])=>`(@Zh _ _ _ _)
|`(#[Zj,$a])=>`(@Zj _ _ _ $a)
|`(#[Zp,$a])=>`(@Zp _ _ _ _ $a)
|`(#[Zbb,$a,$b,$c])=>`(@Zbb _ _ _ _ _ _ _ _ $a $b $c)
|`(#[Zn,$a,$b,$c,$d])=>`(@Zn _ _ _ _ _ _ _ _ $a $b $c $d)
|`(#[Zk,$a,$b,$c,$d,$e])=>`(@Zk _ _ _ _ _ _ _ _ _ $a $b $c $d $e (by decide) (by decide) (by rfl) (by rfl))
|`(#[Za,$a,$b])=>`(@Za _ _ _ _ _ $a $b (by rfl))
|`(#[Ze])=>`(@Ze _)
|`(#[Zz,$a,$b,$c])=>`(@Zz _ _ _ _ _ _ _ $a $b $c (fun _ _=>rfl))
|`(#[Za9,$a])=>`(@Za9 _ _ _ _ $a)
|`(#[ZbY,$a,$b,$c,$d])=>`(@ZbY _ _ _ _ _ _ _ _ _ $a (by rfl) $b $c $d (by decide) (by decide) (by rfl) (by rfl))
|`(#[ZdI,$a,$b,$c])=>`(@ZdI _ _ _ _ _ _ _ _ $a $b $c (Zt _))
|`(#[ZaT,$a,$b])=>`(@ZaT _ _ _ _ _ _ $a $b (by rfl) (by rfl) (by rfl))
|`(#[Zdl,$a,$b,$c])=>`(@Zdl _ _ _ _ _ _ _ $a $b $c (by intro _;rfl))
|`(#[Zae,$a,$b,$c])=>`(@Zae _ _ _ _ _ _ _ _ $a $b $c)
|`(#[ZF])=>`(@ZF _)
|`(#[ZA,$a,$b,$c,$d])=>`(@ZA _ _ _ _ _ _ _ _ _ _ _ $a $b $c (by trivial) $d (by decide) (by rfl) (by rfl))
|`(#[ZaS])=>`(@ZaS _ _ _ _)
|`(#[ZbU,$a,$b,$c,$d,$e])=>`(@ZbU _ _ _ _ _ _ _ _ _ _ _ _ _ _ $a rfl rfl rfl $b $c $d $e (by intro _;rfl))
|`(#[ZbX,$a,$b])=>`(@ZbX _ _ _ _ _ _ rfl $a $b (by rfl))
|`(#[pv,$a,$b])=>`(@pv _ $a _ _ (by rfl) $b (by decide) (by decide))
|`(#[cg,$a,$b])=>`(@cg _ _ _ _ _ _ _ _ _ _ _ $a $b rfl (by ac_rfl) (by rfl))
|`(#[cv,$a,$b])=>`(@cv _ _ _ _ _ _ _ _ _ _ _ $a $b rfl (by ac_rfl) (by rfl) (by decide) (by decide))
|`(#[Zdq,$a,$b,$c,$d,$e,$f])=>`(@Zdq _ _ _ _ _ _ _ _ _ _ _ _ $a $b $c $d $e $f (by rfl) (by rfl) (by rfl) (by rfl) (by rfl))
|`(#[Zdo,$a,$b])=>`(@Zdo _ _ _ _ _ _ _ $a $b)
|`(#[Zb8,$a,$b,$c,$d])=>`(@Zb8 _ _ _ _ _ _ _ _ $a rfl $b $c $d (by intro _;rfl))
|`(#[gT,$a,$b,$c])=>`(@gT _ $a _ _ _ $b _ $c (by rfl) (by rfl) (by rfl) (by rfl))
|`(#[Zv,$a,$b])=>`(@Zv _ _ _ _ _ $a $b (by rfl))
|`(#[Zx,$a,$b])=>`(@Zx _ _ $a _ $b rfl (Or.inl rfl) (by trivial))
|`(#[ZaU,$a])=>`(@ZaU _ _ _ _ $a (by rfl))
|`(#[ZU,$a])=>`(@ZU _ _ _ _ _ $a)
|`(#[ZdP,$a,$b])=>`(@ZdP _ _ _ _ _ _ _ rfl $a $b (by rfl) (by rfl))
|`(#[ZaA])=>`(@ZaA _ _ _)
|`(#[ZcB,$a,$b,$c,$d])=>`(@ZcB _ _ _ _ _ _ _ _ _ _ $a $b $c $d)
|`(#[Z8,$a])=>`(@Z8 _ _ _ _ _ $a (by rfl))
|`(#[ZcM,$a,$b,$c,$d])=>`(@ZcM _ _ _ _ _ _ _ _ _ _ _ _ $a $b $c $d (by trivial) (by rfl))
|`(#[ZbO,$a,$b])=>`(@ZbO _ _ _ _ _ _ _ _ $a $b (by rfl))
|`(#[Ze0,$a,$b,$c,$d,$e])=>`(@Ze0 _ _ _ _ _ _ _ _ _ _ _ _ _ _ _ $a $b $c $d $e (by trivial) (by rfl) (by rfl) (by rfl))
|`(#[ZoE,$a,$b,$c])=>`(@ZoE _ _ _ _ _ _ _ _ _ _ _ _ $a $b $c (by trivial) (by rfl) (by decide) (by rfl) (by rfl))
|`(#[iL,$a,$b])=>`(@iL _ $a _ _ _ $b (by rfl))
|`(#[cw,$a,$b])=>`(@cw _ _ _ _ _ _ _ _ _ _ _ $a $b rfl (by ac_rfl) (by rfl) (by decide) (by decide))
|`(#[Zj4,$a,$b])=>`(@Zj4 _ _ _ _ $a $b (by rfl) (by decide) (by decide))
|`(#[Zd3,$a,$b,$c,$d,$e,$f,$g])=>`(@Zd3 _ _ _ _ _ $a _ _ _ _ _ _ _ _ _ _ _ _ $b rfl (Or.inl rfl) $c rfl rfl rfl $d $e $f $g (by rfl) (by intro _;rfl) (by trivial))
def hdS:List Stmt→Stmt
 | a::_=>a
 | []=>.Pass ⟨0,0,0,0⟩
abbrev Z1:List Stmt:=PySem.Challenge.pw_mergetree_k49_what_sorts_cost.main.body
abbrev Znc:Stmt:=hdS (Zt16 (Zt4 (Zt2 Z1)))
abbrev Zf8:Stmt:=hdS (Zt16 (Zt4 (Zt2 (Ztl Z1))))
abbrev ZfN:Stmt:=hdS (Zt16 (Zt8 (Zt4 Z1)))
abbrev Z3:Stmt:=hdS (Zt16 (Zt8 (Zt4 (Ztl Z1))))
abbrev ZqI:Stmt:=hdS Z1
abbrev Zbk:Stmt:=hdS (Zt2 Z1)
abbrev Zbj:Stmt:=hdS (Zt4 Z1)
abbrev ZaP:Stmt:=hdS (Zt4 (Ztl Z1))
abbrev Zbf:Stmt:=hdS (Zt4 (Zt2 Z1))
abbrev ZaY:Stmt:=hdS (Zt4 (Zt2 (Ztl Z1)))
abbrev Za6:Stmt:=hdS (Zt8 Z1)
abbrev Zdw:Stmt:=hdS (Zt8 (Zt2 Z1))
abbrev Zde:Stmt:=hdS (Zt8 (Zt2 (Ztl Z1)))
abbrev Zbc:Stmt:=hdS (Zt8 (Zt4 Z1))
abbrev Zba:Stmt:=hdS (Zt8 (Zt4 (Ztl Z1)))
abbrev ZbJ:Stmt:=hdS (Zt8 (Zt4 (Zt2 Z1)))
abbrev Zbt:Stmt:=hdS (Zt16 Z1)
abbrev Zbd:Stmt:=hdS (Zt16 (Ztl Z1))
abbrev Zcz:Stmt:=hdS (Zt16 (Zt2 (Ztl Z1)))
abbrev ZcL:Stmt:=hdS (Zt16 (Zt4 Z1))
abbrev ZaZ:Stmt:=hdS (Zt16 (Zt8 (Ztl Z1)))
abbrev ZcG:Stmt:=hdS (Zt16 (Zt8 (Zt2 Z1)))
abbrev ZaO:Stmt:=hdS (Zt16 (Zt8 (Zt4 (Zt2 Z1))))
abbrev Zbe:Stmt:=hdS (Zt16 (Zt8 (Zt4 (Zt2 (Ztl Z1)))))
abbrev ZbZ:Stmt:=hdS (Zt32 (Ztl Z1))
abbrev Zbh:Stmt:=hdS (Zt32 (Zt2 Z1))
abbrev Zam:Stmt:=hdS (Zt32 (Zt4 Z1))
abbrev Zbs:Stmt:=hdS (Zt32 (Zt4 (Ztl Z1)))
abbrev Zdj:Stmt:=hdS (Zt32 (Zt4 (Zt2 (Ztl Z1))))
abbrev Zcp:Stmt:=hdS (Zt32 (Zt8 Z1))
abbrev ZcE:Stmt:=hdS (Zt32 (Zt8 (Ztl Z1)))
abbrev Zbw:Stmt:=hdS (Zt32 (Zt8 (Zt2 Z1)))
abbrev ZcA:Stmt:=hdS (Zt32 (Zt8 (Zt2 (Ztl Z1))))
abbrev ZbG:Stmt:=hdS (Zt32 (Zt8 (Zt4 Z1)))
abbrev Zco:Stmt:=hdS (Zt32 (Zt8 (Zt4 (Ztl Z1))))
abbrev Za1:Stmt:=hdS (Zt32 (Zt8 (Zt4 (Zt2 Z1))))
abbrev ZaN:Stmt:=hdS (Zt32 (Zt8 (Zt4 (Zt2 (Ztl Z1)))))
abbrev Zcm:Stmt:=hdS (Zt32 (Zt16 Z1))
abbrev ZiL:Stmt:=ZS Zf8 0
abbrev Za0:Stmt:=ZS ZfN 0
abbrev Znb:Stmt:=ZS ZfN 1
abbrev ZaK:Stmt:=ZS ZfN 2
abbrev ZaV:Stmt:=ZS ZfN 3
abbrev Zk7:Stmt:=ZS ZfN 4
abbrev Zau:Stmt:=ZS Z3 0
abbrev Zab:Stmt:=ZS Z3 1
abbrev Zat:Stmt:=ZS Z3 2
abbrev ZV:Stmt:=ZS Z3 3
abbrev Znf:Stmt:=ZS Z3 4
abbrev ZlX:Stmt:=ZS Z3 5
abbrev ZiJ:Stmt:=ZS Z3 6
abbrev ZaE:Stmt:=ZS Z3 7
abbrev Zng:Stmt:=ZS Z3 8
abbrev ZkH:Stmt:=ZS Z3 9
abbrev ZjZ:Stmt:=ZS Z3 10
abbrev Zne:Stmt:=ZS Z3 11
abbrev Zk8:Stmt:=ZS Z3 12
abbrev ZZ:Stmt:=ZS Z3 13
abbrev Zax:Stmt:=ZS Z3 14
abbrev ZW:Stmt:=ZS Z3 15
abbrev ZN:Stmt:=ZS Z3 16
abbrev Zas:Stmt:=ZS Z3 17
theorem ZhY:Zr ["_law_cell", "_law_k", "_law_m"] ["_law_cell", "_law_k"] (Zg Zdj):=⟨rfl,rfl,rfl,by ac_rfl,rfl,by ac_rfl,by ac_rfl⟩
theorem ZgG:Zr ["_law_script", "_law_k", "_law_cell"] ["_law_script", "_law_k"] (Zg Zcp):=⟨rfl,rfl,rfl,by ac_rfl,rfl,by ac_rfl,by ac_rfl⟩
theorem Zgh:Zr ["_law_left_here", "_law_many", "_law_digit"] ["_law_left_here", "_law_many"] (Zg ZcE):=⟨rfl,rfl,rfl,by ac_rfl,rfl,by ac_rfl,by ac_rfl⟩
theorem Zfh:Zr ["_law_left_here", "_law_some"] ["_law_left_here"] (Zg Zbw):=⟨rfl,rfl,rfl,by ac_rfl,rfl,by ac_rfl,by ac_rfl⟩
theorem Zic:Zr ["_law_left_here", "_law_stems_here", "_law_tail"] ["_law_left_here", "_law_stems_here"] (Zg ZcA):=⟨rfl,rfl,rfl,by ac_rfl,rfl,by ac_rfl,by ac_rfl⟩
theorem Zck:Zr ["one", "other", "far", "at"] ["one", "other", "far"] (Zg Zba):=⟨rfl,rfl,rfl,by ac_rfl,rfl,by ac_rfl,by ac_rfl⟩
theorem ZmP:Zr ["one", "other"] ["one", "other"] (Zg Zdw):=⟨rfl,rfl,rfl,by ac_rfl,rfl,by ac_rfl,by ac_rfl⟩
theorem ZdN:Zr ["row", "told", "place", "key"] ["row"] (Zg ZcG):=⟨rfl,rfl,rfl,by ac_rfl,rfl,by ac_rfl,by ac_rfl⟩
theorem Zil:Zr ["one", "other", "at"] ["one", "other", "at"] (Zg ZbJ):=⟨rfl,rfl,rfl,by ac_rfl,rfl,by ac_rfl,by ac_rfl⟩
theorem ZlJ:Zr ["one", "other"] ["one", "other"] (Zg Zde):=⟨rfl,rfl,rfl,by ac_rfl,rfl,by ac_rfl,by ac_rfl⟩
theorem ZdV:Zr ["one", "other", "far", "at"] ["one", "other", "far"] (Zg Zbc):=⟨rfl,rfl,rfl,by ac_rfl,rfl,by ac_rfl,by ac_rfl⟩
theorem Zdh:Zr ["keys", "place"] ["keys"] (Zg ZaZ):=⟨rfl,rfl,rfl,by ac_rfl,rfl,by ac_rfl,by ac_rfl⟩
theorem Zgn:Zr ["numbers", "middle"] ["numbers"] (Zg Zcz):=⟨rfl,rfl,rfl,by ac_rfl,rfl,by ac_rfl,by ac_rfl⟩
theorem Zg8:Zr ["self"] ["self"] (Zg ZaK):=⟨rfl,rfl,rfl,by ac_rfl,rfl,by ac_rfl,by ac_rfl⟩
theorem Zh1:Zr ["self"] ["self"] (Zg ZaV):=⟨rfl,rfl,rfl,by ac_rfl,rfl,by ac_rfl,by ac_rfl⟩
theorem Zhx:Zr ["self", "keys"] ["self", "keys"] (Zg Za0):=⟨rfl,rfl,rfl,by ac_rfl,rfl,by ac_rfl,by ac_rfl⟩
theorem Zch:Zr ["self", "rows", "number", "keys"] ["self", "rows"] (Zg Zau):=⟨rfl,rfl,rfl,by ac_rfl,rfl,by ac_rfl,by ac_rfl⟩
theorem Zc6:Zr ["self", "row"] ["self"] (Zg Zab):=⟨rfl,rfl,rfl,by ac_rfl,rfl,by ac_rfl,by ac_rfl⟩
theorem Zet:Zr ["self"] ["self"] (Zg ZZ):=⟨rfl,rfl,rfl,by ac_rfl,rfl,by ac_rfl,by ac_rfl⟩
theorem Z7:Zr ["self", "numbers", "first_side", "other_side", "one", "other", "winner", "loser", "far"] ["self", "numbers"] (Zg Zax):=⟨rfl,rfl,rfl,by ac_rfl,rfl,by ac_rfl,by ac_rfl⟩
theorem ZbB:Zr ["self", "one", "other", "far", "order", "alike_far", "seen"] ["self", "one", "other", "far"] (Zg Zas):=⟨rfl,rfl,rfl,by ac_rfl,rfl,by ac_rfl,by ac_rfl⟩
theorem Zc7:Zr ["number", "keys", "place"] ["number", "keys"] (Zg ZaO):=⟨rfl,rfl,rfl,by ac_rfl,rfl,by ac_rfl,by ac_rfl⟩
theorem ZdW:Zr ["self", "thing"] ["self"] (Zg Zat):=⟨rfl,rfl,rfl,by ac_rfl,rfl,by ac_rfl,by ac_rfl⟩
theorem Zce:Zr ["self", "many", "things"] ["self", "many"] (Zg ZV):=⟨rfl,rfl,rfl,by ac_rfl,rfl,by ac_rfl,by ac_rfl⟩
theorem Zan:Zr ["self", "number", "row", "comer", "meeting"] ["self", "number"] (Zg ZW):=⟨rfl,rfl,rfl,by ac_rfl,rfl,by ac_rfl,by ac_rfl⟩
theorem Zaf:Zr ["self", "meeting", "comer", "stayer", "winner", "loser", "far"] ["self", "meeting", "comer"] (Zg ZN):=⟨rfl,rfl,rfl,by ac_rfl,rfl,by ac_rfl,by ac_rfl⟩
theorem Zav:Zr ["numbers", "n", "matches", "least", "greatest", "others"] ["numbers", "n"] (Zg Zbe):=⟨rfl,rfl,rfl,by ac_rfl,rfl,by ac_rfl,by ac_rfl⟩
theorem Zbx:Zr ["numbers", "n", "others", "side", "first", "rest"] ["numbers", "n"] (Zg ZcL):=⟨rfl,rfl,rfl,by ac_rfl,rfl,by ac_rfl,by ac_rfl⟩
theorem ZhF:Zr ["rows"] ["rows"] (Zg Zbh):=⟨rfl,rfl,rfl,by ac_rfl,rfl,by ac_rfl,by ac_rfl⟩
theorem Zkb:Zr ["rows"] ["rows"] (Zg ZbZ):=⟨rfl,rfl,rfl,by ac_rfl,rfl,by ac_rfl,by ac_rfl⟩
theorem Zar:Zr ["_law_left_here", "_law_stems_here", "_law_many", "_law_found", "_law_k", "_law_key_here", "_law_way", "_law_cut"] ["_law_left_here"] (Zg ZbG):=⟨rfl,rfl,rfl,by ac_rfl,rfl,by ac_rfl,by ac_rfl⟩
theorem ZkV:Zr ["_law_left_here"] ["_law_left_here"] (Zg Zco):=⟨rfl,rfl,rfl,by ac_rfl,rfl,by ac_rfl,by ac_rfl⟩
theorem Zhf:Zr ["thing"] ["thing"] (Zg Zbk):=⟨rfl,rfl,rfl,by ac_rfl,rfl,by ac_rfl,by ac_rfl⟩
theorem ZbS:Zr ["things", "runs", "tree", "parts", "rows"] ["things", "runs", "tree"] (Zg Zam):=⟨rfl,rfl,rfl,by ac_rfl,rfl,by ac_rfl,by ac_rfl⟩
theorem Zf3:Zr ["run", "key", "comer"] ["run", "key", "comer"] (Zg Zbd):=⟨rfl,rfl,rfl,by ac_rfl,rfl,by ac_rfl,by ac_rfl⟩
theorem ZaJ:Zr ["things", "room", "inside", "next_in", "runs", "goer", "run", "key", "number"] ["things", "room"] (Zg Zbt):=⟨rfl,rfl,rfl,by ac_rfl,rfl,by ac_rfl,by ac_rfl⟩
theorem Zc4:Zr ["groves", "begin", "end", "most", "price", "middle"] ["groves", "begin", "end", "most"] (Zg Za6):=⟨rfl,rfl,rfl,by ac_rfl,rfl,by ac_rfl,by ac_rfl⟩
theorem Zdb:Zr ["groves", "alone", "begin", "end", "most", "cut"] ["groves", "alone", "begin", "end", "most"] (Zg ZaY):=⟨rfl,rfl,rfl,by ac_rfl,rfl,by ac_rfl,by ac_rfl⟩
theorem Zci:Zr ["groves", "sizes", "ways", "begin", "end", "price", "parts"] ["groves", "sizes", "ways", "begin", "end"] (Zg Zbf):=⟨rfl,rfl,rfl,by ac_rfl,rfl,by ac_rfl,by ac_rfl⟩
theorem Zac:Zr ["sizes", "ways", "groves", "many", "begin", "end", "alone", "most"] ["sizes", "ways"] (Zg ZaP):=⟨rfl,rfl,rfl,by ac_rfl,rfl,by ac_rfl,by ac_rfl⟩
theorem ZcQ:Zr ["sizes", "ways", "price", "trees"] ["sizes", "ways"] (Zg Zbj):=⟨rfl,rfl,rfl,by ac_rfl,rfl,by ac_rfl,by ac_rfl⟩
theorem ZcY:Zr ["things", "room", "ways", "runs", "cost", "tree"] ["things", "room", "ways"] (Zg Zbs):=⟨rfl,rfl,rfl,by ac_rfl,rfl,by ac_rfl,by ac_rfl⟩
theorem ZfH:Zr ["_law_thing"] ["_law_thing"] (Zg Za1):=⟨rfl,rfl,rfl,by ac_rfl,rfl,by ac_rfl,by ac_rfl⟩
theorem ZbP:Zr ["_law_things_here", "_law_room_here", "_law_ways", "_law_cost", "_law_many"] ["_law_things_here", "_law_room_here", "_law_ways"] (Zg ZaN):=⟨rfl,rfl,rfl,by ac_rfl,rfl,by ac_rfl,by ac_rfl⟩
theorem Zbo:Zr ["_law_script", "_law_ahead", "_law_k", "_law_left_here", "_law_things_here", "_law_room_here", "_law_ways", "_law_stem", "_law_told", "_law_longer", "_law_some", "_law_places", "_law_parts", "_law_due"] ["_law_script"] (Zg Zcm):=⟨rfl,rfl,rfl,by ac_rfl,rfl,by ac_rfl,by ac_rfl⟩
def Znq:Scope:={ kind:=.function,names:=[(Str.ofString ".0",.«local»),(Str.ofString "_law_k",.«local»),(Str.ofString "_law_pick",.globalImplicit),(Str.ofString "_law_left_here",.free),(Str.ofString "_law_some",.free)],isGenerator:=false,isCoroutine:=false,more:=[] }
theorem Zmz:Z9 ["_law_left_here", "_law_some"] ["_law_left_here", "_law_some", "_law_k"] (Zg Zbw) Znq:=⟨rfl,rfl,by ac_rfl,by ac_rfl,by ac_rfl,by decide,by ac_rfl,by ac_rfl⟩
def Zqg:Scope:={ kind:=.function,names:=[(Str.ofString ".0",.«local»),(Str.ofString "_law_k",.«local»),(Str.ofString "_law_pick",.globalImplicit),(Str.ofString "_law_left_here",.cell),(Str.ofString "_law_some",.cell)],isGenerator:=false,isCoroutine:=false,more:=[] }
def Zn3:Scope:={ kind:=.function,names:=[(Str.ofString ".0",.«local»),(Str.ofString "_law_k",.«local»),(Str.ofString "_law_pick",.globalImplicit),(Str.ofString "_law_left_here",.free)],isGenerator:=false,isCoroutine:=false,more:=[] }
theorem Zni:Z9 ["_law_left_here", "_law_stems_here", "_law_tail"] ["_law_left_here", "_law_stems_here", "_law_tail", "_law_k"] (Zg ZcA) Zn3:=⟨rfl,rfl,by ac_rfl,by ac_rfl,by ac_rfl,by decide,by ac_rfl,by ac_rfl⟩
def ZqE:Scope:={ kind:=.function,names:=[(Str.ofString ".0",.«local»),(Str.ofString "_law_k",.«local»),(Str.ofString "_law_pick",.globalImplicit),(Str.ofString "_law_left_here",.cell)],isGenerator:=false,isCoroutine:=false,more:=[] }
def Znn:Scope:={ kind:=.function,names:=[(Str.ofString ".0",.«local»),(Str.ofString "row",.«local»),(Str.ofString "len",.globalImplicit)],isGenerator:=false,isCoroutine:=false,more:=[] }
theorem ZnJ:Z9 ["rows"] ["rows", "row"] (Zg Zbh) Znn:=⟨rfl,rfl,by ac_rfl,by ac_rfl,by ac_rfl,by decide,by ac_rfl,by ac_rfl⟩
def Zqn:Scope:={ kind:=.function,names:=[(Str.ofString ".0",.«local»),(Str.ofString "row",.«local»),(Str.ofString "len",.globalImplicit)],isGenerator:=false,isCoroutine:=false,more:=[] }
def ZnU:Scope:={ kind:=.function,names:=[(Str.ofString ".0",.«local»),(Str.ofString "row",.«local»),(Str.ofString "place",.«local»),(Str.ofString "key",.«local»)],isGenerator:=false,isCoroutine:=false,more:=[] }
theorem ZkE:Z9 ["rows"] ["rows", "row", "place", "key"] (Zg ZbZ) ZnU:=⟨rfl,rfl,by ac_rfl,by ac_rfl,by ac_rfl,by decide,by ac_rfl,by ac_rfl⟩
def ZqX:Scope:={ kind:=.function,names:=[(Str.ofString ".0",.«local»),(Str.ofString "row",.«local»),(Str.ofString "place",.«local»),(Str.ofString "key",.«local»)],isGenerator:=false,isCoroutine:=false,more:=[] }
def Znh:Scope:={ kind:=.function,names:=[(Str.ofString ".0",.«local»),(Str.ofString "part",.«local»),(Str.ofString "merged_by",.globalImplicit),(Str.ofString "runs",.free),(Str.ofString "things",.free)],isGenerator:=false,isCoroutine:=false,more:=[] }
theorem Zkm:Z9 ["things", "runs", "tree", "parts", "rows"] ["things", "runs", "tree", "parts", "rows", "part"] (Zg Zam) Znh:=⟨rfl,rfl,by ac_rfl,by ac_rfl,by ac_rfl,by decide,by ac_rfl,by ac_rfl⟩
def Zqc:Scope:={ kind:=.function,names:=[(Str.ofString ".0",.«local»),(Str.ofString "part",.«local»),(Str.ofString "merged_by",.globalImplicit),(Str.ofString "runs",.cell),(Str.ofString "things",.cell)],isGenerator:=false,isCoroutine:=false,more:=[] }
def Zoj:Scope:={ kind:=.function,names:=[(Str.ofString ".0",.«local»),(Str.ofString "part",.«local»),(Str.ofString "things",.free)],isGenerator:=false,isCoroutine:=false,more:=[] }
theorem Zp1:Z9 ["things", "runs", "tree", "parts", "rows"] ["things", "runs", "tree", "parts", "rows", "part"] (Zg Zam) Zoj:=⟨rfl,rfl,by ac_rfl,by ac_rfl,by ac_rfl,by decide,by ac_rfl,by ac_rfl⟩
def ZmS:Scope:={ kind:=.function,names:=[(Str.ofString ".0",.«local»),(Str.ofString "part",.«local»),(Str.ofString "things",.cell)],isGenerator:=false,isCoroutine:=false,more:=[] }
def ZnE:Scope:={ kind:=.function,names:=[(Str.ofString ".0",.«local»),(Str.ofString "number",.«local»),(Str.ofString "things",.free)],isGenerator:=false,isCoroutine:=false,more:=[] }
theorem Zou:Z9 ["things", "runs", "tree", "parts", "rows", "part"] ["things", "runs", "tree", "parts", "rows", "part", "number"] ZmS ZnE:=⟨rfl,rfl,by ac_rfl,by ac_rfl,by ac_rfl,by decide,by ac_rfl,by ac_rfl⟩
def Zqv:Scope:={ kind:=.function,names:=[(Str.ofString ".0",.«local»),(Str.ofString "number",.«local»),(Str.ofString "things",.cell)],isGenerator:=false,isCoroutine:=false,more:=[] }
def Zn7:Scope:={ kind:=.function,names:=[(Str.ofString ".0",.«local»),(Str.ofString "part",.«local»),(Str.ofString "place",.«local»),(Str.ofString "parts",.free)],isGenerator:=false,isCoroutine:=false,more:=[] }
theorem Zke:Z9 ["things", "runs", "tree", "parts", "rows"] ["things", "runs", "tree", "parts", "rows", "part", "place"] (Zg Zam) Zn7:=⟨rfl,rfl,by ac_rfl,by ac_rfl,by ac_rfl,by decide,by ac_rfl,by ac_rfl⟩
def Zqa:Scope:={ kind:=.function,names:=[(Str.ofString ".0",.«local»),(Str.ofString "part",.«local»),(Str.ofString "place",.«local»),(Str.ofString "parts",.cell)],isGenerator:=false,isCoroutine:=false,more:=[] }
def Zop:Scope:={ kind:=.function,names:=[(Str.ofString ".0",.«local»),(Str.ofString "number",.«local»),(Str.ofString "things",.free)],isGenerator:=false,isCoroutine:=false,more:=[] }
theorem Zl8:Z9 ["things", "room", "inside", "next_in", "runs", "goer", "run", "key", "number"] ["things", "room", "inside", "next_in", "runs", "goer", "run", "key", "?number", "number"] (Zg Zbt) Zop:=⟨rfl,rfl,by ac_rfl,by ac_rfl,by ac_rfl,by decide,by ac_rfl,by ac_rfl⟩
def Zqz:Scope:={ kind:=.function,names:=[(Str.ofString ".0",.«local»),(Str.ofString "number",.«local»),(Str.ofString "things",.cell)],isGenerator:=false,isCoroutine:=false,more:=[] }
def Znw:Scope:={ kind:=.function,names:=[(Str.ofString ".0",.«local»),(Str.ofString "middle",.«local»),(Str.ofString "begin",.free),(Str.ofString "end",.free),(Str.ofString "groves",.free),(Str.ofString "most",.free)],isGenerator:=false,isCoroutine:=false,more:=[] }
theorem Zf1:Z9 ["groves", "begin", "end", "most", "price", "middle"] ["groves", "begin", "end", "most", "price", "?middle", "middle"] (Zg Za6) Znw:=⟨rfl,rfl,by ac_rfl,by ac_rfl,by ac_rfl,by decide,by ac_rfl,by ac_rfl⟩
def ZqG:Scope:={ kind:=.function,names:=[(Str.ofString ".0",.«local»),(Str.ofString "middle",.«local»),(Str.ofString "begin",.cell),(Str.ofString "end",.cell),(Str.ofString "groves",.cell),(Str.ofString "most",.cell)],isGenerator:=false,isCoroutine:=false,more:=[] }
def ZmM:Scope:={ kind:=.function,names:=[(Str.ofString ".0",.«local»),(Str.ofString "run",.«local»),(Str.ofString "len",.globalImplicit)],isGenerator:=false,isCoroutine:=false,more:=[] }
theorem Zjl:Z9 ["things", "room", "ways", "runs", "cost", "tree"] ["things", "room", "ways", "runs", "cost", "tree", "run"] (Zg Zbs) ZmM:=⟨rfl,rfl,by ac_rfl,by ac_rfl,by ac_rfl,by decide,by ac_rfl,by ac_rfl⟩
def Zp8:Scope:={ kind:=.function,names:=[(Str.ofString ".0",.«local»),(Str.ofString "run",.«local»),(Str.ofString "len",.globalImplicit)],isGenerator:=false,isCoroutine:=false,more:=[] }
def ZmD:Scope:={ kind:=.function,names:=[(Str.ofString ".0",.«local»),(Str.ofString "_law_key_here",.«local»),(Str.ofString "_law_stem",.free)],isGenerator:=false,isCoroutine:=false,more:=[] }
theorem Zji:Z9 ["_law_script", "_law_ahead", "_law_k", "_law_left_here", "_law_things_here", "_law_room_here", "_law_ways", "_law_stem", "_law_told", "_law_longer", "_law_some", "_law_places", "_law_parts", "_law_due"] ["_law_script", "_law_ahead", "_law_k", "_law_left_here", "_law_things_here", "_law_room_here", "_law_ways", "_law_stem", "_law_told", "_law_longer", "_law_some", "_law_places", "_law_parts", "_law_due", "_law_key_here"] (Zg Zcm) ZmD:=⟨rfl,rfl,by ac_rfl,by ac_rfl,by ac_rfl,by decide,by ac_rfl,by ac_rfl⟩
def Zp9:Scope:={ kind:=.function,names:=[(Str.ofString ".0",.«local»),(Str.ofString "_law_key_here",.«local»),(Str.ofString "_law_stem",.cell)],isGenerator:=false,isCoroutine:=false,more:=[] }
structure Bt (mg:Str→Option Value):Prop where
 n_abs:mg "abs" = none
 n_bool:mg "bool" = none
 n_enumerate:mg "enumerate" = none
 n_int:mg "int" = none
 n_isinstance:mg "isinstance" = none
 n_len:mg "len" = none
 n_list:mg "list" = none
 n_max:mg "max" = none
 n_min:mg "min" = none
 n_range:mg "range" = none
 n_sorted:mg "sorted" = none
 n_sum:mg "sum" = none
structure Zaj (K:PySem.W.Frag) (mg:Str→Option Value) (cRow:Addr) (cMerge:Addr):Prop where
 b:Bt mg
 t_is_number:Top K mg "is_number" Zbk ["thing"]
 t_near_plan:Top K mg "near_plan" Zbj ["sizes", "ways"]
 t_least_groves:Top K mg "least_groves" ZaP ["sizes", "ways"]
 t_least_tree:Top K mg "least_tree" Zbf ["groves", "sizes", "ways", "begin", "end"]
 t_least_grove:Top K mg "least_grove" ZaY ["groves", "alone", "begin", "end", "most"]
 t_least_cut:Top K mg "least_cut" Za6 ["groves", "begin", "end", "most"]
 t_alike:Top K mg "alike" Zdw ["one", "other"]
 t_liken:Top K mg "liken" Zde ["one", "other"]
 t_liken_from:Top K mg "liken_from" Zbc ["one", "other", "far"]
 t_alike_from:Top K mg "alike_from" Zba ["one", "other", "far"]
 t_order_at:Top K mg "order_at" ZbJ ["one", "other", "at"]
 t_runs_of:Top K mg "runs_of" Zbt ["things", "room"]
 t_run_behind:Top K mg "run_behind" Zbd ["run", "key", "comer"]
 t_halves:Top K mg "halves" Zcz ["numbers"]
 t_way_up:Top K mg "way_up" ZcL ["numbers", "n"]
 t_first_break:Top K mg "first_break" ZaZ ["keys"]
 t_alikes:Top K mg "alikes" ZcG ["row"]
 t_refuse_break:Top K mg "refuse_break" ZaO ["number", "keys"]
 t_matches_up:Top K mg "matches_up" Zbe ["numbers", "n"]
 t_merged:Top K mg "merged" ZbZ ["rows"]
 t_how_many:Top K mg "how_many" Zbh ["rows"]
 t_merged_by:Top K mg "merged_by" Zam ["things", "runs", "tree"]
 t_sort_by:Top K mg "sort_by" Zbs ["things", "room", "ways"]
 t_l_mix:Top K mg "_law_mix" Zdj ["_law_cell", "_law_k"]
 t_l_left:Top K mg "_law_left" Zcp ["_law_script", "_law_k"]
 t_l_pick:Top K mg "_law_pick" ZcE ["_law_left_here", "_law_many"]
 t_l_stems:Top K mg "_law_stems" Zbw ["_law_left_here"]
 t_l_key:Top K mg "_law_key" ZcA ["_law_left_here", "_law_stems_here"]
 t_l_things:Top K mg "_law_things" ZbG ["_law_left_here"]
 t_l_room:Top K mg "_law_room" Zco ["_law_left_here"]
 t_l_is_number:Top K mg "_law_is_number" Za1 ["_law_thing"]
 t_l_cost_right:Top K mg "_law_cost_right" ZaN ["_law_things_here", "_law_room_here", "_law_ways"]
 t_Row_init:ZnF K mg cRow "Row" "Row.__init__" Za0 ["self", "keys"]
 t_Row_to_go:ZeO K cRow "to_go" "Row.to_go" ZaK ["self"]
 t_Row_head:ZeO K cRow "head" "Row.head" ZaV ["self"]
 t_Merge_init:ZnF K mg cMerge "Merge" "Merge.__init__" Zau ["self", "rows"]
 t_Merge_coming:ZeO K cMerge "coming" "Merge.coming" Zab ["self"]
 t_Merge_take:ZeO K cMerge "take" "Merge.take" Zat ["self"]
 t_Merge_take_few:ZeO K cMerge "take_few" "Merge.take_few" ZV ["self", "many"]
 t_Merge_looks:ZeO K cMerge "looks" "Merge.looks" ZaE ["self"]
 t_Merge_play_all:ZeO K cMerge "play_all" "Merge.play_all" ZZ ["self"]
 t_Merge_play:ZeO K cMerge "play" "Merge.play" Zax ["self", "numbers"]
 t_Merge_send_out:ZeO K cMerge "send_out" "Merge.send_out" ZW ["self", "number"]
 t_Merge_play_again:ZeO K cMerge "play_again" "Merge.play_again" ZN ["self", "meeting", "comer"]
 t_Merge_meet:ZeO K cMerge "meet" "Merge.meet" Zas ["self", "one", "other", "far"]
 cl_Row:Cls K cRow
 na_Row_all_keys:Za8 K cRow "all_keys"
 na_Row_fars:Za8 K cRow "fars"
 na_Row_gone:Za8 K cRow "gone"
 cl_Merge:Cls K cMerge
 na_Merge_best:Za8 K cMerge "best"
 na_Merge_likened:Za8 K cMerge "likened"
 na_Merge_looked:Za8 K cMerge "looked"
 na_Merge_next_number:Za8 K cMerge "next_number"
 na_Merge_rows:Za8 K cMerge "rows"
 na_Merge_stays:Za8 K cMerge "stays"
def ZaC(H:Hp)(p:Addr)(c:Int):Prop:=∃a b:Int,H p=some (.lst [.int a,.int b,.int c])∧0≤c
def But(p:Addr)(H H':Hp):Prop:=∀b o,H b=some o→b≠p→H' b=some o
theorem But.trans{p:Addr}{H H1 H2:Hp}(a:But p H H1)(b:But p H1 H2):But p H H2:=fun c o h n=>b c o (a c o h n) n
theorem But.same{p:Addr}{H H1:Hp}(a:Zu H H1):But p H H1:=fun c o h _=>a c o h
theorem Zi{H:Hp}{p:Addr}(h:H p=none)(o:HO):Zu H (upd H p o):=fun b u q=>by rw[Zd (Zb q h)];exact q
theorem Zcg{n:Nat}(h:n≤1000):n≤sizeLine:=Nat.le_of_lt (ZJ h)
def Zmn:Sp:=fun vs H Q _=>∃a k:Int,vs=[.int a,.int k] ∧ -(2 ^ 62)<k∧k<2 ^ 62∧∀r:Int,0≤r→r<2000000000→Q (.int r) H
def Zlx(K:PySem.W.Frag):Sp:=fun vs H Q _=>∃ (a:Addr) (ns:List Int) (k:Int),vs=[.ref a,.int k]∧SqL K H a (ns.map V.int)∧ns.length≤63∧0≤k∧k<100 ∧
 ∀ (p:Addr) (H':Hp),H p=none→ZaC H' p 0→Zu H H'→Q (.ref p) H'
def Zez:Sp:=fun vs H Q _=>∃ (p:Addr) (c m:Int),vs=[.ref p,.int m]∧ZaC H p c∧c<2 ^ 60∧0<m∧m<1000000 ∧
 ∀ (r:Int) (H':Hp),0≤r→r<m→ZaC H' p (c+1)→But p H H'→Q (.int r) H'
theorem Zo0{ns:List Int}{k:Int}(h0:0≤k)(h:k<(ns.length:Int)):∃v:Int,atI (ns.map V.int) k=some (.int v):=by
 have hk:k.toNat<ns.length:=by omega
 have ek:k=((k.toNat:Nat):Int):=by omega
 have q:atI (ns.map V.int) ((k.toNat:Nat):Int)=some (.int ns[k.toNat]):=Z6 (by rw[Qk,Qb hk]<;>rfl)
 rw[← ek]at q
 exact⟨_,q⟩
theorem ZgU{ss:List Str}{k:Int}(h0:0≤k)(h:k<(ss.length:Int)):∃s∈ss,atI (ss.map V.str) k=some (.str s):=by
 have hk:k.toNat<ss.length:=by omega
 have ek:k=((k.toNat:Nat):Int):=by omega
 have q:atI (ss.map V.str) ((k.toNat:Nat):Int)=some (.str ss[k.toNat]):=Z6 (by rw[Qk,Qb hk]<;>rfl)
 rw[← ek]at q
 exact⟨_,Q0 hk,q⟩
theorem Zoz(b:Bool):-(2 ^ 64)<(if b=true then (1:Int) else 0)∧(if b=true then (1:Int) else 0)<2 ^ 64:=by cases b<;>decide
theorem Zeb{z:Str}{k:Int}(h0:0≤k)(h:k<(z.length:Int)):∃c:Nat,z.cps.toList[k.toNat]? = some c∧atI z.cps.toList k=some c:=by
 have hl:z.cps.toList.length=z.length:=by simp[Str.length]
 have hk:k.toNat<z.cps.toList.length:=by omega
 have ek:k=((k.toNat:Nat):Int):=by omega
 have q:atI z.cps.toList ((k.toNat:Nat):Int)=some z.cps.toList[k.toNat]:=Z6 (Qb hk)
 rw[← ek]at q
 exact⟨_,Qb hk,q⟩
theorem Zmu(sep:Str)(ys:List Str):(Txt.join sep ys).length≤(ys.map (·.length)).sum+ys.length*sep.length:=by
 have e:Txt.join sep ys=Str.join sep ys:=by simpa using join_plain_closes sep ys
 rw[e]
 exact StrLaws.join_length_le sep ys
theorem Zh3:∀ss:List Str,(∀s∈ss,s.length≤1)→(ss.map (·.length)).sum≤ss.length
 | [],_=>Qh _
 | s::r,h=>by
  have h1:=h s Q2
  have h2:=Zh3 r fun x hx=>h x (Qw _ hx)
  rw[Qn,QT,QE]
  omega
def lcp:List Nat→List Nat→Nat
 | a::r,b::s=>if a=b then lcp r s+1 else 0
 | _,_=>0
theorem ZfQ:∀ (x y:List Nat),lcp x y≤x.length∧lcp x y≤y.length
 | [],_=>⟨Qv _,Qv _⟩
 | _::_,[]=>⟨Qv _,Qv _⟩
 | a::r,b::s=>by
  have h:=ZfQ r s
  unfold lcp
  split
  ·exact⟨Nat.succ_le_succ h.1,Nat.succ_le_succ h.2⟩
  ·exact⟨Qv _,Qv _⟩
theorem Zb7:∀ (x y:List Nat),lcp x y=lcp y x
 | [],[]=>rfl
 | [],_::_=>rfl
 | _::_,[]=>rfl
 | a::r,b::s=>by
  unfold lcp
  by_cases h:a=b
  ·rw[if_pos h,if_pos h.symm,Zb7 r s]
  ·rw[if_neg h,if_neg fun e=>h e.symm]
theorem ZhT:∀x:List Nat,lcp x x=x.length
 | []=>rfl
 | a::r=>by unfold lcp;rw[if_pos rfl,ZhT r];rfl
theorem ZdC(x:List Nat):lcp x []=0:=by cases x<;>rfl
theorem lcp_nil'(x:List Nat):lcp [] x=0:=by cases x<;>rfl
theorem Zmd:∀ (x y:List Nat) (k:Nat),k≤lcp x y→∀a,x[k]? = some a→y[k]? = some a→k+1≤lcp x y
 | [],_,k,_,a,h,_=>by simp at h
 | _::_,[],k,_,a,_,h=>by simp at h
 | a::r,b::s,0,_,c,h1,h2=>by
  simp at h1 h2
  unfold lcp
  rw[if_pos (by rw[h1,h2])]
  omega
 | a::r,b::s,k+1,h,c,h1,h2=>by
  unfold lcp at h ⊢
  by_cases e:a=b
  ·rw[if_pos e]at h ⊢
   have:=Zmd r s k (by omega) c (by simpa using h1) (by simpa using h2)
   omega
  ·rw[if_neg e]at h;omega
theorem ZmZ:∀ (x y:List Nat) (k:Nat),k<lcp x y→x[k]? = y[k]?
 | [],_,k,h=>by unfold lcp at h;omega
 | _::_,[],k,h=>by unfold lcp at h;omega
 | a::r,b::s,0,h=>by
  unfold lcp at h
  by_cases e:a=b
  ·simp[e]
  ·rw[if_neg e]at h;omega
 | a::r,b::s,k+1,h=>by
  unfold lcp at h
  by_cases e:a=b
  ·rw[if_pos e]at h
   simpa using ZmZ r s k (by omega)
  ·rw[if_neg e]at h;omega
theorem Zha(x y:List Nat)(k:Nat)(h:k≤lcp x y)(n:x.length≤k∨y.length≤k∨∃a b,x[k]? = some a∧y[k]? = some b∧a≠b):lcp x y=k:=by
 have l:=ZfQ x y
 rcases n with n|n|⟨a,b,h1,h2,ne⟩
 ·omega
 ·omega
 ·by_cases q:k<lcp x y
  ·have:=ZmZ x y k q
   rw[h1,h2]at this
   exact absurd (Qp this) ne
  ·omega
theorem ZeC:∀ (x y z:List Nat),(lcp x y≤lcp x z∧lcp y z=lcp x y)∨(lcp x y≤lcp y z∧lcp x z=lcp x y)∨(lcp x z≤lcp x y∧lcp y z=lcp x z)
 | [],y,z=>.inr (.inl ⟨by rw[lcp_nil'];exact Qv _,by rw[lcp_nil',lcp_nil']⟩)
 | x,[],z=>.inl ⟨by rw[ZdC];exact Qv _,by rw[ZdC,lcp_nil']⟩
 | x,y,[]=>.inr (.inr ⟨by rw[ZdC];exact Qv _,by rw[ZdC,ZdC]⟩)
 | a::r,b::s,c::t=>by
  have ih:=ZeC r s t
  unfold lcp
  by_cases h1:a=b
  ·by_cases h2:b=c
   ·rw[if_pos h1,if_pos h2,if_pos (h1.trans h2)]
    omega
   ·rw[if_pos h1,if_neg h2,if_neg fun e=>h2 (h1.symm.trans e)]
    omega
  ·rw[if_neg h1]
   by_cases h2:b=c
   ·rw[if_pos h2,if_neg fun e=>h1 (e.trans h2.symm)]
    omega
   ·rw[if_neg h2]
    omega
abbrev cds(z:Str):List Nat:=z.cps.toList
def AZ(z:Str):Prop:=∀c∈cds z,97≤c∧c≤122
theorem Zhu(x y:Str):cds (x++y)=cds x++cds y:=by
 show (x++y).cps.toList=_
 rw[PySem.Str.cps_append]
 simp
theorem AZ.app{x y:Str}(a:AZ x)(b:AZ y):AZ (x++y):=fun c h=>by
 rw[Zhu]at h
 exact(Qe.mp h).elim (a c) (b c)
theorem AZ.nil:AZ "":=by unfold AZ cds;ac_rfl
theorem AZ.join:∀ys:List Str,(∀s∈ys,AZ s)→AZ (Str.join "" ys)
 | [],_=>fun c h=>by cases (show c∈([]:List Nat) from h)
 | [x],h=>h x (by simp)
 | x::y::r,h=>((h x (by simp)).app AZ.nil).app (AZ.join (y::r) fun s hs=>h s (Qw _ hs))
theorem AZ.joinT(ys:List Str)(h:∀s∈ys,AZ s):AZ (Txt.join "" ys):=by
 have e:Txt.join "" ys=Str.join "" ys:=by simpa using join_plain_closes "" ys
 rw[e]
 exact AZ.join ys h
theorem AZ.one{z:Str}(a:AZ z){k:Nat}{c:Nat}(h:z.cps.toList[k]? = some c):AZ ⟨#[c]⟩:=fun d hd=>by
 have e:d=c:=by simpa using hd
 rw[e]
 exact a c (Qr h)
theorem AZ.ok{z:Str}(a:AZ z):PyData.strOk z=true:=by
 unfold PyData.strOk
 rw[Array.all_eq_true]
 intro i hi
 have:=a z.cps[i] (by simp)
 exact decide_eq_true (by omega)
theorem Zpq:AZ "ababcz":=by unfold AZ cds;ac_rfl
def Ze8:Sp:=fun vs H Q _=>∃x y:Str,vs=[.str x,.str y]∧x.length≤1000∧y.length≤1000∧Q (.int (lcp (cds x) (cds y))) H
def Zcd:Sp:=fun vs H Q _=>∃ (x y:Str) (far:Nat),vs=[.str x,.str y,.int far]∧x.length≤1000∧y.length≤1000∧far≤lcp (cds x) (cds y)∧Q (.int (lcp (cds x) (cds y))) H
def IsD(H:Hp):Nat→V→V→Prop
 | 0,_,_=>False
 | n+1,x,y=>(x=y∧(x=.non∨(∃b,x=.bl b)∨(∃i,x=.int i)∨∃s,x=.str s)) ∨
   (∃ (p q:Addr) (xs ys:List V),x=.ref p∧y=.ref q∧((H p=some (.lst xs)∧H q=some (.lst ys))∨(H p=some (.tup xs)∧H q=some (.tup ys)))∧xs.length=ys.length∧xs.length≤1000∧∀ (i:Nat) (x y:V),xs[i]? = some x→ys[i]? = some y→IsD H n x y)
def spSame(n:Nat):Sp:=fun vs H Q _=>∃x y:V,vs=[x,y]∧IsD H n x y∧∀H',Zu H H'→Q (.bl true) H'
section
variable (K:PySem.W.Frag)
open PySem.W
theorem Zie:kitOne K (.type "int") (.type "bool")=some false:=by unfold kitOne kitCls;rfl
theorem ZgA:kitOne K (.type "int") (.type "int")=some true:=by unfold kitOne kitCls;rfl
end
section
variable {P:Program} {w:World} {K:PySem.W.Frag} {mg:Str→Option Value} {base:Heap} {cRow cMerge:Addr}
theorem ZoX(T:Zaj K mg cRow cMerge):Df P w K mg base 1 "_law_mix" ["_law_cell", "_law_k"] Zmn:=by
 refine T.t_l_mix.df ZhY (fun vs H Q E h=>?_) (fun cdv f A outer s H vs Q E hr h=>?_)
 ·obtain⟨a,k,rfl,_⟩:=h
  rfl
 obtain⟨a,k,rfl,k1,k2,q⟩:=h
 refine⟨_,#[Zf,#[Zw,2,ZhY.nd,(Or.inl rfl),#[ZG,ZfC,#[ZG,ZdZ,#[ZG,Zal,#[ZG,Zal,#[ZG,ZfC,‹0›,#[Zh]],#[ZG,ZdZ,#[ZG,ZdZ,‹1›,‹1›],#[Zh]]],#[Zh]],#[Zh]],#[Zh]]],#[Zj,#[Zp,#[ZG,ZfC,#[ZG,ZdZ,‹2›,‹2›],#[Zh]]]]],?_⟩
 refine⟨_,rfl,_,_,rfl,rfl,(by show (0:Int)<_;decide),_,rfl,_,rfl,_,_,rfl,rfl,.inl ⟨by omega,by omega⟩,_,_,rfl,rfl,.inr ⟨by decide,by decide⟩,_,_,rfl,rfl,_,_,rfl,rfl,_,_,rfl,rfl,.inr ⟨by decide,by decide⟩,_,_,rfl,rfl,(by show (0:Int)<_;decide),?_⟩
 have m0:=Int.emod_nonneg ((a % 2147483629+k*k*7919+11)*48271) (show (2147483647:Int)≠0 by decide)
 have m1:=QaC ((a % 2147483629+k*k*7919+11)*48271) (show (0:Int)<2147483647 by decide)
 refine⟨_,rfl,_,rfl,_,_,rfl,rfl,.inl ⟨by omega,by omega⟩,_,_,rfl,rfl,(by show (0:Int)<_;decide),?_⟩
 exact q _ (Int.emod_nonneg _ (by decide)) (Int.lt_trans (QaC _ (by decide)) (by decide))
theorem ZnX(T:Zaj K mg cRow cMerge):Df P w K mg base 1 "_law_left" ["_law_script", "_law_k"] (Zlx K):=by
 refine T.t_l_left.df ZgG (fun vs H Q E h=>?_) (fun cdv f A outer s H vs Q E hr h=>?_)
 ·obtain⟨a,ns,k,rfl,_⟩:=h
  rfl
 obtain⟨a,ns,k,rfl,hS,h63,k0,k1,q⟩:=h
 refine⟨_,#[Zf,#[Zw,2,ZgG.nd,(Or.inl rfl),#[Zbb,#[Zn,ZdU,‹1›,#[Zk,(ZbH K),(by rfl),T.b.n_len,Qu,#[Za,‹0›,#[Ze]]],(Zt _)],#[Zz,(ixL K),‹0›,‹1›],#[Zh]]],#[Zj,#[Zp,#[Za9,#[Za,#[ZG,ZdZ,#[Zk,ZhS,(by rfl),T.b.n_abs,boot_abs,#[Za,‹2›,#[Ze]]],#[ZbY,ZgP,T.b.n_int,boot_int,#[Za,#[ZdI,ZmN,#[Zk,ZhS,(by rfl),T.b.n_abs,boot_abs,#[Za,‹2›,#[Ze]]],#[ZG,Zpy,#[Zh],#[Zh]]],#[Ze]]]],#[Za,#[ZG,Zal,‹2›,#[ZG,ZdZ,#[Zh],‹1›]],#[Za,#[Zh],#[Ze]]]]]]]],?_⟩
 have hl:(ns.map V.int).length=ns.length:=Qa _
 have pw:Zqm 10 18:=⟨by decide,by decide,by decide⟩
 refine⟨_,rfl,_,rfl,a,_,rfl,.inl hS,_,_,rfl,rfl,_,rfl,?_⟩
 refine Za4 (fun c=>?_) (fun c=>?_)
 ·have c':k<(((ns.map V.int).length:Nat):Int):=of_decide_eq_true c
  rw[hl]at c'
  obtain⟨v,hv⟩:=Zo0 (ns:=ns) k0 c'
  refine⟨_,rfl,_,rfl,a,_,_,_,rfl,rfl,hS,hv,?_⟩
  refine⟨_,rfl,_,rfl,_,rfl,_,rfl,_,_,rfl,rfl,pw,_,_,rfl,rfl,.inr ⟨_,rfl,_,_,rfl,rfl,.inr (Zoz _),_,rfl,_,rfl,_,_,rfl,rfl,.inl ⟨by decide,by decide⟩,_,_,rfl,rfl,(by show 3≤sizeLine;decide),fun p hp=>?_⟩⟩
  exact q p _ hp ⟨_,_,Zc,QaE _⟩ (Zi hp _)
 ·refine⟨_,rfl,_,rfl,_,rfl,_,rfl,_,_,rfl,rfl,pw,_,_,rfl,rfl,.inr ⟨_,rfl,_,_,rfl,rfl,.inr (Zoz _),_,rfl,_,rfl,_,_,rfl,rfl,.inl ⟨by decide,by decide⟩,_,_,rfl,rfl,(by show 3≤sizeLine;decide),fun p hp=>?_⟩⟩
  exact q p _ hp ⟨_,_,Zc,QaE _⟩ (Zi hp _)
theorem ZnP(T:Zaj K mg cRow cMerge)(f_l_mix:Df P w K mg base 1 "_law_mix" ["_law_cell", "_law_k"] Zmn):Df P w K mg base 2 "_law_pick" ["_law_left_here", "_law_many"] Zez:=by
 refine T.t_l_pick.df Zgh (fun vs H Q E h=>?_) (fun cdv f A outer s H vs Q E hr h=>?_)
 ·obtain⟨p,c,m,rfl,_⟩:=h
  rfl
 obtain⟨p,c,m,rfl,⟨a,b,hp,c0⟩,c1,m0,m1,q⟩:=h
 refine⟨_,#[Zf,#[ZaT,#[ZG,Zal,#[Zz,(ixL K),‹0›,#[Zh]],#[Zh]],#[Zdl,‹0›,#[Zh],Zim]],#[Zf,#[Zae,#[Zn,ZeY,#[Zz,(ixL K),‹0›,#[Zh]],#[Zh],(Zt _)],#[Zf,#[Zw,2,Zgh.nd,(Or.inl rfl),#[ZG,ZfC,#[Zz,(ixL K),‹0›,#[Zh]],‹1›]],#[Zf,#[ZaT,#[ZG,Zfa,#[Zz,(ixL K),‹0›,#[Zh]],‹1›],#[Zdl,‹0›,#[Zh],Zim]],#[Zj,#[Zp,‹2›]]]],#[ZF]],#[Zj,#[Zp,#[ZG,ZfC,#[ZG,Zfa,#[ZA,f_l_mix,hr,#[Za,#[ZA,f_l_mix,hr,#[Za,#[Zz,(ixL K),‹0›,#[Zh]],#[Za,#[Zz,(ixL K),‹0›,#[Zh]],#[Ze]]],(by rfl)],#[Za,#[ZG,Zal,#[Zz,(ixL K),‹0›,#[Zh]],#[Zh]],#[Ze]]],(by rfl)],#[Zh]],‹1›]]]]],?_⟩
 have u1:(upd H p (.lst [.int a,.int b,.int (c+1)])) p=some (.lst [.int a,.int b,.int (c+1)]):=Zc
 refine⟨_,rfl,p,_,_,_,rfl,rfl,SqL.of hp,rfl,_,_,rfl,rfl,_,rfl,p,_,_,2,rfl,rfl,hp,rfl,?_⟩
 refine⟨_,rfl,p,_,_,_,rfl,rfl,SqL.of u1,rfl,_,_,rfl,rfl,_,rfl,?_⟩
 refine Za4 (fun d=>?_) (fun d=>?_)
 ·refine⟨_,rfl,p,_,_,_,rfl,rfl,SqL.of u1,rfl,_,rfl,_,_,rfl,rfl,m0,?_⟩
  refine⟨_,rfl,p,_,_,_,rfl,rfl,SqL.of u1,rfl,_,rfl,_,_,rfl,rfl,⟨m0,by omega⟩,_,rfl,p,_,_,0,rfl,rfl,u1,rfl,?_⟩
  refine⟨_,rfl,?_⟩
  refine q _ _ (Int.emod_nonneg _ (by omega)) (QaC _ m0) ⟨a / m,b,Zc,by omega⟩ fun e o h n=>?_
  rw[Zd n,Zd n]
  exact h
 ·refine⟨_,rfl,p,_,_,_,rfl,rfl,SqL.of u1,rfl,_,rfl,p,_,_,_,rfl,rfl,SqL.of u1,rfl,_,_,rfl,by omega,by omega,fun r r0 r1=>?_⟩
  refine⟨_,rfl,p,_,_,_,rfl,rfl,SqL.of u1,rfl,_,_,rfl,rfl,_,_,rfl,by omega,by omega,fun r' r0' r1'=>?_⟩
  refine⟨_,_,rfl,rfl,⟨by decide,by decide⟩,_,rfl,_,_,rfl,rfl,m0,?_⟩
  refine q _ _ (Int.emod_nonneg _ (by omega)) (QaC _ m0) ⟨a,b,Zc,by omega⟩ fun e o h n=>?_
  rw[Zd n]
  exact h
def ZbC:List Str:=["", "a", "ab", "aba", "abab", "b", "zebra", "aaaaaaaa", "knowswho", "z", "abababababab",Txt.mul "a" 24]
theorem ZhG:∀s∈ZbC,s.length≤24:=by ac_rfl
theorem ZiX:∀s∈ZbC,AZ s:=by unfold AZ cds;ac_rfl
def ZgT:Sp:=fun vs H Q _=>∃ (p:Addr) (c:Int),vs=[.ref p]∧ZaC H p c∧c<2 ^ 50 ∧
 ∀ (l:Addr) (ss:List Str) (c':Int) (H':Hp),H l=none→H' l=some (.lst (ss.map V.str))→1≤ss.length→ss.length≤4→(∀s∈ss,s.length≤24∧AZ s)→ZaC H' p c'→c≤c'→c'≤c+5→But p H H'→Q (.ref l) H'
def ZlP:Sp:=fun vs H Q _=>∃ (p l:Addr) (c:Int) (ss:List Str),vs=[.ref p,.ref l]∧ZaC H p c∧c<2 ^ 50∧H l=some (.lst (ss.map V.str))∧1≤ss.length∧ss.length≤4∧(∀s∈ss,s.length≤24∧AZ s) ∧
 ∀ (z:Str) (c':Int) (H':Hp),z.length≤28→AZ z→ZaC H' p c'→c≤c'→c'≤c+6→But p H H'→Q (.str z) H'
theorem Zlq(T:Zaj K mg cRow cMerge)(f_l_pick:Df P w K mg base 2 "_law_pick" ["_law_left_here", "_law_many"] Zez):Df P w K mg base 3 "_law_stems" ["_law_left_here"] ZgT:=by
 refine T.t_l_stems.df Zfh (fun vs H Q E h=>?_) (fun cdv f A outer s H vs Q E hr h=>?_)
 ·obtain⟨p,c,rfl,_⟩:=h
  rfl
 obtain⟨p,c,rfl,hL,c1,q⟩:=h
 refine⟨_,#[Zf,#[Zw,1,Zfh.nd,(Or.inr rfl),#[Za9,#[Za,#[ZaS],#[Za,#[ZaS],#[Za,#[ZaS],#[Za,#[ZaS],#[Za,#[ZaS],#[Za,#[ZaS],#[Za,#[ZaS],#[Za,#[ZaS],#[Za,#[ZaS],#[Za,#[ZaS],#[Za,#[ZaS],#[Za,#[ZG,ZnW,#[ZaS],#[Zh]],#[Ze]]]]]]]]]]]]]]],#[Zj,#[Zp,#[ZbU,Zmz,#[ZbX,T.b.n_range,#[Za,#[ZG,Zal,#[Zh],#[ZA,f_l_pick,hr,#[Za,#[pv,0,(Or.inr (Or.inl rfl))],#[Za,#[Zh],#[Ze]]],(by rfl)]],#[Ze]]],(fun _ _ _ _=>#[cg,2,Zmz]),(fun _ _ _ _=>(@Zbg _)),(fun _ _ _ _=>#[Zz,(ixL K),#[cv,1,Zmz],#[ZA,f_l_pick,hr,#[Za,#[cv,0,Zmz],#[Za,#[Zh],#[Ze]]],(Zcx Zmz rfl (by ac_rfl))]])]]]],?_⟩
 refine⟨_,_,rfl,rfl,by decide,by decide,by decide,(by show 12≤sizeLine;decide),fun l hl=>?_⟩
 have npl:p≠l:=by obtain⟨a,b,hp,_⟩:=hL;exact Zb hp hl
 have hL1:ZaC (upd H l (.lst (ZbC.map V.str))) p c:=by obtain⟨a,b,hp,c0⟩:=hL;exact⟨a,b,by rw[Zd npl];exact hp,c0⟩
 refine⟨_,rfl,p,c,_,rfl,hL1,by omega,by decide,by decide,fun r H1 r0 r1 L1 B1=>?_⟩
 refine⟨_,_,rfl,rfl,_,rfl,by omega,by omega,fun D hD=>?_⟩
 have c0:0≤c:=by obtain⟨a,b,hp,c0⟩:=hL;exact c0
 have h1l:H1 l=some (.lst (ZbC.map V.str)):=B1 l _ Zc npl.symm
 have npD:p≠D:=by obtain⟨a,b,hp,_⟩:=L1;exact Zb hp hD
 have nlD:l≠D:=Zb h1l hD
 refine ZcX (fun i ys σ H2=>∃ (ss:List Str) (v:Option V) (c2:Int),σ=[some (.ref p),some (.ref l),v]∧ys=ss.map V.str∧ss.length=i∧(∀s∈ss,s.length≤24∧AZ s)∧ZaC H2 p c2∧c+1≤c2∧c2≤c+1+i ∧
   H2 l=some (.lst (ZbC.map V.str))∧H2 D=some (.lst ys)∧But p H H2) ?_ ?_ ?_
 ·refine⟨[],none,c+1,rfl,rfl,rfl,(fun s hs=>by cases hs),?_,by omega,by omega,?_,Zc,?_⟩
  ·obtain⟨a,b,hp,q0⟩:=L1
   exact⟨a,b,by rw[Zd npD];exact hp,q0⟩
  ·rw[Zd nlD];exact h1l
  ·intro b o e n
   have e1:(upd H l (.lst (ZbC.map V.str))) b=some o:=by rw[Zd (Zb e hl)];exact e
   have e2:=B1 b o e1 n
   rw[Zd (Zb e2 hD)]
   exact e2
 ·rintro i ys σ H2 hi ⟨ss,v,c2,rfl,rfl,hn,hs,L2',b1,b2,hl2,hD2,B2⟩
  refine⟨_,rfl,_,rfl,p,c2,_,rfl,L2',by omega,by decide,by decide,fun r' H3 r0' r1' L3 B3=>?_⟩
  obtain⟨s,hs1,hs2⟩:=ZgU (ss:=ZbC) r0' r1'
  have hD3:H3 D=some (.lst (ss.map V.str)):=B3 D _ hD2 npD.symm
  have hl3:H3 l=some (.lst (ZbC.map V.str)):=B3 l _ hl2 npl.symm
  refine⟨l,_,_,_,rfl,rfl,SqL.of hl3,hs2,hD3,(by rw[Qa,hn];exact ZJ (by omega)),ss++[s],_,c2+1,rfl,?_,?_,?_,?_,by omega,by omega,?_,Zc,?_⟩
  ·rw[Qg];rfl
  ·rw[Qf,hn];rfl
  ·intro x hx
   rcases Qe.mp hx with hx|hx
   ·exact hs x hx
   ·rw[Qc.mp hx];exact⟨ZhG s hs1,ZiX s hs1⟩
  ·obtain⟨a,b,hp,q0⟩:=L3
   exact⟨a,b,by rw[Zd npD];exact hp,q0⟩
  ·rw[Zd nlD];exact hl3
  ·intro b o e n
   have e2:=B3 b o (B2 b o e n) n
   have e3:H D=none:=by
    cases w':H D with
    | none=>rfl
    | some u =>
     have nDp:D≠p:=npD.symm
     have z1:(upd H l (.lst (ZbC.map V.str))) D=some u:=by rw[Zd nlD.symm];exact w'
     rw[B1 D u z1 nDp]at hD
     cases hD
   rw[Zd (Zb e e3)]
   exact e2
 ·rintro ys σ H2 ⟨ss,v,c2,rfl,rfl,hn,hs,L2',b1,b2,hl2,hD2,B2⟩
  have e3:H D=none:=by
   cases w':H D with
   | none=>rfl
   | some u =>
    have z1:(upd H l (.lst (ZbC.map V.str))) D=some u:=by rw[Zd nlD.symm];exact w'
    rw[B1 D u z1 npD.symm]at hD
    cases hD
  exact q D ss c2 H2 e3 hD2 (by omega) (by omega) hs L2' (by omega) (by omega) B2
theorem Zpk(T:Zaj K mg cRow cMerge)(f_l_pick:Df P w K mg base 2 "_law_pick" ["_law_left_here", "_law_many"] Zez):Df P w K mg base 3 "_law_key" ["_law_left_here", "_law_stems_here"] ZlP:=by
 refine T.t_l_key.df Zic (fun vs H Q E h=>?_) (fun cdv f A outer s H vs Q E hr h=>?_)
 ·obtain⟨p,l,c,ss,rfl,_⟩:=h
  rfl
 obtain⟨p,l,c,ss,rfl,hL,c1,hl,n1,n4,h24,q⟩:=h
 refine⟨_,#[Zf,#[Zw,2,Zic.nd,(Or.inl rfl),#[Zdq,PySem.F.plainAttrs_str,PySem.F.slot_str_join,PySem.F.type_str_join,(ZqA K),#[ZaS],#[Za,#[ZbU,Zni,#[ZbX,T.b.n_range,#[Za,#[ZA,f_l_pick,hr,#[Za,#[pv,0,(Or.inr (Or.inl rfl))],#[Za,#[Zh],#[Ze]]],(by rfl)],#[Ze]]],(fun _ _ _ _=>#[cg,3,Zni]),(fun _ _ _ _=>(@Zbg _)),(fun _ _ _ _=>#[Zz,Zfz,#[ZaS],#[ZA,f_l_pick,hr,#[Za,#[cv,0,Zni],#[Za,#[Zh],#[Ze]]],(Zcx Zni rfl (by ac_rfl))]])],#[Ze]]]],#[Zj,#[Zp,#[ZG,Zfi,#[Zz,(ixL K),‹1›,#[ZA,f_l_pick,hr,#[Za,#[pv,0,(Or.inr (Or.inl rfl))],#[Za,#[Zk,(ZbH K),(by rfl),T.b.n_len,Qu,#[Za,‹1›,#[Ze]]],#[Ze]]],(by rfl)]],‹2›]]]],?_⟩
 have c0:0≤c:=by obtain⟨a,b,hp,c0⟩:=hL;exact c0
 have npl:p≠l:=by
  obtain⟨a,b,hp,_⟩:=hL
  refine Zjo hp hl fun e=>?_
  have e1:=congrArg List.length (HO.lst.inj e)
  cases ss with
  | nil=>cases e1
  | cons x r=>exact absurd (HO.lst.inj e) (by intro z;cases z)
 refine⟨rfl,_,rfl,p,c,_,rfl,hL,by omega,by decide,by decide,fun r H1 r0 r1 L1 B1=>?_⟩
 refine⟨_,rfl,by omega,by omega,fun D hD=>?_⟩
 have npD:p≠D:=by obtain⟨a,b,hp,_⟩:=L1;exact Zb hp hD
 have h1l:=B1 l _ hl npl.symm
 have nlD:l≠D:=Zb h1l hD
 have hDn:H D=none:=by
  cases w':H D with
  | none=>rfl
  | some u=>rw[B1 D u w' npD.symm]at hD;cases hD
 refine ZcX (fun i ys σ H2=>∃ (ts:List Str) (v:Option V) (c2:Int),σ=[some (.ref p),some (.ref l),none,v]∧ys=ts.map V.str∧ts.length=i∧(∀s∈ts,s.length≤1∧AZ s)∧ZaC H2 p c2∧c+1≤c2∧c2≤c+1+i ∧
   H2 D=some (.lst ys)∧But p H H2) ?_ ?_ ?_
 ·refine⟨[],none,c+1,rfl,rfl,rfl,(fun s hs=>by cases hs),?_,by omega,by omega,Zc,?_⟩
  ·obtain⟨a,b,hp,q0⟩:=L1
   exact⟨a,b,by rw[Zd npD];exact hp,q0⟩
  ·intro b o e n
   rw[Zd (Zb e hDn)]
   exact B1 b o e n
 ·rintro i ys σ H2 hi ⟨ts,v,c2,rfl,rfl,hn,hs,L2',b1,b2,hD2,B2⟩
  refine⟨_,rfl,p,c2,_,rfl,L2',by omega,by decide,by decide,fun r' H3 r0' r1' L3 B3=>?_⟩
  obtain⟨ch,hcm,hch⟩:=Zeb (z := "ababcz") r0' r1'
  have hD3:H3 D=some (.lst (ts.map V.str)):=B3 D _ hD2 npD.symm
  refine⟨_,_,_,rfl,rfl,(by ac_rfl),hch,hD3,(by rw[Qa,hn];exact ZJ (by omega)),ts++[⟨#[ch]⟩],_,c2+1,rfl,?_,?_,?_,?_,by omega,by omega,Zc,?_⟩
  ·rw[Qg];rfl
  ·rw[Qf,hn];rfl
  ·intro x hx
   rcases Qe.mp hx with hx|hx
   ·exact hs x hx
   ·rw[Qc.mp hx];exact⟨Qh 1,Zpq.one hcm⟩
  ·obtain⟨a,b,hp,q0⟩:=L3
   exact⟨a,b,by rw[Zd npD];exact hp,q0⟩
  ·intro b o e n
   rw[Zd (Zb e hDn)]
   exact B3 b o (B2 b o e n) n
 ·rintro ys σ H2 ⟨ts,v,c2,rfl,rfl,hn,hs,L2',b1,b2,hD2,B2⟩
  have hsum:=Zh3 ts fun s h=>(hs s h).1
  have hjl:=Zmu "" ts
  have e0:("" : Str).length=0:=by ac_rfl
  rw[e0]at hjl
  have hl2:=B2 l _ hl npl.symm
  refine⟨_,D,ts,rfl,rfl,SqL.of hD2,(by rw[e0];omega),?_⟩
  have hlen:(((ss.map V.str).length:Nat):Int)=(ss.length:Int):=by rw[Qa]
  refine⟨_,rfl,_,rfl,_,rfl,l,_,rfl,.inl (SqL.of hl2),p,c2,_,rfl,L2',by omega,by omega,by omega,fun r' H3 r0' r1' L3 B3=>?_⟩
  obtain⟨st,hs1,hs2⟩:=ZgU (ss:=ss) r0' (by omega)
  have hst:=(h24 st hs1).1
  refine⟨l,_,_,_,rfl,rfl,SqL.of (B3 l _ hl2 npl.symm),hs2,_,rfl,_,_,rfl,rfl,Zcg (by omega),?_⟩
  refine q _ (c2+1) H3 ?_ ((h24 st hs1).2.app (AZ.joinT ts fun s h=>(hs s h).2)) L3 (by omega) (by omega) (B2.trans B3)
  rw[PySem.Str.length_append]
  omega
theorem Zf4(T:Zaj K mg cRow cMerge):Df P w K mg base 1 "alike_from" ["one", "other", "far"] Zcd:=by
 refine T.t_alike_from.df Zck (fun vs H Q E h=>?_) (fun cdv f A outer s H vs Q E hr h=>?_)
 ·obtain⟨x,y,far,rfl,_⟩:=h
  rfl
 obtain⟨x,y,far,rfl,hx,hy,hf,q⟩:=h
 refine⟨_,#[Zf,#[Zw,3,Zck.nd,(Or.inl rfl),‹2›],#[Zf,(@Zea _ _ _ _ _ _ PassesOwn.never (@PW.pt _ _ _ #[Zdo,#[Zn,ZdU,‹3›,#[Zk,Za5,(by rfl),T.b.n_len,Qu,#[Za,‹0›,#[Ze]]],(Zt _)],#[Zdo,#[Zn,ZdU,‹3›,#[Zk,Za5,(by rfl),T.b.n_len,Qu,#[Za,‹1›,#[Ze]]],(Zt _)],(@ZdE _ _ _ _ #[Zn,Zbn,#[Zz,Zfz,‹0›,‹3›],#[Zz,Zfz,‹1›,‹3›],(Zt _)])]]) #[Zj,(@Zlj _ _ 3 _ _ _ _ _ _ Zck.nd rfl (Or.inl rfl) #[Zh] Zmj (by trivial))]),#[Zj,#[Zp,‹3›]]]],?_⟩
 refine⟨_,rfl,?_⟩
 have lx:(cds x).length=x.length:=by simp[Str.length]
 have ly:(cds y).length=y.length:=by simp[Str.length]
 have ll:=ZfQ (cds x) (cds y)
 refine⟨fun m σ H2=>∃k:Nat,σ=[some (.str x),some (.str y),some (.int far),some (.int k)]∧H2=H∧k≤lcp (cds x) (cds y)∧m=lcp (cds x) (cds y)-k,⟨_,far,rfl,rfl,hf,rfl⟩,?_⟩
 rintro m σ H2 ⟨k,rfl,rfl,hk,rfl⟩
 refine⟨_,rfl,_,rfl,x,rfl,Zcg hx,_,_,rfl,rfl,_,rfl,?_⟩
 refine Za4 (fun d1=>?_) (fun d1=>?_)
 ·have d1':(k:Int)<(x.length:Int):=of_decide_eq_true d1
  refine⟨_,rfl,_,rfl,y,rfl,Zcg hy,_,_,rfl,rfl,_,rfl,?_⟩
  refine Za4 (fun d2=>?_) (fun d2=>?_)
  ·have d2':(k:Int)<(y.length:Int):=of_decide_eq_true d2
   obtain⟨a,ha,ha'⟩:=Zeb (z:=x) (k:=k) (by omega) d1'
   obtain⟨b,hb,hb'⟩:=Zeb (z:=y) (k:=k) (by omega) d2'
   rw[Q7]at ha hb
   refine⟨_,rfl,_,rfl,x,_,a,rfl,rfl,Zcg hx,ha',_,rfl,_,rfl,y,_,b,rfl,rfl,Zcg hy,hb',rfl,_,rfl,?_⟩
   refine Za4 (fun d3=>?_) (fun d3=>?_)
   ·have d3':a=b:=by
     have:=of_decide_eq_true d3
     injection this with e
     injection e with e
     simpa using e
    subst d3'
    have:=Zmd _ _ k hk a ha hb
    refine⟨fun σ' H'=>σ'=[some (.str x),some (.str y),some (.int far),some (.int ((k+1:Nat):Int))]∧H'=H2,fun σ' H' ⟨e1,e2⟩=>⟨_,?_,k+1,e1,e2,this,rfl⟩,?_⟩
    ·omega
    ·exact⟨_,rfl,_,_,rfl,rfl,rfl,rfl⟩
   ·refine⟨_,rfl,?_⟩
    have e:=Zha _ _ k hk (.inr (.inr ⟨a,b,ha,hb,fun e=>d3 (by subst e;exact decide_eq_true rfl)⟩))
    rw[e]at q
    exact q
  ·refine Zdk ⟨_,rfl,?_⟩
   have d2':¬ (k:Int)<(y.length:Int):=of_decide_eq_false (Bool.eq_false_iff.mpr d2)
   have e:=Zha _ _ k hk (.inr (.inl (by omega)))
   rw[e]at q
   exact q
 ·refine Zdk ⟨_,rfl,?_⟩
  have d1':¬ (k:Int)<(x.length:Int):=of_decide_eq_false (Bool.eq_false_iff.mpr d1)
  have e:=Zha _ _ k hk (.inl (by omega))
  rw[e]at q
  exact q
theorem ZmB(T:Zaj K mg cRow cMerge)(f_alike_from:Df P w K mg base 1 "alike_from" ["one", "other", "far"] Zcd):Df P w K mg base 2 "alike" ["one", "other"] Ze8:=by
 refine T.t_alike.df ZmP (fun vs H Q E h=>?_) (fun cdv f A outer s H vs Q E hr h=>?_)
 ·obtain⟨x,y,rfl,_⟩:=h
  rfl
 obtain⟨x,y,rfl,hx,hy,q⟩:=h
 refine⟨_,#[Zj,#[Zp,#[ZA,f_alike_from,hr,#[Za,‹0›,#[Za,‹1›,#[Za,#[Zh],#[Ze]]]],(by rfl)]]],?_⟩
 exact⟨_,rfl,_,rfl,x,y,0,rfl,hx,hy,Qv _,q⟩
theorem Zfn{c A B:Prop}[Decidable c](hc:c)(h:A):if decide c=true then A else B:=by
 rw[if_pos (decide_eq_true hc)]
 exact h
theorem ZdY{c A B:Prop}[Decidable c](hc:¬ c)(h:B):if decide c=true then A else B:=by
 rw[if_neg (by rw[decide_eq_false hc];exact Qt)]
 exact h
theorem ZaC.new{H:Hp}{p l:Addr}{c:Int}{o:HO}(h:ZaC H p c)(n:H l=none):ZaC (upd H l o) p c:=by
 obtain⟨a,b,hp,c0⟩:=h
 exact⟨a,b,by rw[Zd (Zb hp n)];exact hp,c0⟩
theorem ZaC.ge{H:Hp}{p:Addr}{c:Int}(h:ZaC H p c):0≤c:=by obtain⟨a,b,hp,c0⟩:=h;exact c0
theorem ZaC.here{H:Hp}{p:Addr}{c:Int}(h:ZaC H p c):∃o,H p=some o:=by obtain⟨a,b,hp,c0⟩:=h;exact⟨_,hp⟩
theorem ZaC.at{H:Hp}{p l:Addr}{c:Int}{o:HO}(h:ZaC H p c)(n:p≠l):ZaC (upd H l o) p c:=by
 obtain⟨a,b,hp,c0⟩:=h
 exact⟨a,b,by rw[Zd n];exact hp,c0⟩
theorem ZhM:∀ss:List Str,(∀s∈ss,AZ s)→PyData.canLayAll0 (ss.map PyData.str)=true
 | [],_=>rfl
 | x::r,h=>by simp[PyData.canLayAll0,PyData.canLay0,(h x (by simp)).ok,ZhM r fun s hs=>h s (List.mem_cons_of_mem _ hs)]
theorem ZfP:∀ss:List Str,PyData.depthAll (ss.map PyData.str)=0
 | []=>rfl
 | _::r=>by simp[PyData.depthAll,PyData.depth,ZfP r]
theorem Zh4(ss:List Str)(h:∀s∈ss,AZ s):SeqAt.shaped (.list (ss.map PyData.str))=true:=by simp[SeqAt.shaped,PyData.canLay0,PyData.depth,ZhM ss h,ZfP]
theorem Zjd{K:PySem.W.Frag}{H:Hp}:∀ss:List Str,DVs K H (ss.map V.str) (ss.map PyData.str)
 | []=>.nil
 | s::r=>.cons (.str s) (Zjd r)
def spKeys:Sp:=fun vs H Q _=>∃ (p l:Addr) (c most:Int) (ss:List Str),vs=[.ref p,.ref l,.int most]∧ZaC H p c∧c<2 ^ 40∧0≤most∧most≤60∧H l=some (.lst (ss.map V.str))∧1≤ss.length∧ss.length≤4∧(∀s∈ss,s.length≤24∧AZ s) ∧
 ∀ (r:Addr) (ts:List Str) (c':Int) (H':Hp),H r=none→H' r=some (.lst (ts.map V.str))→(ts.length:Int)≤most→(∀s∈ts,s.length≤28∧AZ s)→ZaC H' p c'→c≤c'→c'≤c+600→But p H H'→Q (.ref r) H'
def ZcK(ss:List Str)(i:Nat):Int:=if i=0 then 0 else (lcp (cds (ss.getD (i-1) "")) (cds (ss.getD i "")):Nat)
def Zfl(K:PySem.W.Frag):Sp:=fun vs H Q _=>∃ (a:Addr) (ss:List Str),vs=[.ref a]∧SqL K H a (ss.map V.str)∧ss.length≤100∧(∀s∈ss,s.length≤1000) ∧
 ∀ (r:Addr) (H':Hp),H r=none→H' r=some (.lst ((List.range ss.length).map fun j=>.int (ZcK ss j)))→Zu H H'→Q (.ref r) H'
theorem ZkO(T:Zaj K mg cRow cMerge)(f_alike:Df P w K mg base 2 "alike" ["one", "other"] Ze8):Df P w K mg base 3 "alikes" ["row"] (Zfl K):=by
 refine T.t_alikes.df ZdN (fun vs H Q E h=>?_) (fun cdv f A outer s H vs Q E hr h=>?_)
 ·obtain⟨a,ss,rfl,_⟩:=h
  rfl
 obtain⟨a,ss,rfl,hS,hn,hlen,q⟩:=h
 refine⟨_,#[Zf,#[Zw,1,ZdN.nd,(Or.inl rfl),#[Za9,#[Ze]]],#[Zf,#[Zb8,PassesOwn.never,(@iE _ K _ _ _ _ _ _ _ T.b.n_enumerate #[Za,‹0›,#[Ze]] (by rfl) (by rfl) (by rfl)),#[gT,K,2,#[Zv,#[Zx,2,ZdN.nd],#[Zv,#[Zx,3,ZdN.nd],(@ZaL _)]]],#[Zj,#[ZaU,#[Zdq,QJ,QO,QP,ZaR,‹1›,#[Za,#[Zbb,#[Zn,Zbn,‹2›,#[Zh],(Zt _)],#[Zh],#[ZA,f_alike,hr,#[Za,#[Zz,(ixL K),‹0›,#[ZG,ZcT,‹2›,#[Zh]]],#[Za,‹3›,#[Ze]]],(by rfl)]],#[Ze]]]]]],#[Zj,#[Zp,‹1›]]]],?_⟩
 refine⟨(by show 0≤sizeLine;decide),fun r hr0=>?_⟩
 have s1:Zu H (upd H r (.lst [])):=Zi hr0 _
 refine⟨_,rfl,a,ss.map V.str,rfl,s1.seq hS,?_⟩
 refine Zii (K:=K) (a:=a) (xs:=ss.map V.str) (fun i σ H2=>(∃v1 v2:Option V,σ=[some (.ref a),some (.ref r),v1,v2])∧H2 r=some (.lst ((List.range i).map fun j=>.int (ZcK ss j)))∧Zu H H2∧i≤ss.length) ⟨⟨none,none,rfl⟩,Zc,s1,Qv _⟩ (fun _ _ _ hq=>by obtain⟨_,_,s2,_⟩:=hq;exact s2.seq hS) ?_ ?_
 ·rintro i x σ H2 p hx ⟨⟨v1,v2,rfl⟩,hr2,s2,hi⟩ hp
  rw[Qk]at hx
  cases hy:ss[i]? with
  | none=>rw[hy]at hx;cases hx
  | some y =>
   rw[hy]at hx
   cases hx
   have hil:i<ss.length:=(Qd.mp hy).1
   have npr:r≠p:=Zb hr2 hp
   have s3:Zu H (upd H2 p (.tup [.int i,.str y])):=s2.trans (Zi hp _)
   have hr3:(upd H2 p (.tup [.int i,.str y])) r=some (.lst ((List.range i).map fun j=>.int (ZcK ss j))):=by rw[Zd npr];exact hr2
   have hlt:((List.range i).map fun j=>V.int (ZcK ss j)).length<sizeLine:=by rw[Qa,Qar];exact ZJ (by omega)
   have fin:∀z:Int,z=ZcK ss i→(∃v1 v2:Option V,[some (V.ref a),some (V.ref r),some (V.int i),some (V.str y)]=[some (.ref a),some (.ref r),v1,v2]) ∧
     (upd (upd H2 p (.tup [.int i,.str y])) r (.lst (((List.range i).map fun j=>.int (ZcK ss j))++[.int z]))) r=some (.lst ((List.range (i+1)).map fun j=>.int (ZcK ss j))) ∧
     Zu H (upd (upd H2 p (.tup [.int i,.str y])) r (.lst (((List.range i).map fun j=>.int (ZcK ss j))++[.int z])))∧i+1≤ss.length:=fun z e=>by
    refine⟨⟨_,_,rfl⟩,?_,fun b o h=>?_,hil⟩
    ·rw[Zc,QaB,Qg,e];rfl
    ·rw[Zd (Zb h hr0)];exact s3 b o h
   refine⟨p,_,rfl,SqT.of Zc,rfl,_,_,rfl,_,_,rfl,rfl,?_⟩
   refine⟨_,rfl,.inl ⟨rfl,_,SqL.of hr3⟩,_,rfl,rfl,_,rfl,?_⟩
   by_cases e0:i=0
   ·subst e0
    exact Zfn rfl ⟨r,_,_,rfl,rfl,hr3,hlt,fin 0 rfl⟩
   ·have hprev:i-1<ss.length:=by omega
    have ei:((i:Int)-1)=((i-1:Nat):Int):=by omega
    have hat:atI (ss.map V.str) ((i:Int)-1)=some (.str ss[i-1]):=by rw[ei];exact Z6 (by rw[Qk,Qb hprev]<;>rfl)
    refine ZdY (fun z=>by injection z with z;omega) ⟨_,rfl,_,rfl,_,_,rfl,rfl,a,_,_,_,rfl,rfl,s3.seq hS,hat,_,rfl,ss[i-1],y,rfl,hlen _ (Q0 hprev),hlen _ (Qr hy),r,_,_,rfl,rfl,hr3,hlt,fin _ ?_⟩
    unfold ZcK
    rw[if_neg e0,Qi,Qi,Qb hprev,hy]
    rfl
 ·rintro σ H2 ⟨⟨v1,v2,rfl⟩,hr2,s2,hi⟩
  rw[Qa]at hr2
  exact⟨_,rfl,q r H2 hr0 hr2 s2⟩
def ZE:List Nat→List Nat→Int
 | [],[]=>0
 | [],_::_ =>-1
 | _::_,[]=>1
 | a::r,b::s=>if a=b then ZE r s else if a<b then -1 else 1
theorem Zgj:∀ (x y:List Nat),Spec.ltCps y x=false→ZE x y≤0
 | [],[],_=>by unfold ZE;omega
 | [],_::_,_=>by unfold ZE;omega
 | _::_,[],h=>by unfold Spec.ltCps at h;cases h
 | a::r,b::s,h=>by
  have ih:=Zgj r s
  unfold Spec.ltCps at h
  unfold ZE
  rw[Bool.or_eq_false_iff,Bool.and_eq_false_iff]at h
  obtain⟨h1,h2⟩:=h
  have h1':¬ b<a:=of_decide_eq_false h1
  by_cases e:a=b
  ·rw[if_pos e]
   rcases h2 with z|z
   ·rw[e]at z;simp at z
   ·exact ih z
  ·rw[if_neg e,if_pos (by omega)]
   omega
theorem Zbz:∀ (x y z:List Nat),ZE x y≤0→ZE y z≤0→ZE x z≤0
 | [],_,[],_,_=>by unfold ZE;omega
 | [],_,_::_,_,_=>by unfold ZE;omega
 | _::_,[],_,h,_=>by unfold ZE at h;omega
 | _::_,_::_,[],_,h=>by unfold ZE at h;omega
 | a::r,b::s,c::t,h1,h2=>by
  unfold ZE at h1 h2 ⊢
  have ih:=Zbz r s t
  by_cases e1:a=b
  ·rw[if_pos e1]at h1
   by_cases e2:b=c
   ·rw[if_pos e2]at h2
    rw[if_pos (e1.trans e2)]
    exact ih h1 h2
   ·rw[if_neg e2]at h2
    rw[if_neg (fun e=>e2 (e1.symm.trans e))]
    split at h2
    ·rw[if_pos (by omega)];omega
    ·omega
  ·rw[if_neg e1]at h1
   split at h1
   ·by_cases e2:b=c
    ·rw[if_neg (fun e=>e1 (e.trans e2.symm)),if_pos (by omega)];omega
    ·rw[if_neg e2]at h2
     split at h2
     ·rw[if_neg (by omega),if_pos (by omega)];omega
     ·omega
   ·omega
theorem Zgl:∀ (ss:List Str) (p:Str),risingS p ss=true→∀ (k:Nat) (x y:Str),(p::ss)[k]? = some x→ss[k]? = some y→ZE (cds x) (cds y)≤0
 | [],p,_,k,x,y,_,h=>by simp at h
 | z::r,p,h,0,x,y,h1,h2=>by
  unfold risingS at h
  rw[Qav]at h
  simp at h1 h2
  subst h1 h2
  exact Zgj _ _ (by simpa using h.1)
 | z::r,p,h,k+1,x,y,h1,h2=>by
  unfold risingS at h
  rw[Qav]at h
  exact Zgl r z h.2 k x y (by simpa using h1) (by simpa using h2)
theorem ZgM{ss:List Str}(h:sortedS ss=true)(k:Nat)(x y:Str)(h1:ss[k]? = some x)(h2:ss[k+1]? = some y):ZE (cds x) (cds y)≤0:=by
 cases ss with
 | nil=>simp at h1
 | cons p r=>exact Zgl r p h k x y h1 (by simpa using h2)
theorem ZjK{ss:List Str}{k:Nat}(h:k<ss.length):atI (ss.map V.str) (k:Int)=some (.str ss[k]):=Z6 (by rw[Qk,Qb h]<;>rfl)
theorem Zlz(xs:List V)(i j:Nat)(h:i≤xs.length)(h2:j≤xs.length):Zc9 xs (some i) (some j)=(xs.drop i).take (j-i):=by
 have e:∀ (k d:Nat),k≤xs.length→HT.sIx xs.length d (some (k:Int))=k:=fun k d hk=>by
  unfold HT.sIx
  simp only[]
  rw[if_neg (by omega)]
  omega
 unfold Zc9
 rw[e i _ h,e j _ h2]
def lawInv(H:Hp)(a p:Addr)(j:Nat)(σ:L2.St)(H4:Hp):Prop:=∃ (u1 u3 u4 u5 u6 u7 u8 u9:Option V) (c:Int),σ=[some (.ref a),u1,some (.ref p),u3,u4,u5,u6,u7,u8,u9]∧Zu H H4∧ZaC H4 p c∧c≤700*j
theorem ZaC.same{H H':Hp}{p:Addr}{c:Int}(h:ZaC H p c)(s:Zu H H'):ZaC H' p c:=by obtain⟨b1,b2,hb,c0⟩:=h;exact⟨b1,b2,s _ _ hb,c0⟩
def mid(ns:List Int):Nat:=(ns.length+1) / 2
def ZdR(ns:List Int):List Int:=ns.take (mid ns)
def Zf0(ns:List Int):List Int:=ns.drop (mid ns)
theorem ZnL(ns:List Int):((((ns.map V.int).length:Nat):Int)+1) / 2=((mid ns:Nat):Int):=by
 rw[Qa];unfold mid;omega
theorem Zjj{ns:List Int}{k:Int}(h0:0≤k)(h:k<(ns.length:Int)):∃v∈ns,atI (ns.map V.int) k=some (.int v):=by
 have hk:k.toNat<ns.length:=by omega
 have ek:k=((k.toNat:Nat):Int):=by omega
 have q:atI (ns.map V.int) ((k.toNat:Nat):Int)=some (.int ns[k.toNat]):=Z6 (by rw[Qk,Qb hk]<;>rfl)
 rw[← ek]at q
 exact⟨_,Q0 hk,q⟩
theorem Zpm(ns:List Int)(m:Nat)(h:m≤ns.length):Zc9 (ns.map V.int) none (some (m:Int))=(ns.take m).map V.int:=by
 unfold Zc9
 have e:HT.sIx (ns.map V.int).length (ns.map V.int).length (some (m:Int))=m:=by
  unfold HT.sIx
  simp only[List.length_map]
  rw[if_neg (by omega)]
  omega
 have e0:HT.sIx (ns.map V.int).length 0 none=0:=rfl
 rw[e,e0,List.drop_zero,Nat.sub_zero,QaN]
theorem ZmQ(ns:List Int)(m:Nat)(h:m≤ns.length):Zc9 (ns.map V.int) (some (m:Int)) none=(ns.drop m).map V.int:=by
 unfold Zc9
 have e:HT.sIx (ns.map V.int).length 0 (some (m:Int))=m:=by
  unfold HT.sIx
  simp only[List.length_map]
  rw[if_neg (by omega)]
  omega
 have e0:HT.sIx (ns.map V.int).length (ns.map V.int).length none=(ns.map V.int).length:=rfl
 rw[e,e0,List.map_drop,Qz (by rw[QV,Qa];omega)]
theorem ZjC(z:Str):(cds z).length=z.length:=by simp[Str.length]
theorem ZjB:∀ (x y:List Nat),(lcp x y=x.length→lcp x y=y.length→ZE x y=0)∧(lcp x y=x.length→lcp x y≠y.length→ZE x y = -1)∧(lcp x y≠x.length→lcp x y=y.length→ZE x y=1) ∧
  ∀a b,x[lcp x y]? = some a→y[lcp x y]? = some b→ZE x y=if a<b then -1 else 1
 | [],[]=>⟨fun _ _=>rfl,fun _ h=>absurd rfl h,fun h _=>absurd rfl h,fun a b h _=>by simp at h⟩
 | [],_::_=>⟨fun _ h=>by unfold lcp at h;simp at h,fun _ _=>rfl,fun h _=>absurd rfl h,fun a b h _=>by simp at h⟩
 | _::_,[]=>⟨fun h _=>by unfold lcp at h;simp at h,fun h _=>by unfold lcp at h;simp at h,fun _ _=>rfl,fun a b _ h=>by simp at h⟩
 | a::r,b::s=>by
  obtain⟨h1,h2,h3,h4⟩:=ZjB r s
  unfold lcp ZE
  by_cases e:a=b
  ·rw[if_pos e,if_pos e]
   simp only[List.length_cons,List.getElem?_cons_succ]
   exact⟨fun p q=>h1 (by omega) (by omega),fun p q=>h2 (by omega) (by omega),fun p q=>h3 (by omega) (by omega),h4⟩
  ·rw[if_neg e,if_neg e]
   simp only[List.length_cons,List.getElem?_cons_zero]
   refine⟨fun p=>by omega,fun p=>by omega,fun _ p=>by omega,fun c d p q=>?_⟩
   cases p;cases q
   rfl
theorem ZaD:∀ (x y:List Nat),ZE y x =-ZE x y
 | [],[]=>rfl
 | [],_::_=>rfl
 | _::_,[]=>rfl
 | a::r,b::s=>by
  have ih:=ZaD r s
  unfold ZE
  by_cases e:a=b
  ·rw[if_pos e,if_pos e.symm,ih]
  ·rw[if_neg e,if_neg fun z=>e z.symm]
   by_cases l:a<b
   ·rw[if_pos l,if_neg (by omega)];rfl
   ·rw[if_neg l,if_pos (by omega)]
theorem ZpZ(a b:Nat):decide ((⟨#[a]⟩:Str).cps.toList<(⟨#[b]⟩:Str).cps.toList)=decide (a<b):=by
 have e:([a]:List Nat)<[b]↔a<b:=by
  constructor
  ·intro h
   cases h with
   | rel h=>exact h
   | cons h=>cases h
  ·exact fun h=>List.Lex.rel h
 exact decide_eq_decide.mpr e
theorem Zcu:∀x:List Nat,ZE x x=0
 | []=>rfl
 | a::r=>by unfold ZE;rw[if_pos rfl];exact Zcu r
theorem Zcn:∀ (x y:List Nat),ZE x y=0→x=y
 | [],[],_=>rfl
 | [],_::_,h=>by unfold ZE at h;omega
 | _::_,[],h=>by unfold ZE at h;omega
 | a::r,b::s,h=>by
  unfold ZE at h
  by_cases e:a=b
  ·rw[if_pos e]at h
   rw[e,Zcn r s h]
  ·rw[if_neg e]at h
   split at h<;>omega
def Ze6:Sp:=fun vs H Q _=>∃x y:Str,vs=[.str x,.str y]∧x.length≤1000∧y.length≤1000∧Q (.int (ZE (cds x) (cds y))) H
def Zfd:Sp:=fun vs H Q _=>∃x y:Str,vs=[.str x,.str y,.int (lcp (cds x) (cds y):Nat)]∧x.length≤1000∧y.length≤1000∧Q (.int (ZE (cds x) (cds y))) H
theorem Zm5(T:Zaj K mg cRow cMerge):Df P w K mg base 1 "order_at" ["one", "other", "at"] Zfd:=by
 refine T.t_order_at.df Zil (fun vs H Q E h=>?_) (fun cdv f A outer s H vs Q E hr h=>?_)
 ·obtain⟨x,y,rfl,_⟩:=h
  rfl
 obtain⟨x,y,rfl,hx,hy,q⟩:=h
 refine⟨_,#[Zf,#[Zae,(@PW.pt _ _ _ #[Zdo,#[Zn,Zbn,‹2›,#[Zk,Za5,(by rfl),T.b.n_len,Qu,#[Za,‹0›,#[Ze]]],(Zt _)],(@ZdE _ _ _ _ #[Zn,Zbn,‹2›,#[Zk,Za5,(by rfl),T.b.n_len,Qu,#[Za,‹1›,#[Ze]]],(Zt _)])]),#[Zj,#[Zp,#[Zh]]],#[ZF]],#[Zf,#[Zae,#[Zn,Zbn,‹2›,#[Zk,Za5,(by rfl),T.b.n_len,Qu,#[Za,‹0›,#[Ze]]],(Zt _)],#[Zj,#[Zp,(@ZhV _ _ _ _ _ _ Zfm #[Zh])]],#[ZF]],#[Zf,#[Zae,#[Zn,Zbn,‹2›,#[Zk,Za5,(by rfl),T.b.n_len,Qu,#[Za,‹1›,#[Ze]]],(Zt _)],#[Zj,#[Zp,#[Zh]]],#[ZF]],#[Zj,#[Zp,#[Zbb,#[Zn,Zk1,#[Zz,Zfz,‹0›,‹2›],#[Zz,Zfz,‹1›,‹2›],(Zt _)],(@ZhV _ _ _ _ _ _ Zfm #[Zh]),#[Zh]]]]]]],?_⟩
 obtain⟨o1,o2,o3,o4⟩:=ZjB (cds x) (cds y)
 have ll:=ZfQ (cds x) (cds y)
 have lx:=ZjC x
 have ly:=ZjC y
 have inj:∀ {m n:Nat},V.int (m:Int)=V.int (n:Int)→m=n:=fun {m n} e=>by injection e with e;omega
 refine⟨_,rfl,_,rfl,x,rfl,Zcg hx,rfl,_,rfl,Za4 (fun d=>?_) (fun d=>?_)⟩
 ·have d1:=inj (of_decide_eq_true d)
  refine⟨_,rfl,_,rfl,y,rfl,Zcg hy,rfl,_,rfl,Za4 (fun d2=>?_) (fun d2=>?_)⟩
  ·have d2':=inj (of_decide_eq_true d2)
   rw[o1 (by omega) (by omega)]at q
   exact q
  ·have d2':¬ lcp (cds x) (cds y)=y.length:=fun e=>d2 (by rw[e];exact decide_eq_true rfl)
   refine⟨_,rfl,_,rfl,x,rfl,Zcg hx,rfl,_,rfl,Zfn (by rw[d1]) ?_⟩
   rw[o2 (by omega) (by omega)]at q
   exact⟨_,rfl,q⟩
 ·have d1:¬ lcp (cds x) (cds y)=x.length:=fun e=>d (by rw[e];exact decide_eq_true rfl)
  refine Zdk ⟨_,rfl,_,rfl,x,rfl,Zcg hx,rfl,_,rfl,ZdY (fun e=>d1 (inj e)) ?_⟩
  refine⟨_,rfl,_,rfl,y,rfl,Zcg hy,rfl,_,rfl,Za4 (fun d2=>?_) (fun d2=>?_)⟩
  ·have d2':=inj (of_decide_eq_true d2)
   rw[o3 (by omega) (by omega)]at q
   exact q
  ·have d2':¬ lcp (cds x) (cds y)=y.length:=fun e=>d2 (by rw[e];exact decide_eq_true rfl)
   obtain⟨a,ha,ha'⟩:=Zeb (z:=x) (k:=(lcp (cds x) (cds y):Nat)) (by omega) (by omega)
   obtain⟨b,hb,hb'⟩:=Zeb (z:=y) (k:=(lcp (cds x) (cds y):Nat)) (by omega) (by omega)
   rw[Q7]at ha hb
   refine⟨_,rfl,_,rfl,x,_,a,rfl,rfl,Zcg hx,ha',_,rfl,_,rfl,y,_,b,rfl,rfl,Zcg hy,hb',_,_,rfl,rfl,_,rfl,?_⟩
   rw[ZpZ]
   rw[o4 a b ha hb]at q
   refine Za4 (fun e=>?_) (fun e=>?_)
   ·rw[if_pos (of_decide_eq_true e)]at q
    exact⟨_,rfl,q⟩
   ·rw[if_neg (fun z=>e (decide_eq_true z))]at q
    exact q
theorem ZmR(T:Zaj K mg cRow cMerge)(f_alike:Df P w K mg base 2 "alike" ["one", "other"] Ze8)(f_order_at:Df P w K mg base 1 "order_at" ["one", "other", "at"] Zfd):Df P w K mg base 3 "liken" ["one", "other"] Ze6:=by
 refine T.t_liken.df ZlJ (fun vs H Q E h=>?_) (fun cdv f A outer s H vs Q E hr h=>?_)
 ·obtain⟨x,y,rfl,_⟩:=h
  rfl
 obtain⟨x,y,rfl,hx,hy,q⟩:=h
 refine⟨_,#[Zj,#[Zp,#[ZA,f_order_at,hr,#[Za,‹0›,#[Za,‹1›,#[Za,#[ZA,f_alike,hr,#[Za,‹0›,#[Za,‹1›,#[Ze]]],(by rfl)],#[Ze]]]],(by rfl)]]],?_⟩
 exact⟨_,rfl,_,rfl,_,rfl,_,rfl,x,y,rfl,hx,hy,x,y,rfl,hx,hy,q⟩
theorem Zff{p:Addr}{H H1:Hp}{l:Addr}(B:But p H H1)(n:p≠l)(h:H1 l=none):H l=none:=by
 cases w':H l with
 | none=>rfl
 | some u=>rw[B l u w' n.symm]at h;cases h
theorem ZoR{c A B:Prop}[Decidable c](hc:¬ c)(h:A):if (!decide c)=true then A else B:=by
 rw[if_pos (by rw[decide_eq_false hc];rfl)]
 exact h
def Zdr:Sp:=fun vs H Q _=>∃ (x y:Str) (far:Nat),vs=[.str x,.str y,.int far]∧x.length≤1000∧y.length≤1000∧far≤lcp (cds x) (cds y) ∧
 ∀t,H t=none→Q (.ref t) (upd H t (.tup [.int (ZE (cds x) (cds y)),.int (lcp (cds x) (cds y):Nat),.int ((lcp (cds x) (cds y):Nat)-(far:Int)+1)]))
theorem ZfZ(T:Zaj K mg cRow cMerge)(f_alike_from:Df P w K mg base 1 "alike_from" ["one", "other", "far"] Zcd)(f_order_at:Df P w K mg base 1 "order_at" ["one", "other", "at"] Zfd):Df P w K mg base 2 "liken_from" ["one", "other", "far"] Zdr:=by
 refine T.t_liken_from.df ZdV (fun vs H Q E h=>?_) (fun cdv f A outer s H vs Q E hr h=>?_)
 ·obtain⟨x,y,far,rfl,_⟩:=h
  rfl
 obtain⟨x,y,far,rfl,hx,hy,hf,q⟩:=h
 refine⟨_,#[Zf,#[Zw,3,ZdV.nd,(Or.inl rfl),#[ZA,f_alike_from,hr,#[Za,‹0›,#[Za,‹1›,#[Za,‹2›,#[Ze]]]],(by rfl)]],#[Zj,#[Zp,#[ZU,#[Za,#[ZA,f_order_at,hr,#[Za,‹0›,#[Za,‹1›,#[Za,‹3›,#[Ze]]]],(by rfl)],#[Za,‹3›,#[Za,#[ZG,Zal,#[ZG,ZcT,‹3›,‹2›],#[Zh]],#[Ze]]]]]]]],?_⟩
 refine⟨_,rfl,_,rfl,_,rfl,x,y,far,rfl,hx,hy,hf,?_⟩
 refine⟨_,rfl,_,rfl,_,rfl,x,y,rfl,hx,hy,?_⟩
 refine⟨_,rfl,_,rfl,_,rfl,_,_,rfl,rfl,_,_,rfl,rfl,(by show 3≤sizeLine;decide),fun t ht=>?_⟩
 exact q t ht
def Zid(ss:List Str)(v:V):Prop :=
 (v=.non∧∀i x y,ss[i+1]? = some x→ss[i]? = some y→0≤ZE (cds x) (cds y)) ∨
 ∃k:Nat,v=.int ((k+1:Nat):Int)∧k+1<ss.length∧(∀x y,ss[k+1]? = some x→ss[k]? = some y→ZE (cds x) (cds y)<0)∧∀i,i<k→∀x y,ss[i+1]? = some x→ss[i]? = some y→0≤ZE (cds x) (cds y)
theorem ZnR{ss:List Str}{v v':V}(h:Zid ss v)(h':Zid ss v'):v=v':=by
 rcases h with⟨rfl,a⟩|⟨k,rfl,l,b,c⟩
 ·rcases h' with⟨rfl,_⟩|⟨k',rfl,l',b',_⟩
  ·rfl
  ·have:=a k' _ _ (Qb l') (Qb (by omega))
   have:=b' _ _ (Qb l') (Qb (by omega))
   omega
 ·rcases h' with⟨rfl,a⟩|⟨k',rfl,l',b',c'⟩
  ·have:=a k _ _ (Qb l) (Qb (by omega))
   have:=b _ _ (Qb l) (Qb (by omega))
   omega
  ·have e:k=k':=by
    rcases Nat.lt_trichotomy k k' with h|h|h
    ·have:=c' k h _ _ (Qb l) (Qb (by omega))
     have:=b _ _ (Qb l) (Qb (by omega))
     omega
    ·exact h
    ·have:=c k' h _ _ (Qb l') (Qb (by omega))
     have:=b' _ _ (Qb l') (Qb (by omega))
     omega
   rw[e]
def Zlv(K:PySem.W.Frag):Sp:=fun vs H Q _=>∃ (a:Addr) (ss:List Str),vs=[.ref a]∧SqL K H a (ss.map V.str)∧ss.length≤200∧(∀s∈ss,s.length≤1000)∧∀ (v:V) (H':Hp),Zid ss v→Zu H H'→Q v H'
theorem ZlH(T:Zaj K mg cRow cMerge)(f_liken:Df P w K mg base 3 "liken" ["one", "other"] Ze6):Df P w K mg base 4 "first_break" ["keys"] (Zlv K):=by
 refine T.t_first_break.df Zdh (fun vs H Q E h=>?_) (fun cdv f A outer s H vs Q E hr h=>?_)
 ·obtain⟨a,ss,rfl,_⟩:=h
  rfl
 obtain⟨a,ss,rfl,hS,hn,hlen,q⟩:=h
 refine⟨_,#[Zf,#[Zb8,PassesOwn.never,#[ZdP,T.b.n_range,#[Za,#[Zh],#[Za,#[Zk,(ZbH K),(by rfl),T.b.n_len,Qu,#[Za,‹0›,#[Ze]]],#[Ze]]]],#[Zx,1,Zdh.nd],#[Zj,#[Zae,#[Zn,ZdU,#[ZA,f_liken,hr,#[Za,#[Zz,(ixL K),‹0›,‹1›],#[Za,#[Zz,(ixL K),‹0›,#[ZG,ZcT,‹1›,#[Zh]]],#[Ze]]],(by rfl)],#[Zh],(Zt _)],#[Zj,#[Zp,‹1›]],#[ZF]]]],#[Zj,#[Zp,#[ZaA]]]],?_⟩
 have hl:(((ss.map V.str).length:Nat):Int)=(ss.length:Int):=by rw[Qa]
 refine⟨_,rfl,a,_,rfl,.inl hS,_,_,rfl,⟨by omega,by omega,by omega,by omega⟩,?_⟩
 refine ZbW (fun i σ H2=>(∃v:Option V,σ=[some (.ref a),v])∧Zu H H2∧∀j,j<i→∀x y,ss[j+1]? = some x→ss[j]? = some y→0≤ZE (cds x) (cds y)) ⟨⟨none,rfl⟩,Zu.refl H,fun j h=>by omega⟩ ?_ ?_
 ·rintro i σ H2 hi ⟨⟨v,rfl⟩,s2,h2⟩
  have hi1:i+1<ss.length:=by omega
  have e1:(1+(i:Int))=((i+1:Nat):Int):=by omega
  have e0:(1+(i:Int)-1)=((i:Nat):Int):=by omega
  refine⟨_,rfl,_,rfl,a,_,_,_,rfl,rfl,s2.seq hS,(by rw[e1];exact ZjK hi1),_,rfl,_,rfl,_,_,rfl,rfl,a,_,_,_,rfl,rfl,s2.seq hS,(by rw[e0];exact ZjK (by omega)),ss[i+1],ss[i],rfl,hlen _ (Q0 hi1),hlen _ (Q0 (by omega)),_,_,rfl,rfl,_,rfl,?_⟩
  refine Za4 (fun d=>?_) (fun d=>?_)
  ·have d':ZE (cds ss[i+1]) (cds ss[i])<0:=of_decide_eq_true d
   refine⟨_,rfl,q _ H2 (.inr ⟨i,by rw[e1],hi1,fun x y h1 h0=>?_,h2⟩) s2⟩
   rw[Qb hi1]at h1
   rw[Qb (by omega)]at h0
   cases h1;cases h0
   omega
  ·have d':¬ ZE (cds ss[i+1]) (cds ss[i])<0:=fun z=>d (decide_eq_true z)
   refine⟨⟨_,rfl⟩,s2,fun j hj x y h1 h0=>?_⟩
   by_cases ej:j=i
   ·subst ej
    rw[Qb hi1]at h1
    rw[Qb (by omega)]at h0
    cases h1;cases h0
    omega
   ·exact h2 j (by omega) x y h1 h0
 ·rintro σ H2 ⟨⟨v,rfl⟩,s2,h2⟩
  refine q _ H2 (.inl ⟨rfl,fun j x y h1 h0=>?_⟩) s2
  have:=(Qd.mp h1).1
  exact h2 j (by omega) x y h1 h0
def Zeo(K:PySem.W.Frag)(tup:Bool):Sp:=fun vs H Q _=>∃ (a:Addr) (ns:List Int),vs=[.ref a]∧SqL K H a (ns.map V.int)∧ns.length≤100 ∧
 ∀ (t f r:Addr) (H':Hp),H t=none→H f=none→H r=none→f≠r→H' t=some (if tup=true then .tup [.ref f,.ref r] else .lst [.ref f,.ref r])→H' f=some (.lst ((ZdR ns).map V.int))→H' r=some (.lst ((Zf0 ns).map V.int))→Zu H H'→t≠f→t≠r→Q (.ref t) H'
theorem Zlp{H:Hp}{f r t:Addr}{A B T:HO}(hf:H f=none)(hr:(upd H f A) r=none)(ht:(upd (upd H f A) r B) t=none) :
  H r=none∧H t=none∧f≠r∧t≠f∧t≠r∧(upd (upd (upd H f A) r B) t T) f=some A∧(upd (upd (upd H f A) r B) t T) r=some B∧Zu H (upd (upd (upd H f A) r B) t T):=by
 have n1:f≠r:=Zb (H:=upd H f A) (o:=A) Zc hr
 have e1:(upd (upd H f A) r B) f=some A:=by rw[Zd n1];exact Zc
 have n2:f≠t:=Zb e1 ht
 have n3:r≠t:=Zb (H:=upd (upd H f A) r B) (o:=B) Zc ht
 have s1:Zu H (upd H f A):=Zi hf _
 have s2:=s1.trans (Zi hr B)
 have s3:=s2.trans (Zi ht T)
 exact⟨s1.free hr,s2.free ht,n1,n2.symm,n3.symm,by rw[Zd n2];exact e1,by rw[Zd n3];exact Zc,s3⟩
theorem ZkN(T:Zaj K mg cRow cMerge):Df P w K mg base 1 "halves" ["numbers"] (Zeo K true):=by
 refine T.t_halves.df Zgn (fun vs H Q E h=>?_) (fun cdv f A outer s H vs Q E hr h=>?_)
 ·obtain⟨a,ns,rfl,_⟩:=h
  rfl
 obtain⟨a,ns,rfl,hS,hn,q⟩:=h
 refine⟨_,#[Zf,#[Zw,1,Zgn.nd,(Or.inl rfl),#[ZG,Zfa,#[ZG,Zal,#[Zk,(ZbH K),(by rfl),T.b.n_len,Qu,#[Za,‹0›,#[Ze]]],#[Zh]],#[Zh]]],#[Zj,#[Zp,#[ZU,#[Za,#[ZcB,(slL K),‹0›,(@Zc3 _),(@Zcb _ _ _ ‹1›)],#[Za,#[ZcB,(slL K),‹0›,(@Zcb _ _ _ ‹1›),(@Zc3 _)],#[Ze]]]]]]],?_⟩
 refine⟨_,rfl,a,_,rfl,.inl hS,_,_,rfl,rfl,_,_,rfl,rfl,⟨by decide,by decide⟩,?_⟩
 have hm:mid ns≤ns.length∨ns=[]:=by
  cases ns with
  | nil=>exact .inr rfl
  | cons x r=>left;unfold mid;rw[QE];omega
 have hml:mid ns≤ns.length:=by
  rcases hm with h|h
  ·exact h
  ·subst h;decide
 have em:=ZnL ns
 simp only[em]
 refine⟨_,rfl,_,rfl,_,rfl,a,_,rfl,hS,fun l hl=>?_⟩
 refine⟨_,rfl,_,rfl,_,rfl,a,_,rfl,(Zi hl _).seq hS,fun r hr0=>⟨(by show 2≤sizeLine;decide),fun t ht=>?_⟩⟩
 rw[Zpm ns _ hml]at hr0 ht ⊢
 rw[ZmQ ns _ hml]at ht ⊢
 obtain⟨z1,z2,z3,z4,z5,z6,z7,z8⟩:=Zlp (T:=.tup [.ref l,.ref r]) hl hr0 ht
 exact q t l r _ z2 hl z1 z3 Zc z6 z7 z8 z4 z5
def spMany:Sp:=fun vs H Q _=>∃ (p:Addr) (c:Int),vs=[.ref p]∧ZaC H p c∧c<2 ^ 50∧∀ (v c':Int) (H':Hp),0≤v→v≤12→ZaC H' p c'→c≤c'→c'≤c+3→But p H H'→Q (.int v) H'
theorem ZbE(f:Str)(v:V):∀fs:List (Str×V),(Zo f v fs).length≤fs.length+1
 | []=>Qh _
 | p::r=>by
  unfold Zo
  split
  ·exact QaD _
  ·exact Nat.succ_le_succ (ZbE f v r)
def ZcH(k f:Addr)(g:Int):List (Str×V):=Zo "gone" (.int g) (Zo "fars" (.ref f) (Zo "all_keys" (.ref k) []))
theorem nGF:¬ (("fars" : Str) = "gone"):=by ac_rfl
theorem nGK:¬ (("all_keys" : Str) = "gone"):=by ac_rfl
theorem nFK:¬ (("all_keys" : Str) = "fars"):=by ac_rfl
theorem ZeI(k f:Addr)(g:Int):(ZcH k f g).lookup ("all_keys" : Str)=some (.ref k):=by
 unfold ZcH
 rw[Zl,if_neg nGK,Zl,if_neg nFK,Zl,if_pos rfl]
theorem ZcC(k f:Addr)(g:Int):(ZcH k f g).lookup ("gone" : Str)=some (.int g):=by
 unfold ZcH
 rw[Zl,if_pos rfl]
theorem Zjh(k f:Addr)(g:Int){m:Str}(h1:¬ m = "gone")(h2:¬ m = "fars")(h3:¬ m = "all_keys"):(ZcH k f g).lookup m=none:=by
 unfold ZcH
 rw[Zl,if_neg h1,Zl,if_neg h2,Zl,if_neg h3]
 rfl
structure ZjE (C:Addr) (H:Hp) (p k f:Addr) (ss:List Str) (g:Nat):Prop where
 ob:∃dx,H p=some (.ins C dx (ZcH k f g))
 ks:H k=some (.lst (ss.map V.str))
 fs:H f=some (.lst ((List.range ss.length).map fun j=>.int (ZcK ss j)))
def Zl4(C:Addr):Sp:=fun vs H Q _=>∃ (p k f:Addr) (ss:List Str) (g:Nat),vs=[.ref p]∧ZjE C H p k f ss g∧Q (.int ((ss.length:Int)-(g:Int))) H
theorem Znj(T:Zaj K mg cRow cMerge):Mf P w K mg base 1 cRow "to_go" ["self"] (Zl4 cRow):=by
 refine T.t_Row_to_go.mf Zg8 (fun vs H Q E h=>?_) (fun cdv f A outer s H vs Q E hr h=>?_)
 ·obtain⟨p,k,f,ss,g,rfl,_⟩:=h
  rfl
 obtain⟨p,k,f,ss,g,rfl,R,q⟩:=h
 refine⟨_,#[Zj,#[Zp,#[ZG,ZcT,#[Zk,(ZbH K),(by rfl),T.b.n_len,Qu,#[Za,#[Z8,‹0›],#[Ze]]],#[Z8,‹0›]]]],?_⟩
 obtain⟨⟨dx,ho⟩,hk,hf⟩:=R
 refine⟨_,rfl,p,cRow,dx,_,_,rfl,ho,T.cl_Row,T.na_Row_all_keys,ZeI _ _ _,k,_,rfl,.inl (SqL.of hk),_,rfl,p,cRow,dx,_,_,rfl,ho,T.cl_Row,T.na_Row_gone,ZcC _ _ _,_,_,rfl,rfl,?_⟩
 rw[Qa]
 exact q
def Zeq(ss:List Str)(g:Nat):V:=match ss[g]? with
 | some z=>.str z
 | none=>.non
def Zfv(C:Addr):Sp:=fun vs H Q _=>∃ (p k f:Addr) (ss:List Str) (g:Nat),vs=[.ref p]∧ZjE C H p k f ss g∧Q (Zeq ss g) H
theorem Zoo(T:Zaj K mg cRow cMerge)(f_Row_to_go:Mf P w K mg base 1 cRow "to_go" ["self"] (Zl4 cRow)):Mf P w K mg base 2 cRow "head" ["self"] (Zfv cRow):=by
 refine T.t_Row_head.mf Zh1 (fun vs H Q E h=>?_) (fun cdv f A outer s H vs Q E hr h=>?_)
 ·obtain⟨p,k,f,ss,g,rfl,_⟩:=h
  rfl
 obtain⟨p,k,f,ss,g,rfl,R,q⟩:=h
 refine⟨_,#[Zj,#[Zp,#[Zbb,#[Zn,ZeY,#[ZcM,f_Row_to_go,T.cl_Row,hr,‹0›],#[Zh],(Zt _)],#[Zz,(ixL K),#[Z8,‹0›],#[Z8,‹0›]],#[ZaA]]]],?_⟩
 obtain⟨⟨dx,ho⟩,hk,hf⟩:=id R
 refine⟨_,rfl,p,dx,_,rfl,ho,Zjh _ _ _ (by ac_rfl) (by ac_rfl) (by ac_rfl),p,k,f,ss,g,rfl,R,_,_,rfl,rfl,_,rfl,?_⟩
 refine Za4 (fun d=>?_) (fun d=>?_)
 ·have d':(0:Int)<(ss.length:Int)-(g:Int):=of_decide_eq_true d
  have hg:g<ss.length:=by omega
  refine⟨_,rfl,p,cRow,dx,_,_,rfl,ho,T.cl_Row,T.na_Row_all_keys,ZeI _ _ _,_,rfl,p,cRow,dx,_,_,rfl,ho,T.cl_Row,T.na_Row_gone,ZcC _ _ _,k,_,_,_,rfl,rfl,SqL.of hk,Z6 (by rw[Qk,Qb hg]<;>rfl),?_⟩
  unfold Zeq at q
  rw[Qb hg]at q
  exact q
 ·have d':¬ (0:Int)<(ss.length:Int)-(g:Int):=fun z=>d (decide_eq_true z)
  unfold Zeq at q
  rw[QD (by omega)]at q
  exact q
def ZgR(C:Addr):Sp:=fun vs H Q _=>∃ (p dx a:Addr) (ss:List Str),vs=[.ref p,.ref a]∧H p=some (.ins C dx [])∧H a=some (.lst (ss.map V.str))∧ss.length≤100∧(∀s∈ss,s.length≤1000) ∧
 ∀ (k f:Addr) (H':Hp),H k=none→H f=none→k≠f→ZjE C H' p k f ss 0→(∀b o,H b=some o→b≠p→H' b=some o)→Q .non H'
theorem ZiO(T:Zaj K mg cRow cMerge)(f_alikes:Df P w K mg base 3 "alikes" ["row"] (Zfl K)):Cf P w K mg base 4 cRow "Row" ["self", "keys"] (ZgR cRow):=by
 refine T.t_Row_init.cf Zhx (fun vs H Q E h=>?_) (fun cdv f A outer s H vs Q E hr h=>?_)
 ·obtain⟨p,dx,a,ss,rfl,_⟩:=h
  rfl
 obtain⟨p,dx,a,ss,rfl,hp,ha,hn,hz,q⟩:=h
 refine⟨_,#[Zf,#[ZbO,‹0›,#[ZbY,(ZoJ K),T.b.n_list,boot_list,#[Za,‹1›,#[Ze]]]],#[Zf,#[ZbO,‹0›,#[ZA,f_alikes,hr,#[Za,‹1›,#[Ze]],(by rfl)]],#[Zj,#[ZbO,‹0›,#[Zh]]]]],?_⟩
 refine⟨_,rfl,a,_,rfl,.inl (SqL.of ha),fun k hk=>?_⟩
 have npk:p≠k:=Zb hp hk
 have nap:a≠p:=fun e=>by rw[e,hp]at ha;cases ha
 have nak:a≠k:=Zb ha hk
 refine⟨_,rfl,p,cRow,dx,[],rfl,(by rw[Zd npk];exact hp),T.cl_Row,T.na_Row_all_keys,(by show 0<1000;decide),?_⟩
 have ha2:(upd (upd H k (.lst (ss.map V.str))) p (.ins cRow dx (Zo "all_keys" (.ref k) []))) a=some (.lst (ss.map V.str)):=by rw[Zd nap,Zd nak];exact ha
 have hp2:(upd (upd H k (.lst (ss.map V.str))) p (.ins cRow dx (Zo "all_keys" (.ref k) []))) p=some (.ins cRow dx (Zo "all_keys" (.ref k) [])):=Zc
 have hk2:(upd (upd H k (.lst (ss.map V.str))) p (.ins cRow dx (Zo "all_keys" (.ref k) []))) k=some (.lst (ss.map V.str)):=by rw[Zd npk.symm];exact Zc
 have s2:∀b o,H b=some o→b≠p→(upd (upd H k (.lst (ss.map V.str))) p (.ins cRow dx (Zo "all_keys" (.ref k) []))) b=some o:=fun b o h n=>by rw[Zd n,Zd (Zb h hk)];exact h
 refine⟨_,rfl,a,ss,rfl,SqL.of ha2,hn,hz,fun f H3 hf0 hf3 s3=>?_⟩
 have hHf:H f=none:=by
  cases w':H f with
  | none=>rfl
  | some u =>
   by_cases e:f=p
   ·rw[e,hp2]at hf0;cases hf0
   ·rw[s2 f u w' e]at hf0;cases hf0
 have nkf:k≠f:=Zb hk2 hf0
 have npf:p≠f:=Zb hp2 hf0
 refine⟨_,rfl,p,cRow,dx,_,rfl,s3 _ _ hp2,T.cl_Row,T.na_Row_fars,(by show 1<1000;decide),?_⟩
 refine⟨_,rfl,p,cRow,dx,_,rfl,Zc,T.cl_Row,T.na_Row_gone,?_,?_⟩
 ·have h1:=ZbE "all_keys" (V.ref k) []
  have h2:=ZbE "fars" (V.ref f) (Zo "all_keys" (V.ref k) [])
  have h3:([]:List (Str×V)).length=0:=rfl
  omega
 ·refine q k f _ hk hHf nkf ⟨⟨dx,Zc⟩,?_,?_⟩ fun b o h n=>?_
  ·rw[Zd npk.symm,Zd npk.symm];exact s3 _ _ hk2
  ·rw[Zd npf.symm,Zd npf.symm];exact hf3
  ·rw[Zd n,Zd n];exact s3 _ _ (s2 b o h n)
theorem ZbA{K:PySem.W.Frag}{a:Addr}{xs:List V}{k:Nat}{D:Addr}{σ:L2.St}{H1:Hp}{g:TG}{te:TE}{Q:VK}(Pv:Nat→List V→L2.St→Hp→Prop)(h0:Pv 0 [] (σ++List.replicate k none) (upd H1 D (.lst [])))
  (hl:∀i ys σ H,Pv i ys σ H→SqL K H a xs)
  (hs:∀i x ys σ H,xs[i]? = some x→Pv i ys σ H→g x σ H fun σ4 H4=>te σ4 H4 fun y H6=>H6 D=some (.lst ys)∧ys.length<sizeLine∧Pv (i+1) (ys++[y]) σ4 (upd H6 D (.lst (ys++[y]))))
  (hd:∀ys σ H,Pv xs.length ys σ H→Q (.ref D) H):Zhs (Itl K a) D k σ H1 g ZiP te Q:=by
 refine⟨fun i m ys σ H=>m=xs.length-i∧i≤xs.length∧Pv i ys σ H,⟨xs.length,by simp,Qv _,h0⟩,?_⟩
 rintro i m ys σ H ⟨rfl,hi,p⟩
 have q1:=hl i ys σ H p
 by_cases hlt:i<xs.length
 ·refine .inr ⟨⟨xs,xs[i],q1,Qb hlt⟩,Pv (i+1),fun ys' σ' H' p'=>⟨xs.length-(i+1),by omega,rfl,hlt,p'⟩,fun x H' y=>?_⟩
  obtain⟨rfl,e⟩:=y
  simp only[ZiP,↓reduceIte]
  exact hs i x ys σ _ (e xs q1) p
 ·have e:i=xs.length:=by omega
  exact .inl ⟨⟨xs,q1,by omega⟩,hd ys σ H (e ▸ p)⟩
theorem ZbQ:∀x y:List Nat,x<y↔ZE x y<0
 | [],[]=>by unfold ZE;exact⟨fun h=>absurd h (by simp),fun h=>absurd h (by omega)⟩
 | [],_::_=>by unfold ZE;exact⟨fun _=>by omega,fun _=>List.nil_lt_cons _ _⟩
 | _::_,[]=>by unfold ZE;exact⟨fun h=>absurd h (List.not_lt_nil _),fun h=>absurd h (by omega)⟩
 | a::r,b::s=>by
  have ih:=ZbQ r s
  unfold ZE
  rw[List.cons_lt_cons_iff]
  by_cases e:a=b
  ·rw[if_pos e,← ih]
   exact⟨fun h=>h.elim (fun z=>by omega) (fun z=>z.2),fun h=>.inr ⟨e,h⟩⟩
  ·rw[if_neg e]
   by_cases l:a<b
   ·rw[if_pos l];exact⟨fun _=>by omega,fun _=>.inl l⟩
   ·rw[if_neg l];exact⟨fun h=>h.elim (fun z=>absurd z l) (fun z=>absurd z.1 e),fun h=>absurd h (by omega)⟩
theorem ZmF{K:PySem.W.Frag}{H:Hp}{a:Addr}{xs:List V}(h:H a=some (.lst xs)):L2.tyV K "list" (.ref a) H:=.inl ⟨rfl,_,SqL.of h⟩
theorem AtT.mono{H H':Hp}{ts:ZcR}(h:AtT H ts)(s:Zu H H'):AtT H' ts:=fun x hx=>s _ _ (h x hx)
theorem Za3{H:Hp}{D:Addr}{ys:List V}(h:H D=some (.lst ys))(o:HO):∀a xs,H a=some (.tup xs)→(upd H D o) a=some (.tup xs):=fun a xs e=>by
 have nb:a≠D:=by intro z;rw[z,h]at e;cases e
 rw[Zd nb];exact e
abbrev Hd:=Int→Option (List Nat)
def Btr(x:List Nat)(a:Int)(y:List Nat)(b:Int):Prop:=ZE x y<0∨(ZE x y=0∧a<b)
def Win(hd:Hd)(N:List Int):Option Int→Prop
 | none=>∀n∈N,hd n=none
 | some a=>a∈N∧∃x,hd a=some x∧∀b∈N,∀y,hd b=some y→b=a∨Btr x a y b
theorem Btr.asym{x y:List Nat}{a b:Int}(h:Btr x a y b)(g:Btr y b x a):False:=by
 have e:=ZaD x y
 rcases h with h|⟨h,h2⟩<;>rcases g with g|⟨g,g2⟩<;>omega
theorem Btr.total{x y:List Nat}{a b:Int}(h:a≠b):Btr x a y b∨Btr y b x a:=by
 have e:=ZaD x y
 unfold Btr
 omega
theorem Btr.trans{x y z:List Nat}{a b c:Int}(h:Btr x a y b)(g:Btr y b z c):Btr x a z c:=by
 have t1:=Zbz x y z
 have t2:=Zbz z x y
 have t3:=Zbz y z x
 have e1:=ZaD x y
 have e2:=ZaD y z
 have e3:=ZaD x z
 unfold Btr at *
 omega
theorem Win.one{hd:Hd}{N:List Int}{v w:Option Int}(h:Win hd N v)(g:Win hd N w):v=w:=by
 cases v with
 | none =>
  cases w with
  | none=>rfl
  | some b=>obtain⟨hb,y,hy,_⟩:=g;rw[h b hb]at hy;cases hy
 | some a =>
  obtain⟨ha,x,hx,h2⟩:=h
  cases w with
  | none=>rw[g a ha]at hx;cases hx
  | some b =>
   obtain⟨hb,y,hy,g2⟩:=g
   rcases h2 b hb y hy with e|e
   ·rw[e]
   ·rcases g2 a ha x hx with e'|e'
    ·rw[e']
    ·exact(e.asym e').elim
theorem Win.nil(hd:Hd):Win hd [] none:=fun n h=>by cases h
theorem Win.sing{hd:Hd}{n:Int}:Win hd [n] (if (hd n).isSome then some n else none):=by
 cases h:hd n with
 | none=>intro m hm;rw[Qc.mp hm];exact h
 | some x=>exact⟨by simp,x,h,fun b hb y hy=>.inl (Qc.mp hb)⟩
theorem Win.both{hd:Hd}{A B:List Int}{a b:Int}{x y:List Nat}(ha:Win hd A (some a))(hb:Win hd B (some b))(hx:hd a=some x)(hy:hd b=some y)(h:Btr x a y b):Win hd (A++B) (some a):=by
 obtain⟨a1,x',hx',a2⟩:=ha
 obtain⟨b1,y',hy',b2⟩:=hb
 rw[hx]at hx';cases hx'
 rw[hy]at hy';cases hy'
 refine⟨Qj _ a1,x,hx,fun c hc z hz=>?_⟩
 rcases Qe.mp hc with hc|hc
 ·exact a2 c hc z hz
 ·rcases b2 c hc z hz with e|e
  ·subst e;rw[hy]at hz;cases hz;exact .inr h
  ·exact .inr (h.trans e)
theorem Win.both'{hd:Hd}{A B:List Int}{a b:Int}{x y:List Nat}(ha:Win hd A (some a))(hb:Win hd B (some b))(hx:hd a=some x)(hy:hd b=some y)(h:Btr y b x a):Win hd (A++B) (some b):=by
 have:=Win.both hb ha hy hx h
 obtain⟨h1,z,h2,h3⟩:=this
 exact⟨by rcases Qe.mp h1 with h|h<;>simp[h],z,h2,fun c hc=>h3 c (by rcases Qe.mp hc with h|h<;>simp[h])⟩
theorem Win.left{hd:Hd}{A B:List Int}{w:Option Int}(ha:Win hd A w)(hb:Win hd B none):Win hd (A++B) w:=by
 cases w with
 | none=>intro n hn;rcases Qe.mp hn with h|h;exact ha n h;exact hb n h
 | some a =>
  obtain⟨a1,x,hx,a2⟩:=ha
  refine⟨Qj _ a1,x,hx,fun c hc z hz=>?_⟩
  rcases Qe.mp hc with hc|hc
  ·exact a2 c hc z hz
  ·rw[hb c hc]at hz;cases hz
theorem Win.right{hd:Hd}{A B:List Int}{w:Option Int}(ha:Win hd A none)(hb:Win hd B w):Win hd (A++B) w:=by
 cases w with
 | none=>intro n hn;rcases Qe.mp hn with h|h;exact ha n h;exact hb n h
 | some a =>
  obtain⟨a1,x,hx,a2⟩:=hb
  refine⟨Ql _ a1,x,hx,fun c hc z hz=>?_⟩
  rcases Qe.mp hc with hc|hc
  ·rw[ha c hc]at hz;cases hz
  ·exact a2 c hc z hz
theorem Win.ex(hd:Hd):∀N:List Int,N.Nodup→∃w,Win hd N w
 | [],_=>⟨none,Win.nil hd⟩
 | n::N,hn=>by
  obtain⟨n1,n2⟩:=QZ.mp hn
  obtain⟨w,hw⟩:=Win.ex hd N n2
  have hs:Win hd [n] (if (hd n).isSome then some n else none):=Win.sing
  cases h:hd n with
  | none =>
   rw[h]at hs
   exact⟨w,Win.right (A:=[n]) hs hw⟩
  | some x =>
   rw[h]at hs
   cases w with
   | none=>exact⟨some n,Win.left (A:=[n]) hs hw⟩
   | some b =>
    obtain⟨b1,y,hy,b2⟩:=id hw
    have hne:n≠b:=fun e=>n1 (e ▸ b1)
    rcases Btr.total (x:=x) (y:=y) hne with e|e
    ·exact⟨some n,Win.both (A:=[n]) hs hw h hy e⟩
    ·exact⟨some b,Win.both' (A:=[n]) hs hw h hy e⟩
theorem Win.congr{hd hd':Hd}{N:List Int}(h:∀n∈N,hd' n=hd n){w:Option Int}(hw:Win hd N w):Win hd' N w:=by
 cases w with
 | none=>intro n hn;rw[h n hn];exact hw n hn
 | some a =>
  obtain⟨a1,x,hx,a2⟩:=hw
  exact⟨a1,x,by rw[h a a1];exact hx,fun b hb y hy=>a2 b hb y (by rw[← h b hb];exact hy)⟩
def lo(N:List Int):List Int:=N.take (mid N)
def up(N:List Int):List Int:=N.drop (mid N)
theorem Zb5(N:List Int):lo N++up N=N:=List.take_append_drop _ _
theorem ZdB{N:List Int}(h:2≤N.length):(lo N).length<N.length∧1≤(lo N).length:=by
 unfold lo mid
 rw[QA]
 omega
theorem Zd2{N:List Int}(h:2≤N.length):(up N).length<N.length∧1≤(up N).length:=by
 unfold up mid
 rw[QV]
 omega
def ZL(N:List Int):Int×Int:=(N.headD 0,N.getLastD 0)
abbrev StL:=List ((Int×Int)×Option (Addr×Int×Int))
def stV:Option (Addr×Int×Int)→V
 | none=>.non
 | some t=>.ref t.1
def kvS(s:StL):List (List Key×V):=s.map fun e=>([.inl e.1.1,.inl e.1.2],stV e.2)
def AtS(H:Hp)(s:StL):Prop:=∀e∈s,∀t,e.2=some t→H t.1=some (.tup [.int t.2.1,.int t.2.2])
def ZO(s:StL)(k:Int×Int):Option (Option (Addr×Int×Int)):=(s.find? fun e=>decide (e.1=k)).map (·.2)
def ZcF(s:StL)(k:Int×Int)(v:Option (Addr×Int×Int)):StL:=if s.any (fun e=>decide (e.1=k)) then s.map (fun e=>if e.1=k then (e.1,v) else e) else s++[(k,v)]
theorem AtS.mono{H H':Hp}{s:StL}(h:AtS H s)(k:∀a xs,H a=some (.tup xs)→H' a=some (.tup xs)):AtS H' s:=fun e he t ht=>k _ _ (h e he t ht)
theorem Zi4{a b:Int×Int}(h:([.inl a.1,.inl a.2]:List Key)=[.inl b.1,.inl b.2]):a=b:=by
 obtain⟨a1,a2⟩:=a
 obtain⟨b1,b2⟩:=b
 injection h with h1 h2
 injection h2 with h2 _
 have e1:=Sum.inl.inj h1
 have e2:=Sum.inl.inj h2
 simp only at e1 e2
 rw[e1,e2]
theorem Zib(k:Int×Int):∀s:StL,Zbq (kvS s) [.inl k.1,.inl k.2]=(ZO s k).map stV
 | []=>rfl
 | e::s=>by
  have ih:=Zib k s
  by_cases h:e.1=k
  ·unfold kvS ZO
   rw[Qn,Zds (by rw[h])]
   simp[List.find?_cons,h]
  ·unfold kvS at ih ⊢
   rw[Qn,Zdn (fun z=>h (Zi4 z)),ih]
   unfold ZO
   simp[List.find?_cons,h]
theorem ZnB(k:Int×Int)(s:StL):((kvS s).any fun kv=>decide (kv.1=([.inl k.1,.inl k.2]:List Key)))=s.any fun e=>decide (e.1=k):=by
 unfold kvS
 rw[List.any_map]
 congr 1
 funext e
 simp only[Function.comp]
 by_cases h:e.1=k
 ·rw[decide_eq_true h,decide_eq_true (by rw[h])]
 ·rw[decide_eq_false h,decide_eq_false (fun z=>h (Zi4 z))]
theorem Ze5(s:StL)(k:Int×Int)(v:Option (Addr×Int×Int)):ZcU (kvS s) [.inl k.1,.inl k.2] (stV v)=kvS (ZcF s k v):=by
 unfold ZcU ZcF
 rw[ZnB]
 split
 ·unfold kvS
  rw[QC,QC]
  congr 1
  funext e
  simp only[Function.comp]
  by_cases h:e.1=k
  ·rw[if_pos h,if_pos (by rw[h])]
  ·rw[if_neg h,if_neg (fun z=>h (Zi4 z))]
 ·unfold kvS;rw[Qg];rfl
theorem ZlC(s:StL)(k:Int×Int)(v:Option (Addr×Int×Int)):(ZcF s k v).length≤s.length+1:=by
 unfold ZcF
 split
 ·rw[Qa];omega
 ·rw[Qf];exact Qh _
theorem ZaQ(s:StL)(k j:Int×Int)(v:Option (Addr×Int×Int)):ZO (ZcF s k v) j=if j=k then some v else ZO s j:=by
 unfold ZcF
 split
 ·rename_i h
  induction s with
  | nil=>simp at h
  | cons e s ih =>
   unfold ZO at ih ⊢
   by_cases hek:e.1=k
   ·by_cases hj:j=k
    ·subst hj;simp[List.find?_cons,hek]
    ·have hj':¬ k=j:=fun z=>hj z.symm
     rw[Qn,if_pos hek,Qao (by simp[hek,hj']),Qao (by simp[hek,hj']),if_neg hj]
     by_cases ha:s.any (fun e=>decide (e.1=k))=true
     ·have:=ih ha;rw[if_neg hj]at this;exact this
     ·have:s.map (fun e=>if e.1=k then (e.1,v) else e)=s:=by
       rw[List.map_eq_iff]
       intro i
       cases hi:s[i]? with
       | none=>rfl
       | some x =>
        have hx:¬ x.1=k:=fun z=>ha (List.any_eq_true.mpr ⟨x,Qr hi,by simpa using z⟩)
        simp[hx]
      rw[this]
   ·have ha:s.any (fun e=>decide (e.1=k))=true:=by simpa [hek] using h
    rw[Qn,if_neg hek]
    by_cases hj:e.1=j
    ·have:¬ j=k:=fun z=>hek (hj.trans z)
     rw[List.find?_cons_of_pos (by simpa using hj),List.find?_cons_of_pos (by simpa using hj),if_neg this]
    ·rw[Qao (by simpa using hj),Qao (by simpa using hj)]
     exact ih ha
 ·rename_i h
  unfold ZO
  rw[List.find?_append]
  by_cases hj:j=k
  ·subst hj
   have:s.find? (fun e=>decide (e.1=j))=none:=by
    rw[List.find?_eq_none]
    intro x hx z
    exact h (List.any_eq_true.mpr ⟨x,hx,z⟩)
   rw[this];simp
  ·have hj':¬ k=j:=fun z=>hj z.symm
   rw[if_neg hj]
   simp[hj']
theorem AtS.put{H:Hp}{s:StL}{k:Int×Int}{v:Option (Addr×Int×Int)}(h:AtS H s)(hv:∀t,v=some t→H t.1=some (.tup [.int t.2.1,.int t.2.2])):AtS H (ZcF s k v):=by
 unfold ZcF
 split
 ·intro e he t ht
  obtain⟨x,hx,rfl⟩:=Qx.mp he
  split at ht
  ·exact hv t ht
  ·exact h x hx t ht
 ·intro e he t ht
  rcases Qe.mp he with he|he
  ·exact h e he t ht
  ·rw[Qc.mp he]at ht;exact hv t ht
theorem ZgK{s:StL}{k:Int×Int}{v:Option (Addr×Int×Int)}(h:ZO s k=some v):(k,v)∈s:=by
 unfold ZO at h
 obtain⟨e,he,rfl⟩:=QaF.mp h
 have h1:=List.find?_some he
 have:e.1=k:=by simpa using h1
 rw[← this];exact List.mem_of_find?_eq_some he
def Zrz(hd:Hd)(s:StL)(N:List Int):Prop :=
 (∀a b x y,Win hd (lo N) (some a)→Win hd (up N) (some b)→hd a=some x→hd b=some y→∃t,ZO s (ZL N)=some (some (t,if ZE x y<0∨(ZE x y=0∧a<b) then b else a,((lcp x y:Nat):Int)))) ∧
 ((Win hd (lo N) none∨Win hd (up N) none)→ZO s (ZL N)=none∨ZO s (ZL N)=some none)
def Zex(hd:Hd)(s:StL):Nat→List Int→Prop
 | 0,_=>True
 | n+1,N=>2≤N.length→Zex hd s n (lo N)∧Zex hd s n (up N)∧Zrz hd s N
def Zer:Nat→List Int→Int×Int→Prop
 | 0,_,_=>False
 | n+1,N,k=>2≤N.length∧(Zer n (lo N) k∨Zer n (up N) k∨k=ZL N)
abbrev Zad(N:List Int):Prop:=N.Pairwise (·<·)
theorem ZdG{N:List Int}(h:Zad N):Zad (lo N):=h.sublist (List.take_sublist _ _)
theorem ZdD{N:List Int}(h:Zad N):Zad (up N):=h.sublist (List.drop_sublist _ _)
theorem ZdL{N:List Int}(h:Zad N):N.Nodup:=h.imp fun {a b} hab e=>by omega
theorem ZH{N:List Int}(h:Zad N){a b:Int}(ha:a∈lo N)(hb:b∈up N):a<b:=by
 have:Zad (lo N++up N):=by rw[Zb5];exact h
 exact(List.pairwise_append.mp this).2.2 a ha b hb
theorem ZbV{N:List Int}(h:N≠[]):N.headD 0∈N:=by
 cases N with
 | nil=>exact absurd rfl h
 | cons a r=>simp
theorem Zb1{N:List Int}(h:N≠[]):N.getLastD 0∈N:=by
 rw[Qaf,QaA h]
 exact List.getLast_mem h
theorem Z4{N:List Int}(h:1≤N.length):N≠[]:=fun z=>by rw[z]at h;simp at h
theorem ZeP{N:List Int}(h:2≤N.length):(ZL N).2=(up N).getLastD 0:=by
 have hu:=Z4 (Zd2 h).2
 show N.getLastD 0=_
 rw[Qaf,Qaf]
 conv=>lhs;rw[← Zb5 N]
 rw[List.getLast?_append,QaA hu];rfl
theorem ZeM{N:List Int}(h:2≤N.length):(ZL N).1=(lo N).headD 0:=by
 have hl:=Z4 (ZdB h).2
 show N.headD 0=_
 conv=>lhs;rw[← Zb5 N]
 cases hc:lo N with
 | nil=>exact absurd hc hl
 | cons a r=>rfl
theorem ZdO:∀ (n:Nat) (N:List Int) (k:Int×Int),Zer n N k→k.1∈N∧k.2∈N
 | 0,_,_,h=>h.elim
 | n+1,N,k,⟨h2,h⟩=>by
  rcases h with h|h|rfl
  ·have:=ZdO n _ k h
   rw[← Zb5 N]
   exact⟨Qj _ this.1,Qj _ this.2⟩
  ·have:=ZdO n _ k h
   rw[← Zb5 N]
   exact⟨Ql _ this.1,Ql _ this.2⟩
  ·have hn:N≠[]:=Z4 (by omega)
   exact⟨ZbV hn,Zb1 hn⟩
theorem Zg5{N:List Int}(hr:Zad N)(h2:2≤N.length){n:Nat}{k:Int×Int}(h:Zer n (lo N) k):k≠ZL N∧∀m,¬ Zer m (up N) k:=by
 have:=ZdO n _ k h
 refine⟨fun z=>?_,fun m hm=>?_⟩
 ·have h1:=ZeP h2
  rw[z,h1]at this
  have:=ZH hr this.2 (Zb1 (Z4 (Zd2 h2).2))
  omega
 ·have:=ZH hr this.1 (ZdO m _ k hm).1
  omega
theorem Zg9{N:List Int}(hr:Zad N)(h2:2≤N.length){n:Nat}{k:Int×Int}(h:Zer n (up N) k):k≠ZL N∧∀m,¬ Zer m (lo N) k:=by
 have:=ZdO n _ k h
 refine⟨fun z=>?_,fun m hm=>?_⟩
 ·have h1:=ZeM h2
  rw[z,h1]at this
  have:=ZH hr (ZbV (Z4 (ZdB h2).2)) this.1
  omega
 ·have:=ZH hr (ZdO m _ k hm).1 this.1
  omega
theorem Zex.congr{hd hd':Hd}{s s':StL}:∀ (n:Nat) (N:List Int),(∀m∈N,hd' m=hd m)→(∀k,Zer n N k→ZO s' k=ZO s k)→Zex hd s n N→Zex hd' s' n N
 | 0,_,_,_,_=>True.intro
 | n+1,N,hh,hk,h=>fun h2=>by
  obtain⟨a,b,c1,c2⟩:=h h2
  have hl:∀m∈lo N,hd' m=hd m:=fun m hm=>hh m (by rw[← Zb5 N];exact Qj _ hm)
  have hu:∀m∈up N,hd' m=hd m:=fun m hm=>hh m (by rw[← Zb5 N];exact Ql _ hm)
  have hl':∀m∈lo N,hd m=hd' m:=fun m hm=>(hl m hm).symm
  have hu':∀m∈up N,hd m=hd' m:=fun m hm=>(hu m hm).symm
  refine⟨Zex.congr n _ hl (fun k hkk=>hk k ⟨h2,.inl hkk⟩) a,Zex.congr n _ hu (fun k hkk=>hk k ⟨h2,.inr (.inl hkk)⟩) b,fun a b x y ha hb hx hy=>?_,fun hw=>?_⟩
  ·rw[hk _ ⟨h2,.inr (.inr rfl)⟩]
   exact c1 a b x y (Win.congr hl' ha) (Win.congr hu' hb) (by rw[← hl a ha.1];exact hx) (by rw[← hu b hb.1];exact hy)
  ·rw[hk _ ⟨h2,.inr (.inr rfl)⟩]
   refine c2 ?_
   rcases hw with hw|hw
   ·exact .inl (Win.congr hl' hw)
   ·exact .inr (Win.congr hu' hw)
inductive Zd4 (hd:Hd):Nat→List Int→Int→Int→Prop
 | few {n:Nat} {N:List Int}:N.length<2→Zd4 hd n N 0 0
 | none {n:Nat} {N:List Int} {k l k' l':Int}:2≤N.length→Zd4 hd n (lo N) k l→Zd4 hd n (up N) k' l'→(Win hd (lo N) none∨Win hd (up N) none)→Zd4 hd (n+1) N (k+k') (l+l')
 | both {n:Nat} {N:List Int} {k l k' l':Int} {a b:Int} {x y:List Nat}:2≤N.length→Zd4 hd n (lo N) k l→Zd4 hd n (up N) k' l'→Win hd (lo N) (some a)→Win hd (up N) (some b)→hd a=some x→hd b=some y→Zd4 hd (n+1) N (k+k'+1) (l+l'+(lcp x y:Nat)+1)
def kk(e:Str×Int):List Key:=[.inr e.1,.inl e.2]
def oV:Option Str→V
 | none=>.non
 | some s=>.str s
def Zd0:Option Int→V
 | none=>.non
 | some a=>.int a
def kvH(E:List (Int×Option Str)):List (Key×V):=E.map fun e=>(.inl e.1,oV e.2)
def lk(E:List (Int×Option Str))(n:Int):Option Str:=(E.find? fun e=>decide (e.1=n)).bind (·.2)
def hdE(E:List (Int×Option Str)):Hd:=fun n=>(lk E n).map cds
def prs(E:List (Int×Option Str))(N:List Int):List (Str×Int):=N.filterMap fun n=>(lk E n).map fun s=>(s,n)
theorem Zoc{x y:Str}(h:cds x=cds y):x=y:=by
 obtain⟨⟨a⟩⟩:=x
 obtain⟨⟨b⟩⟩:=y
 have:a=b:=h
 rw[this]
def Zrx:Key→PyData
 | .inl i=>.int i
 | .inr s=>.str s
def tD(k:List Key):PyData:=.tuple (k.map Zrx)
structure Hds (H:Hp) (D:Addr) (E:List (Int×Option Str)):Prop where
 at':H D=some (.dK (kvH E))
 nd:(E.map (·.1)).Nodup
 ok:∀e∈E,∀s,e.2=some s→s.length≤1000∧AZ s
def spLeast(K:PySem.W.Frag):Sp:=fun vs H Q _=>∃ (D l:Addr) (E:List (Int×Option Str)) (N:List Int),vs=[.ref D,.ref l]∧Hds H D E∧SqL K H l (N.map V.int)∧N.length≤60∧(∀n∈N,n∈E.map (·.1)) ∧
 ∀ (v:Option Int) (H':Hp),Win (hdE E) N v→Zu H H'→Q (Zd0 v) H'
theorem ZpR(N:List Int):ZdR N=lo N:=rfl
theorem Zo4(N:List Int):Zf0 N=up N:=rfl
def spFP(K:PySem.W.Frag)(n:Nat):Sp:=fun vs H Q _=>∃ (D l:Addr) (E:List (Int×Option Str)) (N:List Int),vs=[.ref D,.ref l]∧Hds H D E∧SqL K H l (N.map V.int)∧N.length≤60∧0<n∧N.length≤2 ^ (n-1)∧(∀m∈N,m∈E.map (·.1)) ∧
 ∀ (t:Addr) (k q:Int) (H':Hp),Zd4 (hdE E) n N k q→H t=none→H' t=some (.tup [.int k,.int q])→Zu H H'→Q (.ref t) H'
abbrev ZaX:=Int×Addr×List Str×Nat
def kvR(L:List ZaX):List (Key×V):=L.map fun e=>(.inl e.1,.ref e.2.1)
def kvG(L:List ZaX):List (Key×V):=L.map fun e=>(.inl e.1,.int (e.2.2.2:Int))
def ZrO(ra ga:Addr)(nb li lo:Int):List (Key×V):=[(.inr "rows",.ref ra),(.inr "gone",.ref ga),(.inr "number",.int nb),(.inr "likenings",.int li),(.inr "looks",.int lo)]
structure Own (H:Hp) (o ra ga:Addr) (L:List ZaX) (nb li lo:Int):Prop where
 at':H o=some (.dK (ZrO ra ga nb li lo))
 rows:H ra=some (.dK (kvR L))
 gone:H ga=some (.dK (kvG L))
 nd:(L.map (·.1)).Nodup
 few:L.length≤60
 lst:∀e∈L,H e.2.1=some (.lst (e.2.2.1.map V.str))∧e.2.2.1.length≤100∧e.2.2.2≤e.2.2.1.length∧∀s∈e.2.2.1,s.length≤1000∧AZ s
theorem ZpW{ns:List Int}(h:ns.Nodup):(ns.map (Sum.inl:Int→Key)).Nodup:=List.Pairwise.map _ (fun a b hab z=>hab (Sum.inl.inj z)) h
theorem ZbL.k'{H:Hp}{a:Addr}{kvs:List (Key×V)}{k:Key}{r:Option V}(e:H a=some (.dK kvs))(h:Zbq kvs k=r):ZbL H a (kV k) r:=by rw[← h];exact ZbL.k e
structure Zrs (L:List ZaX) (E:List (Int×Option Str)):Prop where
 per:(E.map (·.1)).Perm (L.map (·.1))
 up:(E.map (·.1)).Pairwise (·<·)
 hd:∀e∈L,(e.1,e.2.2.1[e.2.2.2]?)∈E
def spHeads:Sp:=fun vs H Q _=>∃ (o ra ga:Addr) (L:List ZaX) (nb li lo:Int),vs=[.ref o]∧Own H o ra ga L nb li lo ∧
 ∀ (D:Addr) (E:List (Int×Option Str)) (H':Hp),H D=none→Hds H' D E→Zrs L E→Zu H H'→Q (.ref D) H'
def hdL(L:List ZaX):Hd:=fun n=>((L.find? fun e=>decide (e.1=n)).bind fun e=>e.2.2.1[e.2.2.2]?).map cds
theorem ZiG:∀ {L:List ZaX},(L.map (·.1)).Nodup→∀ {e:ZaX},e∈L→hdL L e.1=(e.2.2.1[e.2.2.2]?).map cds
 | [],_,_,h=>by cases h
 | x::r,nd,e,h=>by
  rw[Qn,QZ]at nd
  unfold hdL
  rw[Qah]
  rcases QG.mp h with rfl|h
  ·rw[decide_eq_true rfl];rfl
  ·rw[decide_eq_false (fun z:x.1=e.1=>nd.1 (by rw[z];exact Qo (f:=fun x:ZaX=>x.1) h))]
   exact ZiG nd.2 h
theorem Win.perm{hd:Hd}{N M:List Int}{v:Option Int}(h:Win hd N v)(p:N.Perm M):Win hd M v:=by
 cases v with
 | none=>exact fun n hn=>h n (p.mem_iff.mpr hn)
 | some a=>obtain⟨ha,x,hx,hb⟩:=h;exact⟨p.mem_iff.mp ha,x,hx,fun b hbm=>hb b (p.mem_iff.mpr hbm)⟩
def ZoA(L:List ZaX)(H:Hp)(x:V):Prop:=(x=.non∧Win (hdL L) (L.map (·.1)) none)∨∃ (t:Addr) (e:ZaX) (z:Str),x=.ref t∧e∈L∧e.2.2.1[e.2.2.2]? = some z∧H t=some (.tup [.int e.1,.int (e.2.2.2:Int),.str z])∧Win (hdL L) (L.map (·.1)) (some e.1)
def spLCom:Sp:=fun vs H Q _=>∃ (o ra ga:Addr) (L:List ZaX) (nb li lo:Int),vs=[.ref o]∧Own H o ra ga L nb li lo∧∀ (x:V) (H':Hp),ZoA L H' x→Zu H H'→Q x H'
def spLPlay:Sp:=fun vs H Q _=>∃ (o ra ga:Addr) (L:List ZaX) (nb li lo:Int),vs=[.ref o]∧Own H o ra ga L nb li lo∧(L.map (·.1)).Pairwise (·<·)∧(∀e∈L,e.2.1≠o) ∧
 ∀ (k q':Int) (H':Hp),Zd4 (hdL L) 8 (L.map (·.1)) k q'→Own H' o ra ga L nb (li+k) (lo+q')→But o H H'→Q .non H'
def ZoM(L:List ZaX):List Int:=L.map fun e=>(e.2.2.1.length:Int)-(e.2.2.2:Int)
def spLLeft:Sp:=fun vs H Q _=>∃ (o ra ga:Addr) (L:List ZaX) (nb li lo:Int),vs=[.ref o]∧Own H o ra ga L nb li lo∧∀H':Hp,Zu H H'→Q (.int (ZoM L).sum) H'
structure Zcj (H:Hp) (r:Addr) (rs:List (Addr×List Str)):Prop where
 at':H r=some (.lst (rs.map fun x=>V.ref x.1))
 few:rs.length≤60
 lst:∀x∈rs,H x.1=some (.lst (x.2.map V.str))∧x.2.length≤100∧∀s∈x.2,s.length≤1000∧AZ s
theorem Zcj.same{H H':Hp}{r:Addr}{rs:List (Addr×List Str)}(h:Zcj H r rs)(s:Zu H H'):Zcj H' r rs:=⟨s _ _ h.at',h.few,fun x hx=>let ⟨a,b⟩:=h.lst x hx;⟨s _ _ a,b⟩⟩
def Zrj(L:List ZaX)(rs:List (Addr×List Str)):Prop:=L.map (·.1)=Z0 0 rs.length∧L.map (fun e=>e.2.2)=rs.map fun x=>(x.2,0)
theorem Zfo(n:Nat):(Z0 0 n).Pairwise (·<·):=by
 unfold Z0
 exact List.Pairwise.map _ (fun a b h=>by omega) (List.pairwise_lt_range)
def spLWorld:Sp:=fun vs H Q _=>∃ (r:Addr) (rs:List (Addr×List Str)),vs=[.ref r]∧Zcj H r rs ∧
 ∀ (o ra ga:Addr) (L:List ZaX) (k q':Int) (H':Hp),H o=none→H ra=none→H ga=none→ga≠ra→(∀e∈L,H e.2.1=none∧e.2.1≠o)→Zrj L rs→Own H' o ra ga L (rs.length:Int) k q'→Zd4 (hdL L) 8 (L.map (·.1)) k q'→Zu H H'→Q (.ref o) H'
def spLRow:Sp:=fun vs H Q _=>∃ (p l:Addr) (c most:Int) (ss:List Str),vs=[.ref p,.ref l,.int most]∧ZaC H p c∧c<2 ^ 40∧0≤most∧most≤60∧H l=some (.lst (ss.map V.str))∧1≤ss.length∧ss.length≤4∧(∀s∈ss,s.length≤24∧AZ s) ∧
 ∀ (r:Addr) (ts:List Str) (c':Int) (H':Hp),H r=none→H' r=some (.lst (ts.map V.str))→(ts.length:Int)≤most→sortedS ts=true→(∀s∈ts,s.length≤28∧AZ s)→ZaC H' p c'→c≤c'→c'≤c+600→But p H H'→Q (.ref r) H'
def spLRows:Sp:=fun vs H Q _=>∃ (p:Addr) (c:Int),vs=[.ref p]∧ZaC H p c∧c<2 ^ 30 ∧
 ∀ (r:Addr) (rs:List (Addr×List Str)) (c':Int) (H':Hp),H r=none→Zcj H' r rs→(∀x∈rs,H x.1=none∧x.1≠r∧x.1≠p∧sortedS x.2=true∧x.2.length≤60)→rs.length≤12→ZaC H' p c'→c≤c'→c'≤c+10000→But p H H'→Q (.ref r) H'
def ZfF(K:PySem.W.Frag):Sp:=fun vs H Q _=>∃ (n:Int) (a:Addr) (ss:List Str),vs=[.int n,.ref a]∧SqL K H a (ss.map V.str)∧ss.length≤200∧(∀s∈ss,s.length≤1000)∧Zid ss .non∧∀H',Zu H H'→Q .non H'
theorem Zki(T:Zaj K mg cRow cMerge)(f_first_break:Df P w K mg base 4 "first_break" ["keys"] (Zlv K)):Df P w K mg base 5 "refuse_break" ["number", "keys"] (ZfF K):=by
 refine T.t_refuse_break.df Zc7 (fun vs H Q E h=>?_) (fun cdv f A outer s H vs Q E hr h=>?_)
 ·obtain⟨n,a,ss,rfl,_⟩:=h
  rfl
 obtain⟨n,a,ss,rfl,hS,h200,h1000,hnon,q⟩:=h
 refine⟨_,#[Zf,#[Zw,2,Zc7.nd,(Or.inl rfl),#[ZA,f_first_break,hr,#[Za,‹1›,#[Ze]],(by rfl)]],#[Zj,#[Zae,#[Zn,Zg7,‹2›,#[ZaA],(Zt _)],#[Zj,(@Zox _ _)],#[ZF]]]],?_⟩
 refine⟨_,rfl,a,ss,rfl,hS,h200,h1000,fun v H1 hb s1=>?_⟩
 have e:=ZnR hb hnon
 subst e
 exact⟨_,rfl,rfl,_,rfl,Zdk (q H1 s1)⟩
structure ZB where
 n:Int
 p:Addr
 k:Addr
 f:Addr
 ss:List Str
 g:Nat
def toL(e:ZB):ZaX:=(e.n,e.p,e.ss,e.g)
def hdM(L:List ZB):Hd:=hdL (L.map toL)
def ZC(L:List ZB):List Int:=L.map (·.n)
theorem Zeh(L:List ZB):(L.map toL).map (·.1)=ZC L:=by rw[QC];rfl
def kvM(L:List ZB):List (Key×V):=L.map fun e=>(.inl e.n,.ref e.p)
theorem Zd6{L:List ZB}(nd:(ZC L).Nodup){e:ZB}(he:e∈L):hdM L e.n=(e.ss[e.g]?).map cds :=
 ZiG (L:=L.map toL) (by rw[Zeh];exact nd) (Qo (f:=toL) he)
theorem Zmi(L:List ZB):(kvM L).map (·.1)=(ZC L).map (Sum.inl:Int→Key):=by unfold kvM ZC;rw[QC,QC];rfl
theorem ZfV{L:List ZB}(nd:(ZC L).Nodup){e:ZB}(he:e∈L):Zbq (kvM L) (.inl e.n)=some (.ref e.p):=ZhK (by rw[Zmi];exact ZpW nd) (Qo (f:=fun e:ZB=>((.inl e.n:Key),V.ref e.p)) he)
theorem Zdm{L:List ZB}{n:Int}(h:n∈ZC L):∃e∈L,e.n=n:=Qx.mp h
def mgF(rd:Addr)(nb li lo:Int)(sd:Addr)(best:V):List (Str×V):=[("rows",.ref rd),("next_number",.int nb),("likened",.int li),("looked",.int lo),("stays",.ref sd),("best",best)]
theorem ZqR:¬ (("rows" : Str) = "next_number"):=by ac_rfl
theorem Zp4:¬ (("rows" : Str) = "likened"):=by ac_rfl
theorem Zpi:¬ (("rows" : Str) = "looked"):=by ac_rfl
theorem Zpb:¬ (("rows" : Str) = "stays"):=by ac_rfl
theorem Zpn:¬ (("rows" : Str) = "best"):=by ac_rfl
theorem ZqK:¬ (("next_number" : Str) = "likened"):=by ac_rfl
theorem ZqT:¬ (("next_number" : Str) = "looked"):=by ac_rfl
theorem Zq2:¬ (("next_number" : Str) = "stays"):=by ac_rfl
theorem ZqV:¬ (("next_number" : Str) = "best"):=by ac_rfl
theorem ZpH:¬ (("likened" : Str) = "looked"):=by ac_rfl
theorem Zpd:¬ (("likened" : Str) = "stays"):=by ac_rfl
theorem Zph:¬ (("likened" : Str) = "best"):=by ac_rfl
theorem Zpv:¬ (("looked" : Str) = "stays"):=by ac_rfl
theorem ZpS:¬ (("looked" : Str) = "best"):=by ac_rfl
theorem ZpN:¬ (("stays" : Str) = "best"):=by ac_rfl
theorem Zdy(f:Str)(v x:V)(r:List (Str×V)):Zo f v ((f,x)::r)=(f,v)::r:=by unfold Zo;rw[if_pos rfl]
theorem Zs{f g:Str}(h:¬ g=f)(v x:V)(r:List (Str×V)):Zo f v ((g,x)::r)=(g,x)::Zo f v r:=by
 show (if g=f then (g,v)::r else (g,x)::Zo f v r)=_
 rw[if_neg h]
theorem Zbm(f:Str)(v:V):Zo f v []=[(f,v)]:=rfl
theorem Zby(rd:Addr)(nb li lo:Int)(sd:Addr)(best:V):mgF rd nb li lo sd best=Zo "best" best (Zo "stays" (.ref sd) (Zo "looked" (.int lo) (Zo "likened" (.int li) (Zo "next_number" (.int nb) (Zo "rows" (.ref rd) []))))):=by
 rw[Zbm,Zs ZqR,Zbm,Zs Zp4,Zs ZqK,Zbm,Zs Zpi,Zs ZqT,Zs ZpH,Zbm,Zs Zpb,Zs Zq2,Zs Zpd,Zs Zpv,Zbm,Zs Zpn,Zs ZqV,Zs Zph,Zs ZpS,Zs ZpN,Zbm]
 rfl
section
variable (rd:Addr) (nb li lo:Int) (sd:Addr) (best:V)
theorem ZbI:(mgF rd nb li lo sd best).lookup ("rows" : Str)=some (.ref rd):=by
 rw[Zby,Zl,if_neg Zpn,Zl,if_neg Zpb,Zl,if_neg Zpi,Zl,if_neg Zp4,Zl,if_neg ZqR,Zl,if_pos rfl]
theorem ZeV:(mgF rd nb li lo sd best).lookup ("likened" : Str)=some (.int li):=by
 rw[Zby,Zl,if_neg Zph,Zl,if_neg Zpd,Zl,if_neg ZpH,Zl,if_pos rfl]
theorem ZiV:(mgF rd nb li lo sd best).lookup ("looked" : Str)=some (.int lo):=by
 rw[Zby,Zl,if_neg ZpS,Zl,if_neg Zpv,Zl,if_pos rfl]
theorem ZcI:(mgF rd nb li lo sd best).lookup ("stays" : Str)=some (.ref sd):=by
 rw[Zby,Zl,if_neg ZpN,Zl,if_pos rfl]
theorem Zdz:(mgF rd nb li lo sd best).lookup ("best" : Str)=some best:=by
 rw[Zby,Zl,if_pos rfl]
theorem ZcN{m:Str}(h1:¬ m = "rows")(h2:¬ m = "next_number")(h3:¬ m = "likened")(h4:¬ m = "looked")(h5:¬ m = "stays")(h6:¬ m = "best"):(mgF rd nb li lo sd best).lookup m=none:=by
 rw[Zby,Zl,if_neg h6,Zl,if_neg h5,Zl,if_neg h4,Zl,if_neg h3,Zl,if_neg h2,Zl,if_neg h1]
 rfl
theorem Zc5(v:Int):Zo "likened" (.int v) (mgF rd nb li lo sd best)=mgF rd nb v lo sd best:=by unfold mgF;rw[Zs Zp4,Zs ZqK,Zdy]
theorem Zfj(v:Int):Zo "looked" (.int v) (mgF rd nb li lo sd best)=mgF rd nb li v sd best:=by unfold mgF;rw[Zs Zpi,Zs ZqT,Zs ZpH,Zdy]
theorem Zga(x:Addr):Zo "stays" (.ref x) (mgF rd nb li lo sd best)=mgF rd nb li lo x best:=by unfold mgF;rw[Zs Zpb,Zs Zq2,Zs Zpd,Zs Zpv,Zdy]
theorem ZbT(x:V):Zo "best" x (mgF rd nb li lo sd best)=mgF rd nb li lo sd x:=by unfold mgF;rw[Zs Zpn,Zs ZqV,Zs Zph,Zs ZpS,Zs ZpN,Zdy]
theorem Zcc:(mgF rd nb li lo sd best).length<1000:=by show 6<1000;decide
end
structure Zep (C:Addr) (H:Hp) (e:ZB):Prop where
 at':ZjE C H e.p e.k e.f e.ss e.g
 le:e.g≤e.ss.length
 len:e.ss.length≤100
 srt:sortedS e.ss=true
 str:∀s∈e.ss,s.length≤1000∧AZ s
structure ZX (cR cM:Addr) (H:Hp) (m rd sd:Addr) (L:List ZB) (s:StL) (nb li lo:Int) (best:V):Prop where
 ob:∃dx,H m=some (.ins cM dx (mgF rd nb li lo sd best))
 rows:H rd=some (.dK (kvM L))
 stays:H sd=some (.dT (kvS s))
 ats:AtS H s
 each:∀e∈L,Zep cR H e
 up:Zad (ZC L)
 pd:(L.map (·.p)).Nodup
 few:L.length≤60
 sfew:s.length≤100
def Fp(m rd sd:Addr)(L:List ZB)(b:Addr):Prop:=b=m∨b=rd∨b=sd∨∃e∈L,b=e.p∨b=e.k∨b=e.f
theorem Zep.keep{C:Addr}{H H':Hp}{e:ZB}(h:Zep C H e)(hp:H' e.p=H e.p)(hk:H' e.k=H e.k)(hf:H' e.f=H e.f):Zep C H' e :=
 ⟨⟨by rw[hp];exact h.at'.ob,by rw[hk];exact h.at'.ks,by rw[hf];exact h.at'.fs⟩,h.le,h.len,h.srt,h.str⟩
section
variable {cR cM:Addr} {H H':Hp} {m rd sd:Addr} {L:List ZB} {s:StL} {nb li lo:Int} {best:V}
theorem ZX.nd(h:ZX cR cM H m rd sd L s nb li lo best):(ZC L).Nodup:=ZdL h.up
theorem ZX.keep(h:ZX cR cM H m rd sd L s nb li lo best)(k:∀b o,H b=some o→Fp m rd sd L b∨(∃xs,o=.tup xs)→H' b=some o):ZX cR cM H' m rd sd L s nb li lo best:=by
 refine⟨?_,k _ _ h.rows (.inl (.inr (.inl rfl))),k _ _ h.stays (.inl (.inr (.inr (.inl rfl)))),fun e he t ht=>k _ _ (h.ats e he t ht) (.inr ⟨_,rfl⟩),fun e he=>?_,h.up,h.pd,h.few,h.sfew⟩
 ·obtain⟨dx,hd⟩:=h.ob
  exact⟨dx,k _ _ hd (.inl (.inl rfl))⟩
 ·have r:=h.each e he
  obtain⟨dx,hd⟩:=r.at'.ob
  exact⟨⟨⟨dx,k _ _ hd (.inl (.inr (.inr (.inr ⟨e,he,.inl rfl⟩))))⟩,k _ _ r.at'.ks (.inl (.inr (.inr (.inr ⟨e,he,.inr (.inl rfl)⟩)))),k _ _ r.at'.fs (.inl (.inr (.inr (.inr ⟨e,he,.inr (.inr rfl)⟩))))⟩,r.le,r.len,r.srt,r.str⟩
theorem ZX.same(h:ZX cR cM H m rd sd L s nb li lo best)(k:Zu H H'):ZX cR cM H' m rd sd L s nb li lo best:=h.keep fun b o hb _=>k b o hb
theorem ZX.ne_p(h:ZX cR cM H m rd sd L s nb li lo best){e:ZB}(he:e∈L):m≠e.p∧m≠e.k∧m≠e.f:=by
 obtain⟨dx,hd⟩:=h.ob
 have r:=h.each e he
 obtain⟨dy,hy⟩:=r.at'.ob
 refine⟨fun z=>?_,fun z=>?_,fun z=>?_⟩
 ·rw[z,hy]at hd
  injection hd with hd
  injection hd with _ _ hd
  have a:=ZeI e.k e.f (e.g:Int)
  rw[hd,ZcN _ _ _ _ _ _ (by ac_rfl) (by ac_rfl) (by ac_rfl) (by ac_rfl) (by ac_rfl) (by ac_rfl)]at a
  cases a
 ·rw[z,r.at'.ks]at hd;cases hd
 ·rw[z,r.at'.fs]at hd;cases hd
theorem ZX.ne_m(h:ZX cR cM H m rd sd L s nb li lo best):m≠rd∧m≠sd∧rd≠sd:=by
 obtain⟨dx,hd⟩:=h.ob
 refine⟨fun z=>?_,fun z=>?_,fun z=>?_⟩
 ·rw[z,h.rows]at hd;cases hd
 ·rw[z,h.stays]at hd;cases hd
 ·have:=h.rows;rw[z,h.stays]at this;cases this
theorem ZX.ne_sd(h:ZX cR cM H m rd sd L s nb li lo best){e:ZB}(he:e∈L):sd≠e.p∧sd≠e.k∧sd≠e.f∧rd≠e.p∧rd≠e.k∧rd≠e.f:=by
 have r:=h.each e he
 obtain⟨dy,hy⟩:=r.at'.ob
 have a:=h.stays
 have b:=h.rows
 refine⟨fun z=>?_,fun z=>?_,fun z=>?_,fun z=>?_,fun z=>?_,fun z=>?_⟩
 ·rw[z,hy]at a;cases a
 ·rw[z,r.at'.ks]at a;cases a
 ·rw[z,r.at'.fs]at a;cases a
 ·rw[z,hy]at b;cases b
 ·rw[z,r.at'.ks]at b;cases b
 ·rw[z,r.at'.fs]at b;cases b
theorem ZX.obj(h:ZX cR cM H m rd sd L s nb li lo best){nb' li' lo':Int}{best':V}{dx:Addr}:ZX cR cM (upd H m (.ins cM dx (mgF rd nb' li' lo' sd best'))) m rd sd L s nb' li' lo' best':=by
 obtain⟨n1,n2,n3⟩:=h.ne_m
 obtain⟨dy,hd⟩:=h.ob
 refine⟨⟨dx,Zc⟩,by rw[Zd n1.symm];exact h.rows,by rw[Zd n2.symm];exact h.stays,fun e he t ht=>?_,fun e he=>?_,h.up,h.pd,h.few,h.sfew⟩
 ·have:=h.ats e he t ht
  rw[Zd (fun z=>by rw[z,hd]at this;cases this)];exact this
 ·obtain⟨a,b,c⟩:=h.ne_p he
  exact(h.each e he).keep (Zd a.symm) (Zd b.symm) (Zd c.symm)
theorem ZX.put(h:ZX cR cM H m rd sd L s nb li lo best){k:Int×Int}{v:Option (Addr×Int×Int)}(hv:∀t,v=some t→H t.1=some (.tup [.int t.2.1,.int t.2.2]))(hs:(ZcF s k v).length≤100):ZX cR cM (upd H sd (.dT (kvS (ZcF s k v)))) m rd sd L (ZcF s k v) nb li lo best:=by
 obtain⟨n1,n2,n3⟩:=h.ne_m
 obtain⟨dy,hd⟩:=h.ob
 have tup:∀a xs,H a=some (.tup xs)→(upd H sd (.dT (kvS (ZcF s k v)))) a=some (.tup xs):=fun a xs ha=>by rw[Zd (fun z=>by rw[z,h.stays]at ha;cases ha)];exact ha
 refine⟨⟨dy,by rw[Zd n2];exact hd⟩,by rw[Zd n3];exact h.rows,Zc,(h.ats.put hv).mono tup,fun e he=>?_,h.up,h.pd,h.few,hs⟩
 obtain⟨a,b,c,_⟩:=h.ne_sd he
 exact(h.each e he).keep (Zd a.symm) (Zd b.symm) (Zd c.symm)
end
def ZiE(cR cM:Addr):Sp:=fun vs H Q _=>∃ (m rd sd:Addr) (L:List ZB) (s:StL) (nb li lo:Int) (best:V) (a b:ZB) (x y:Str) (far:Nat),vs=[.ref m,.int a.n,.int b.n,.int (far:Int)]∧ZX cR cM H m rd sd L s nb li lo best∧a∈L∧b∈L∧a.ss[a.g]? = some x∧b.ss[b.g]? = some y∧far≤lcp (cds x) (cds y) ∧
 ∀ (t:Addr) (wi lz:Int) (H':Hp),(Btr (cds x) a.n (cds y) b.n∧wi=a.n∧lz=b.n∨¬ Btr (cds x) a.n (cds y) b.n∧wi=b.n∧lz=a.n)→H t=none→H' t=some (.tup [.int wi,.int lz,.int ((lcp (cds x) (cds y):Nat):Int)]) →
  ZX cR cM H' m rd sd L s nb (li+1) (lo+((lcp (cds x) (cds y):Nat)-(far:Int)+1)) best→(∀b o,H b=some o→b≠m→H' b=some o)→Q (.ref t) H'
theorem Zem{ss:List Str}{g:Nat}{x:Str}(h:ss[g]? = some x):Zeq ss g=.str x:=by unfold Zeq;rw[h]
theorem ZbK(k f:Addr)(g:Int):(ZcH k f g).lookup ("head" : Str)=none:=Zjh _ _ _ (by ac_rfl) (by ac_rfl) (by ac_rfl)
theorem ZnV(T:Zaj K mg cRow cMerge)(f_Row_head:Mf P w K mg base 2 cRow "head" ["self"] (Zfv cRow))(f_liken_from:Df P w K mg base 2 "liken_from" ["one", "other", "far"] Zdr):Mf P w K mg base 3 cMerge "meet" ["self", "one", "other", "far"] (ZiE cRow cMerge):=by
 refine T.t_Merge_meet.mf ZbB (fun vs H Q E h=>?_) (fun cdv f A outer s H vs Q E hr h=>?_)
 ·obtain⟨m,rd,sd,L,s,nb,li,lo,best,a,b,x,y,far,rfl,_⟩:=h
  rfl
 obtain⟨m,rd,sd,L,s,nb,li,lo,best,a,b,x,y,far,rfl,M,ha,hb,hx,hy,hf,q⟩:=h
 refine⟨_,#[Zf,#[ZaT,#[ZA,f_liken_from,hr,#[Za,#[ZcM,f_Row_head,T.cl_Row,hr,#[Zz,(ixG hr),#[Z8,‹0›],‹1›]],#[Za,#[ZcM,f_Row_head,T.cl_Row,hr,#[Zz,(ixG hr),#[Z8,‹0›],‹2›]],#[Za,‹3›,#[Ze]]]],(by rfl)],#[gT,K,3,#[Zv,#[Zx,4,ZbB.nd],#[Zv,#[Zx,5,ZbB.nd],#[Zv,#[Zx,6,ZbB.nd],(@ZaL _)]]]]],#[Zf,(@ZdF _ _ _ _ _ _ _ _ _ _ ‹0› #[Zh] Zht),#[Zf,(@ZdF _ _ _ _ _ _ _ _ _ _ ‹0› ‹6› Zht),#[Zf,#[Zae,(@PW.pt _ _ _ (@ZlO _ _ _ _ _ _ _ #[Zn,ZdU,‹4›,#[Zh],(Zt _)] (@ZiQ _ _ _ _ (@PW.pt _ _ _ #[Zdo,#[Zn,Zbn,‹4›,#[Zh],(Zt _)],(@ZdE _ _ _ _ #[Zn,ZdU,‹1›,‹2›,(Zt _)])])))),#[Zj,#[Zp,#[ZU,#[Za,‹1›,#[Za,‹2›,#[Za,‹5›,#[Ze]]]]]]],#[ZF]],#[Zj,#[Zp,#[ZU,#[Za,‹2›,#[Za,‹1›,#[Za,‹5›,#[Ze]]]]]]]]]]],?_⟩
 obtain⟨dx,hm⟩:=M.ob
 have Ra:=M.each a ha
 have Rb:=M.each b hb
 obtain⟨da,hpa⟩:=Ra.at'.ob
 obtain⟨db,hpb⟩:=Rb.at'.ob
 have lx:=(Ra.str x (Qr hx)).1
 have ly:=(Rb.str y (Qr hy)).1
 refine⟨_,rfl,m,cMerge,dx,_,_,rfl,hm,T.cl_Merge,T.na_Merge_rows,ZbI ..,_,rfl,rd,_,rfl,ZbL.k' (k:=.inl a.n) M.rows (ZfV M.nd ha),a.p,da,_,rfl,hpa,ZbK ..,a.p,a.k,a.f,a.ss,a.g,rfl,Ra.at',?_⟩
 refine⟨_,rfl,m,cMerge,dx,_,_,rfl,hm,T.cl_Merge,T.na_Merge_rows,ZbI ..,_,rfl,rd,_,rfl,ZbL.k' (k:=.inl b.n) M.rows (ZfV M.nd hb),b.p,db,_,rfl,hpb,ZbK ..,b.p,b.k,b.f,b.ss,b.g,rfl,Rb.at',?_⟩
 rw[Zem hx,Zem hy]
 refine⟨_,rfl,x,y,far,rfl,lx,ly,hf,fun t ht=>?_⟩
 have s1:=Zi ht (.tup [.int (ZE (cds x) (cds y)),.int (lcp (cds x) (cds y):Nat),.int ((lcp (cds x) (cds y):Nat)-(far:Int)+1)])
 have ht1:(upd H t (.tup [.int (ZE (cds x) (cds y)),.int (lcp (cds x) (cds y):Nat),.int ((lcp (cds x) (cds y):Nat)-(far:Int)+1)])) t=some (.tup [.int (ZE (cds x) (cds y)),.int (lcp (cds x) (cds y):Nat),.int ((lcp (cds x) (cds y):Nat)-(far:Int)+1)]):=Zc
 generalize upd H t (.tup [.int (ZE (cds x) (cds y)),.int (lcp (cds x) (cds y):Nat),.int ((lcp (cds x) (cds y):Nat)-(far:Int)+1)])=H1 at s1 ht1 ⊢
 have M1:=M.same s1
 refine⟨t,_,rfl,SqT.of ht1,rfl,_,_,rfl,_,_,rfl,_,_,rfl,rfl,?_⟩
 have hm1:=s1 _ _ hm
 refine⟨_,rfl,m,cMerge,dx,_,_,rfl,hm1,T.cl_Merge,T.na_Merge_likened,ZeV ..,_,_,rfl,rfl,dx,_,hm1,Zcc ..,?_⟩
 rw[Zc5]
 have M2:=M1.obj (nb':=nb) (li':=li+1) (lo':=lo) (best':=best) (dx:=dx)
 have k2:∀b o,H b=some o→b≠m→(upd H1 m (.ins cMerge dx (mgF rd nb (li+1) lo sd best))) b=some o:=fun b o hb n=>by rw[Zd n];exact s1 b o hb
 have hm2:(upd H1 m (.ins cMerge dx (mgF rd nb (li+1) lo sd best))) m=some (.ins cMerge dx (mgF rd nb (li+1) lo sd best)):=Zc
 generalize upd H1 m (.ins cMerge dx (mgF rd nb (li+1) lo sd best))=H2 at M2 k2 hm2 ⊢
 refine⟨_,rfl,m,cMerge,dx,_,_,rfl,hm2,T.cl_Merge,T.na_Merge_looked,ZiV ..,_,rfl,_,_,rfl,rfl,dx,_,hm2,Zcc ..,?_⟩
 rw[Zfj]
 have M3:=M2.obj (nb':=nb) (li':=li+1) (lo':=lo+((lcp (cds x) (cds y):Nat)-(far:Int)+1)) (best':=best) (dx:=dx)
 have k3:∀b o,H b=some o→b≠m→(upd H2 m (.ins cMerge dx (mgF rd nb (li+1) (lo+((lcp (cds x) (cds y):Nat)-(far:Int)+1)) sd best))) b=some o:=fun b o hb n=>by rw[Zd n];exact k2 b o hb n
 generalize upd H2 m (.ins cMerge dx (mgF rd nb (li+1) (lo+((lcp (cds x) (cds y):Nat)-(far:Int)+1)) sd best))=H3 at M3 k3 ⊢
 have fin:∀wi lz:Int,(Btr (cds x) a.n (cds y) b.n∧wi=a.n∧lz=b.n∨¬ Btr (cds x) a.n (cds y) b.n∧wi=b.n∧lz=a.n)→∀t2,H3 t2=none→Q (.ref t2) (upd H3 t2 (.tup [.int wi,.int lz,.int ((lcp (cds x) (cds y):Nat):Int)])):=fun wi lz hw t2 ht2=>by
  have hfree:H t2=none:=by
   cases e:H t2 with
   | none=>rfl
   | some o =>
    by_cases z:t2=m
    ·obtain⟨dz,hz⟩:=M3.ob;rw[z,hz]at ht2;cases ht2
    ·rw[k3 t2 o e z]at ht2;cases ht2
  exact q t2 wi lz _ hw hfree Zc (M3.same (Zi ht2 _)) (fun b o hb n=>Zi ht2 _ _ _ (k3 b o hb n))
 have sz3:3≤sizeLine:=by decide
 refine⟨_,rfl,_,_,rfl,rfl,_,rfl,Za4 (fun d=>?_) (fun d=>?_)⟩
 ·have d':ZE (cds x) (cds y)<0:=of_decide_eq_true d
  exact ZkL ⟨_,rfl,_,rfl,_,rfl,sz3,fun t2 ht2=>fin _ _ (.inl ⟨.inl d',rfl,rfl⟩) t2 ht2⟩
 have d1:¬ ZE (cds x) (cds y)<0:=fun z=>d (decide_eq_true z)
 refine⟨_,rfl,rfl,_,rfl,Za4 (fun e=>?_) (fun e=>?_)⟩
 ·have e':ZE (cds x) (cds y)=0:=by have:=of_decide_eq_true e;injection this
  refine⟨_,rfl,_,rfl,_,_,rfl,rfl,_,rfl,Za4 (fun g=>?_) (fun g=>?_)⟩
  ·have g':a.n<b.n:=of_decide_eq_true g
   exact⟨_,rfl,_,rfl,_,rfl,sz3,fun t2 ht2=>fin _ _ (.inl ⟨.inr ⟨e',g'⟩,rfl,rfl⟩) t2 ht2⟩
  ·have g':¬ a.n<b.n:=fun z=>g (decide_eq_true z)
   exact⟨_,rfl,_,rfl,_,rfl,sz3,fun t2 ht2=>fin _ _ (.inr ⟨fun z=>by rcases z with z|z;exact d1 z;exact g' z.2,rfl,rfl⟩) t2 ht2⟩
 ·have e':ZE (cds x) (cds y)≠0:=fun z=>e (decide_eq_true (by rw[z]))
  exact Zdk ⟨_,rfl,_,rfl,_,rfl,sz3,fun t2 ht2=>fin _ _ (.inr ⟨fun z=>by rcases z with z|z;exact d1 z;exact e' z.1,rfl,rfl⟩) t2 ht2⟩
theorem ZX.cast{cR cM:Addr}{H:Hp}{m rd sd:Addr}{L:List ZB}{s:StL}{nb li lo li' lo':Int}{best:V}(h:ZX cR cM H m rd sd L s nb li lo best)(e1:li=li')(e2:lo=lo'):ZX cR cM H m rd sd L s nb li' lo' best:=by subst e1;subst e2;exact h
theorem Zir{N:List Int}(h:N≠[]):atI (N.map V.int) (-1)=some (.int (N.getLastD 0)):=by
 have e:N=N.dropLast++[N.getLast h]:=(List.dropLast_concat_getLast h).symm
 have:=ZlR (N.dropLast.map V.int) (V.int (N.getLast h))
 rw[Qaf,QaA h]
 conv=>lhs;rw[e,Qg]
 exact this
theorem Zh0{N:List Int}(h:N≠[]):atI (N.map V.int) 0=some (.int (N.headD 0)):=by
 cases N with
 | nil=>exact absurd rfl h
 | cons a r=>exact Z6 (j:=0) rfl
theorem Zd9(rd:Addr)(nb li lo:Int)(sd:Addr)(best:V):(mgF rd nb li lo sd best).lookup ("play" : Str)=none:=ZcN _ _ _ _ _ _ (by ac_rfl) (by ac_rfl) (by ac_rfl) (by ac_rfl) (by ac_rfl) (by ac_rfl)
theorem Zfg(rd:Addr)(nb li lo:Int)(sd:Addr)(best:V):(mgF rd nb li lo sd best).lookup ("meet" : Str)=none:=ZcN _ _ _ _ _ _ (by ac_rfl) (by ac_rfl) (by ac_rfl) (by ac_rfl) (by ac_rfl) (by ac_rfl)
def Zmm(K:PySem.W.Frag)(cR cM:Addr)(n:Nat):Sp:=fun vs H Q _=>∃ (m rd sd:Addr) (L:List ZB) (s:StL) (nb li lo:Int) (best:V) (l:Addr) (N:List Int),vs=[.ref m,.ref l]∧ZX cR cM H m rd sd L s nb li lo best∧H l=some (.lst (N.map V.int))∧1≤N.length∧N.length≤60∧0<n∧N.length≤2 ^ (n-1)∧(∀x∈N,x∈ZC L)∧Zad N∧(∀k,Zer n N k→ZO s k=none)∧s.length+N.length≤100 ∧
 ∀ (w:Option Int) (s':StL) (k q:Int) (H':Hp),Win (hdM L) N w→Zex (hdM L) s' n N→Zd4 (hdM L) n N k q→(∀j,¬ Zer n N j→ZO s' j=ZO s j)→s'.length+1≤s.length+N.length→ZX cR cM H' m rd sd L s' nb (li+k) (lo+q) best→(∀b o,H b=some o→b≠m→b≠sd→H' b=some o)→Q (Zd0 w) H'
theorem ZjM(T:Zaj K mg cRow cMerge)(f_Row_head:Mf P w K mg base 2 cRow "head" ["self"] (Zfv cRow))(f_halves:Df P w K mg base 1 "halves" ["numbers"] (Zeo K true))(f_Merge_meet:Mf P w K mg base 3 cMerge "meet" ["self", "one", "other", "far"] (ZiE cRow cMerge)) :
  ∀n:Nat,Mf P w K mg base (n+4) cMerge "play" ["self", "numbers"] (Zmm K cRow cMerge n)
 | 0=>by
  refine T.t_Merge_play.mf Z7 (fun vs H Q E h=>?_) (fun cdv f A outer s H vs Q E hr h=>?_)
  ·obtain⟨m,rd,sd,L,s,nb,li,lo,best,l,N,rfl,_⟩:=h
   rfl
  obtain⟨m,rd,sd,L,s,nb,li,lo,best,l,N,rfl,_,_,_,_,z,_⟩:=h
  exact absurd z (by omega)
 | n+1=>by
  have f_Merge_play:=ZjM T f_Row_head f_halves f_Merge_meet n
  refine T.t_Merge_play.mf Z7 (fun vs H Q E h=>?_) (fun cdv f A outer s H vs Q E hr h=>?_)
  ·obtain⟨m,rd,sd,L,s,nb,li,lo,best,l,N,rfl,_⟩:=h
   rfl
  obtain⟨m,rd,sd,L,s,nb,li,lo',best,l,N,rfl,M,hl,h1,h60,_,hp2,hmem,hup,hfree,hsz,q⟩:=h
  rw[Qap]at hp2
  refine⟨_,#[Zf,#[Zae,#[Zn,Zbn,#[Zk,(ZbH K),(by rfl),T.b.n_len,Qu,#[Za,‹1›,#[Ze]]],#[Zh],(Zt _)],#[Zj,#[Zp,#[Zbb,#[Zn,Zdg,#[ZcM,f_Row_head,T.cl_Row,hr,#[Zz,(ixG hr),#[Z8,‹0›],#[Zz,(ixL K),‹1›,#[Zh]]]],#[ZaA],(Zt _)],#[ZaA],#[Zz,(ixL K),‹1›,#[Zh]]]]],#[ZF]],#[Zf,#[ZaT,#[ZA,f_halves,hr,#[Za,‹1›,#[Ze]],(by rfl)],#[gT,K,2,#[Zv,#[Zx,2,Z7.nd],#[Zv,#[Zx,3,Z7.nd],(@ZaL _)]]]],#[Zf,#[Zw,4,Z7.nd,(Or.inl rfl),#[Ze0,f_Merge_play,T.cl_Merge,hr,‹0›,#[Za,‹2›,#[Ze]]]],#[Zf,#[Zw,5,Z7.nd,(Or.inl rfl),#[Ze0,f_Merge_play,T.cl_Merge,hr,‹0›,#[Za,‹3›,#[Ze]]]],#[Zf,#[Zae,#[Zn,Zdg,‹4›,#[ZaA],(Zt _)],#[Zj,#[Zp,‹5›]],#[ZF]],#[Zf,#[Zae,#[Zn,Zdg,‹5›,#[ZaA],(Zt _)],#[Zj,#[Zp,‹4›]],#[ZF]],#[Zf,#[ZaT,#[Ze0,f_Merge_meet,T.cl_Merge,hr,‹0›,#[Za,‹4›,#[Za,‹5›,#[Za,#[Zh],#[Ze]]]]],#[gT,K,3,#[Zv,#[Zx,6,Z7.nd],#[Zv,#[Zx,7,Z7.nd],#[Zv,#[Zx,8,Z7.nd],(@ZaL _)]]]]],#[Zf,#[ZaT,#[ZU,#[Za,‹7›,#[Za,‹8›,#[Ze]]]],#[Zdl,#[Z8,‹0›],#[ZU,#[Za,#[Zz,(ixL K),‹1›,#[Zh]],#[Za,#[Zz,(ixL K),‹1›,(@ZhV _ _ _ _ _ _ Zfm #[Zh])],#[Ze]]]],(Zlw hr)]],#[Zj,#[Zp,‹6›]]]]]]]]]],?_⟩
  obtain⟨dx,hm⟩:=M.ob
  have hN:N≠[]:=Z4 h1
  have nml:l≠m:=fun z=>by rw[z,hm]at hl;cases hl
  have nsl:l≠sd:=fun z=>by rw[z,M.stays]at hl;cases hl
  have hll:(((N.map V.int).length:Nat):Int)=(N.length:Int):=by rw[Qa]
  refine⟨_,rfl,l,_,rfl,.inl (SqL.of hl),rfl,_,rfl,Za4 (fun d=>?_) (fun d=>?_)⟩
  ·have hone:N.length=1:=by have:=of_decide_eq_true d;injection this with this;rw[hll]at this;omega
   obtain⟨n0,rfl⟩:∃n0,N=[n0]:=QaG.mp hone
   obtain⟨e,he,rfl⟩:=Zdm (hmem n0 (by simp))
   have R:=M.each e he
   obtain⟨dp,hp⟩:=R.at'.ob
   have hat:atI (([e.n]:List Int).map V.int) 0=some (.int e.n):=Z6 (j:=0) rfl
   refine⟨_,rfl,m,cMerge,dx,_,_,rfl,hm,T.cl_Merge,T.na_Merge_rows,ZbI ..,_,rfl,l,_,_,_,rfl,rfl,SqL.of hl,hat,rd,_,rfl,ZbL.k' (k:=.inl e.n) M.rows (ZfV M.nd he),e.p,dp,_,rfl,hp,ZbK ..,e.p,e.k,e.f,e.ss,e.g,rfl,R.at',rfl,_,rfl,?_⟩
   have hst:Zex (hdM L) s (n+1) [e.n]:=fun h2=>by simp at h2
   have hpl:Zd4 (hdM L) (n+1) [e.n] 0 0:=.few (by show 1<2;decide)
   have hwin:=Win.sing (hd:=hdM L) (n:=e.n)
   have hd:=Zd6 M.nd he
   have M':=M.cast (li':=li+0) (lo':=lo'+0) (by omega) (by omega)
   cases hx:e.ss[e.g]? with
   | none =>
    rw[show Zeq e.ss e.g=.non by unfold Zeq;rw[hx]]
    rw[hd,hx]at hwin
    exact Zfn rfl (q none s 0 0 H hwin hst hpl (fun _ _=>rfl) (Qh _) M' (fun b o h _ _=>h))
   | some x =>
    rw[Zem hx]
    rw[hd,hx]at hwin
    exact ZdY (fun z=>nomatch z) ⟨_,rfl,l,_,_,_,rfl,rfl,SqL.of hl,hat,q (some e.n) s 0 0 H hwin hst hpl (fun _ _=>rfl) (Qh _) M' (fun b o h _ _=>h)⟩
  have hge:2≤N.length:=by
   have:¬ ((N.length:Int)=1):=fun z=>d (decide_eq_true (by rw[hll,z]))
   omega
  have hn1:1≤n:=by
   cases n with
   | zero=>simp at hp2;omega
   | succ m=>omega
  have hpow:2 ^ n=2*2 ^ (n-1):=by
   obtain⟨m,rfl⟩:∃m,n=m+1:=⟨n-1,by omega⟩
   rw[Nat.pow_succ,Qap];omega
  have hlo:(lo N).length≤2 ^ (n-1)∧(lo N).length≤60:=by unfold lo mid;rw[QA];omega
  have hupl:(up N).length≤2 ^ (n-1)∧(up N).length≤60:=by unfold up mid;rw[QV];omega
  have hsum:(lo N).length+(up N).length=N.length:=by rw[← Qf,Zb5]
  have hmlo:∀x∈lo N,x∈ZC L:=fun x hx=>hmem x (Q8 hx)
  have hmup:∀x∈up N,x∈ZC L:=fun x hx=>hmem x (Qaj hx)
  refine⟨_,rfl,l,N,rfl,SqL.of hl,by omega,fun t f r H2 ht hf hr' nfr ht2 hf2 hr2 s2 ntf ntr=>?_⟩
  rw[if_pos rfl]at ht2
  rw[ZpR]at hf2
  rw[Zo4]at hr2
  refine⟨t,_,rfl,SqT.of ht2,rfl,_,_,rfl,_,_,rfl,rfl,?_⟩
  have M2:=M.same s2
  have hm2:=s2 _ _ hm
  have nfm:r≠m:=(Zb hm hr').symm
  have nfs:r≠sd:=(Zb M.stays hr').symm
  refine⟨_,rfl,m,dx,_,rfl,hm2,Zd9 ..,_,rfl,m,rd,sd,L,s,nb,li,lo',best,f,lo N,rfl,M2,hf2,(ZdB hge).2,hlo.2,hn1,hlo.1,hmlo,ZdG hup,fun k hk=>hfree k ⟨hge,.inl hk⟩,by omega,fun w1 s1 k1 q1 H3 W1 S1 P1 o1 l1 M3 b3=>?_⟩
  have hr3:=b3 _ _ hr2 nfm nfs
  obtain⟨dx3,hm3⟩:=M3.ob
  refine⟨_,rfl,m,dx3,_,rfl,hm3,Zd9 ..,_,rfl,m,rd,sd,L,s1,nb,_,_,best,r,up N,rfl,M3,hr3,(Zd2 hge).2,hupl.2,hn1,hupl.1,hmup,ZdD hup,fun k hk=>?_,by omega,fun w2 s2' k2 q2 H4 W2 S2 P2 o2 l2 M4 b4=>?_⟩
  ·rw[o1 k ((Zg9 hup hge hk).2 n)]
   exact hfree k ⟨hge,.inr (.inl hk)⟩
  have key_n:¬ Zer n (lo N) (ZL N)∧¬ Zer n (up N) (ZL N):=⟨fun z=>(Zg5 hup hge z).1 rfl,fun z=>(Zg9 hup hge z).1 rfl⟩
  have S1':Zex (hdM L) s2' n (lo N):=S1.congr n _ (fun _ _=>rfl) (fun k hk=>o2 k ((Zg5 hup hge hk).2 n))
  have hk2:ZO s2' (ZL N)=none:=by rw[o2 _ key_n.2,o1 _ key_n.1];exact hfree _ ⟨hge,.inr (.inr rfl)⟩
  have oth:∀j,¬ Zer (n+1) N j→ZO s2' j=ZO s j:=fun j hj=>by
   rw[o2 j (fun z=>hj ⟨hge,.inr (.inl z)⟩),o1 j (fun z=>hj ⟨hge,.inl z⟩)]
  have b04:∀b o,H b=some o→b≠m→b≠sd→H4 b=some o:=fun b o hb n1 n2=>b4 b o (b3 b o (s2 b o hb) n1 n2) n1 n2
  have none':∀wn,Win (hdM L) N wn→(Win (hdM L) (lo N) none∨Win (hdM L) (up N) none)→Q (Zd0 wn) H4:=fun wn hw hno=>by
   refine q wn s2' (k1+k2) (q1+q2) H4 hw (fun _=>⟨S1',S2,fun a b x y wa wb _ _=>?_,fun _=>.inl hk2⟩) (.none hge P1 P2 hno) oth (by omega) (M4.cast (by omega) (by omega)) b04
   rcases hno with z|z
   ·exact nomatch z.one wa
   ·exact nomatch z.one wb
  cases w1 with
  | none=>exact⟨_,rfl,rfl,_,rfl,Zfn rfl ⟨_,rfl,none' w2 (by have:=Win.right W1 W2;rwa [Zb5]at this) (.inl W1)⟩⟩
  | some a =>
  refine⟨_,rfl,rfl,_,rfl,ZdY (fun z=>nomatch z) ?_⟩
  cases w2 with
  | none=>exact⟨_,rfl,rfl,_,rfl,Zfn rfl ⟨_,rfl,none' (some a) (by have:=Win.left W1 W2;rwa [Zb5]at this) (.inr W2)⟩⟩
  | some b =>
  refine⟨_,rfl,rfl,_,rfl,ZdY (fun z=>nomatch z) ?_⟩
  obtain⟨ea,hea,ea'⟩:=Zdm (hmlo a W1.1)
  obtain⟨eb,heb,eb'⟩:=Zdm (hmup b W2.1)
  subst ea'
  subst eb'
  have hda:=Zd6 M.nd hea
  have hdb:=Zd6 M.nd heb
  cases hx:ea.ss[ea.g]? with
  | none=>obtain⟨_,z,hz,_⟩:=W1;rw[hda,hx]at hz;cases hz
  | some x =>
  cases hy:eb.ss[eb.g]? with
  | none=>obtain⟨_,z,hz,_⟩:=W2;rw[hdb,hy]at hz;cases hz
  | some y =>
  rw[hx]at hda
  rw[hy]at hdb
  obtain⟨dx4,hm4⟩:=M4.ob
  refine⟨_,rfl,m,dx4,_,rfl,hm4,Zfg ..,_,rfl,_,rfl,m,rd,sd,L,s2',nb,_,_,best,ea,eb,x,y,0,rfl,M4,hea,heb,hx,hy,Qv _,fun t5 wi lz H5 hw ht5 ht5' M5 b5=>?_⟩
  refine⟨t5,_,rfl,SqT.of ht5',rfl,_,_,rfl,_,_,rfl,_,_,rfl,rfl,?_⟩
  have sz2:2≤sizeLine:=by decide
  refine⟨_,rfl,_,rfl,sz2,fun t6 ht6=>?_⟩
  have s6:=Zi ht6 (.tup [.int lz,.int ((lcp (cds x) (cds y):Nat):Int)])
  have ht66:(upd H5 t6 (.tup [.int lz,.int ((lcp (cds x) (cds y):Nat):Int)])) t6=some (.tup [.int lz,.int ((lcp (cds x) (cds y):Nat):Int)]):=Zc
  have M6:=M5.same s6
  generalize upd H5 t6 (.tup [.int lz,.int ((lcp (cds x) (cds y):Nat):Int)])=H6 at s6 ht66 M6 ⊢
  obtain⟨dx6,hm6⟩:=M6.ob
  have hl6:H6 l=some (.lst (N.map V.int)):=s6 _ _ (b5 _ _ (b04 _ _ hl nml nsl) nml)
  refine⟨_,rfl,m,cMerge,dx6,_,_,rfl,hm6,T.cl_Merge,T.na_Merge_stays,ZcI ..,_,rfl,l,_,_,_,rfl,rfl,SqL.of hl6,Zh0 hN,_,rfl,_,rfl,l,_,_,_,rfl,rfl,SqL.of hl6,Zir hN,sz2,fun t7 ht7=>?_⟩
  have s7:=Zi ht7 (.tup [.int (N.headD 0),.int (N.getLastD 0)])
  have ht77:(upd H6 t7 (.tup [.int (N.headD 0),.int (N.getLastD 0)])) t7=some (.tup ([.inl (ZL N).1,.inl (ZL N).2].map kV)):=Zc
  have M7:=M6.same s7
  generalize upd H6 t7 (.tup [.int (N.headD 0),.int (N.getLastD 0)])=H7 at s7 ht77 M7 ⊢
  have hsl:(kvS s2').length<sizeLine:=by unfold kvS;rw[Qa];exact ZJ (by omega)
  refine⟨sd,_,rfl,ZeN.t (k:=[.inl (ZL N).1,.inl (ZL N).2]) M7.stays ht77 hsl,?_⟩
  rw[show V.ref t6=stV (some (t6,lz,((lcp (cds x) (cds y):Nat):Int))) from rfl,Ze5]
  have hpl:=ZlC s2' (ZL N) (some (t6,lz,((lcp (cds x) (cds y):Nat):Int)))
  have l1':=(ZdB hge).2
  have M8:=M7.put (k:=ZL N) (v:=some (t6,lz,((lcp (cds x) (cds y):Nat):Int))) (fun t ht=>by injection ht with ht;rw[← ht];exact s7 _ _ ht66) (by omega)
  have hne:ea.n≠eb.n:=fun z=>by have:=ZH hup W1.1 W2.1;omega
  have b08:∀b o,H b=some o→b≠m→b≠sd→(upd H7 sd (.dT (kvS (ZcF s2' (ZL N) (some (t6,lz,((lcp (cds x) (cds y):Nat):Int))))))) b=some o:=fun b o hb n1 n2=>by
   rw[Zd n2];exact s7 _ _ (s6 _ _ (b5 _ _ (b04 _ _ hb n1 n2) n1))
  have hwin:Win (hdM L) N (some wi):=by
   rcases hw with⟨w0,rfl,_⟩|⟨w0,rfl,_⟩
   ·have:=Win.both W1 W2 hda hdb w0;rwa [Zb5]at this
   ·have:=Win.both' W1 W2 hda hdb ((Btr.total hne).resolve_left w0);rwa [Zb5]at this
  have hlz:lz=if ZE (cds x) (cds y)<0∨(ZE (cds x) (cds y)=0∧ea.n<eb.n) then eb.n else ea.n:=by
   rcases hw with⟨w0,_,rfl⟩|⟨w0,_,rfl⟩
   ·exact(if_pos (show ZE (cds x) (cds y)<0∨(ZE (cds x) (cds y)=0∧ea.n<eb.n) from w0)).symm
   ·exact(if_neg (show ¬ (ZE (cds x) (cds y)<0∨(ZE (cds x) (cds y)=0∧ea.n<eb.n)) from w0)).symm
  refine⟨_,rfl,q (some wi) _ (k1+k2+1) (q1+q2+(lcp (cds x) (cds y):Nat)+1) _ hwin (fun _=>⟨?_,?_,?_,fun hno=>?_⟩) (.both hge P1 P2 W1 W2 hda hdb) (fun j hj=>?_) (by omega) (M8.cast (by omega) (by omega)) b08⟩
  ·exact S1'.congr n _ (fun _ _=>rfl) (fun k hk=>by rw[ZaQ,if_neg (Zg5 hup hge hk).1])
  ·exact S2.congr n _ (fun _ _=>rfl) (fun k hk=>by rw[ZaQ,if_neg (Zg9 hup hge hk).1])
  ·intro a' b' x' y' wa wb hxa hyb
   have e1:=Qp (wa.one W1)
   have e2:=Qp (wb.one W2)
   subst e1
   subst e2
   have e3:=Qp (hxa.symm.trans hda)
   have e4:=Qp (hyb.symm.trans hdb)
   subst e3
   subst e4
   exact⟨t6,by rw[ZaQ,if_pos rfl,hlz]⟩
  ·rcases hno with z|z
   ·exact nomatch z.one W1
   ·exact nomatch z.one W2
  ·rw[ZaQ,if_neg (fun z=>hj ⟨hge,.inr (.inr z)⟩)]
   exact oth j hj
theorem Zep.mono{C:Addr}{H H':Hp}{e:ZB}(h:Zep C H e)(k:∀b o,H b=some o→b=e.p∨b=e.k∨b=e.f→H' b=some o):Zep C H' e:=by
 obtain⟨dx,hd⟩:=h.at'.ob
 exact⟨⟨⟨dx,k _ _ hd (.inl rfl)⟩,k _ _ h.at'.ks (.inr (.inl rfl)),k _ _ h.at'.fs (.inr (.inr rfl))⟩,h.le,h.len,h.srt,h.str⟩
theorem Zm6(L:List ZB):(kvM L).map (fun kv=>kV kv.1)=(ZC L).map V.int:=by unfold kvM ZC;rw[QC,QC];rfl
theorem Zlr{n:Nat}{N:List Int}{k:Int×Int}(_:Zer n N k):ZO [] k=none:=rfl
def ZgL(cR cM:Addr):Sp:=fun vs H Q _=>∃ (m rd sd:Addr) (L:List ZB) (s:StL) (nb li lo:Int) (best:V),vs=[.ref m]∧ZX cR cM H m rd sd L s nb li lo best ∧
 ∀ (sd':Addr) (s':StL) (w:Option Int) (k q:Int) (H':Hp),H sd'=none→Win (hdM L) (ZC L) w→Zex (hdM L) s' 8 (ZC L)→Zd4 (hdM L) 8 (ZC L) k q→ZX cR cM H' m rd sd' L s' nb (li+k) (lo+q) (Zd0 w)→(∀b o,H b=some o→b≠m→H' b=some o)→Q .non H'
theorem ZhD(T:Zaj K mg cRow cMerge)(f_Merge_play:Mf P w K mg base 12 cMerge "play" ["self", "numbers"] (Zmm K cRow cMerge 8)):Mf P w K mg base 13 cMerge "play_all" ["self"] (ZgL cRow cMerge):=by
 refine T.t_Merge_play_all.mf Zet (fun vs H Q E h=>?_) (fun cdv f A outer s H vs Q E hr h=>?_)
 ·obtain⟨m,rd,sd,L,s,nb,li,lo,best,rfl,_⟩:=h
  rfl
 obtain⟨m,rd,sd,L,s,nb,li,lo',best,rfl,M,q⟩:=h
 refine⟨_,#[Zf,#[ZbO,‹0›,(@Zhe _ _)],#[Zj,#[ZbO,‹0›,#[Zbb,#[Zn,ZeY,#[Zk,ZrA,(by rfl),T.b.n_len,Qu,#[Za,#[Z8,‹0›],#[Ze]]],#[Zh],(Zt _)],#[Ze0,f_Merge_play,T.cl_Merge,hr,‹0›,#[Za,#[ZbY,ZqO,T.b.n_list,boot_list,#[Za,#[Z8,‹0›],#[Ze]]],#[Ze]]],#[ZaA]]]]],?_⟩
 refine fun sd' hsd=>?_
 obtain⟨dx,hm⟩:=M.ob
 have s1:=Zi hsd (.dT [])
 have hs1:(upd H sd' (.dT [])) sd'=some (.dT (kvS [])):=Zc
 have M1:=M.same s1
 have hm1:=s1 _ _ hm
 have nms:m≠sd':=Zb hm hsd
 have nrs:rd≠sd':=Zb M.rows hsd
 generalize upd H sd' (.dT [])=H1 at s1 hs1 M1 hm1 ⊢
 refine⟨_,rfl,m,cMerge,dx,_,rfl,hm1,T.cl_Merge,T.na_Merge_stays,Zcc ..,?_⟩
 rw[Zga]
 obtain⟨n1,n2,n3⟩:=M.ne_m
 have M2:ZX cRow cMerge (upd H1 m (.ins cMerge dx (mgF rd nb li lo' sd' best))) m rd sd' L [] nb li lo' best:=by
  refine⟨⟨dx,Zc⟩,by rw[Zd n1.symm];exact M1.rows,by rw[Zd nms.symm];exact hs1,(fun e he=>by cases he),fun e he=>?_,M.up,M.pd,M.few,by decide⟩
  obtain⟨a,b,c⟩:=M1.ne_p he
  exact(M1.each e he).keep (Zd a.symm) (Zd b.symm) (Zd c.symm)
 have k2:∀b o,H b=some o→b≠m→(upd H1 m (.ins cMerge dx (mgF rd nb li lo' sd' best))) b=some o:=fun b o hb n=>by rw[Zd n];exact s1 b o hb
 generalize upd H1 m (.ins cMerge dx (mgF rd nb li lo' sd' best))=H2 at M2 k2 ⊢
 obtain⟨dx2,hm2⟩:=M2.ob
 have hlen:(((kvM L).length:Nat):Int)=(L.length:Int):=by unfold kvM;rw[Qa]
 have hnl:(ZC L).length=L.length:=by unfold ZC;rw[Qa]
 have hfew:=M.few
 refine⟨_,rfl,m,cMerge,dx2,_,_,rfl,hm2,T.cl_Merge,T.na_Merge_rows,ZbI ..,rd,_,rfl,M2.rows,_,_,rfl,rfl,_,rfl,Za4 (fun d=>?_) (fun d=>?_)⟩
 ·have hpos:0<L.length:=by have:(0:Int)<(((kvM L).length:Nat):Int):=of_decide_eq_true d;omega
  refine⟨_,rfl,m,dx2,_,rfl,hm2,Zd9 ..,_,rfl,m,cMerge,dx2,_,_,rfl,hm2,T.cl_Merge,T.na_Merge_rows,ZbI ..,rd,_,rfl,M2.rows,fun l hl=>?_⟩
  rw[Zm6]
  have s3:=Zi hl (.lst ((ZC L).map V.int))
  have hl3:(upd H2 l (.lst ((ZC L).map V.int))) l=some (.lst ((ZC L).map V.int)):=Zc
  have M3:=M2.same s3
  generalize upd H2 l (.lst ((ZC L).map V.int))=H3 at s3 hl3 M3 ⊢
  refine⟨m,rd,sd',L,[],nb,li,lo',best,l,ZC L,rfl,M3,hl3,by omega,by omega,by decide,QM (by omega:(ZC L).length≤60) (by decide),fun x hx=>hx,M.up,fun k hk=>Zlr hk,by show 0+_≤_;omega,fun w1 s' k q' H4 W S Pl _ _ M4 b4=>?_⟩
  obtain⟨dx4,hm4⟩:=M4.ob
  refine⟨_,rfl,m,cMerge,dx4,_,rfl,hm4,T.cl_Merge,T.na_Merge_best,Zcc ..,?_⟩
  rw[ZbT]
  exact q sd' s' w1 k q' _ hsd W S Pl M4.obj (fun b o hb n=>by rw[Zd n];exact b4 b o (s3 b o (k2 b o hb n)) n (Zb hb hsd))
 ·have hnil:L=[]:=by
   cases L with
   | nil=>rfl
   | cons e r=>exact absurd (decide_eq_true (show (0:Int)<(((kvM (e::r)).length:Nat):Int) by rw[hlen];simp only[List.length_cons];omega)) d
  subst hnil
  refine⟨_,rfl,m,cMerge,dx2,_,rfl,hm2,T.cl_Merge,T.na_Merge_best,Zcc ..,?_⟩
  rw[ZbT]
  exact q sd' [] none 0 0 _ hsd (Win.nil _) (fun h2=>absurd h2 (by decide)) (.few (by decide)) (M2.obj.cast (by omega) (by omega)) (fun b o hb n=>by rw[Zd n];exact k2 b o hb n)
def ZpK(L:List ZB)(rs:List (Addr×List Str)):Prop:=ZC L=Z0 0 rs.length∧L.map (fun e=>(e.ss,e.g))=rs.map fun x=>(x.2,0)
def ZeZ(cR cM:Addr):Sp:=fun vs H Q _=>∃ (m dx r:Addr) (rs:List (Addr×List Str)),vs=[.ref m,.ref r]∧H m=some (.ins cM dx [])∧Zcj H r rs∧(∀x∈rs,sortedS x.2=true) ∧
 ∀ (rd sd:Addr) (L:List ZB) (s:StL) (w:Option Int) (k q:Int) (H':Hp),ZX cR cM H' m rd sd L s (rs.length:Int) k q (Zd0 w)→ZpK L rs→Win (hdM L) (ZC L) w→Zex (hdM L) s 8 (ZC L)→Zd4 (hdM L) 8 (ZC L) k q→(∀b,Fp m rd sd L b→b=m∨H b=none)→(∀b o,H b=some o→b≠m→H' b=some o)→Q .non H'
theorem ZfD(rd:Addr)(nb li lo:Int)(sd:Addr)(best:V):(mgF rd nb li lo sd best).lookup ("play_all" : Str)=none:=ZcN _ _ _ _ _ _ (by ac_rfl) (by ac_rfl) (by ac_rfl) (by ac_rfl) (by ac_rfl) (by ac_rfl)
theorem Zno{ss:List Str}(h:sortedS ss=true):Zid ss .non:=by
 refine .inl ⟨rfl,fun i x y hx hy=>?_⟩
 have:=ZgM h i y x hy hx
 have:=ZaD (cds y) (cds x)
 omega
theorem Zf5(T:Zaj K mg cRow cMerge)(f_refuse_break:Df P w K mg base 5 "refuse_break" ["number", "keys"] (ZfF K))(f_Row_init:Cf P w K mg base 4 cRow "Row" ["self", "keys"] (ZgR cRow))(f_Merge_play_all:Mf P w K mg base 13 cMerge "play_all" ["self"] (ZgL cRow cMerge)):Cf P w K mg base 14 cMerge "Merge" ["self", "rows"] (ZeZ cRow cMerge):=by
 refine T.t_Merge_init.cf Zch (fun vs H Q E h=>?_) (fun cdv f A outer s H vs Q E hr h=>?_)
 ·obtain⟨m,dx,r,rs,rfl,_⟩:=h
  rfl
 obtain⟨m,dx,r,rs,rfl,hm,hrs,hsrt,q⟩:=h
 refine⟨_,#[Zf,#[ZbO,‹0›,(@ZmC _ _)],#[Zf,#[Zb8,PassesOwn.never,(@iE _ K _ _ _ _ _ _ _ T.b.n_enumerate #[Za,‹1›,#[Ze]] (by rfl) (by rfl) (by rfl)),#[gT,K,2,#[Zv,#[Zx,2,Zch.nd],#[Zv,#[Zx,3,Zch.nd],(@ZaL _)]]],#[Zf,#[ZaU,#[ZA,f_refuse_break,hr,#[Za,‹2›,#[Za,‹3›,#[Ze]]],(by rfl)]],#[Zj,#[ZaT,#[ZoE,f_Row_init,hr,#[Za,‹3›,#[Ze]]],#[Zdl,#[Z8,‹0›],‹2›,(Zlw hr)]]]]],#[Zf,#[ZbO,‹0›,#[Zk,(ZbH K),(by rfl),T.b.n_len,Qu,#[Za,‹1›,#[Ze]]]],#[Zf,#[ZbO,‹0›,#[Zh]],#[Zf,#[ZbO,‹0›,#[Zh]],#[Zf,#[ZbO,‹0›,(@Zhe _ _)],#[Zf,#[ZbO,‹0›,#[ZaA]],#[Zj,#[ZaU,#[ZcM,f_Merge_play_all,T.cl_Merge,hr,‹0›]]]]]]]]]],?_⟩
 refine fun rd hrd=>?_
 have nmr:m≠rd:=Zb hm hrd
 have s1:=Zi hrd (.dK [])
 have hr1:(upd H rd (.dK [])) rd=some (.dK (kvM [])):=Zc
 have hm1:=s1 _ _ hm
 generalize upd H rd (.dK [])=H1 at s1 hr1 hm1 ⊢
 refine⟨_,rfl,m,cMerge,dx,_,rfl,hm1,T.cl_Merge,T.na_Merge_rows,(by show 0<1000;decide),?_⟩
 have nrm:r≠m:=fun z=>by have:=hrs.at';rw[z,hm]at this;cases this
 have k2:∀b o,H b=some o→b≠m→(upd H1 m (.ins cMerge dx (Zo "rows" (.ref rd) []))) b=some o:=fun b o hb n=>by rw[Zd n];exact s1 b o hb
 have hm2:(upd H1 m (.ins cMerge dx (Zo "rows" (.ref rd) []))) m=some (.ins cMerge dx (Zo "rows" (.ref rd) [])):=Zc
 have hr2:(upd H1 m (.ins cMerge dx (Zo "rows" (.ref rd) []))) rd=some (.dK (kvM [])):=by rw[Zd nmr.symm];exact hr1
 generalize upd H1 m (.ins cMerge dx (Zo "rows" (.ref rd) []))=H2 at k2 hm2 hr2 ⊢
 have hfew:=hrs.few
 have lkr:(Zo "rows" (.ref rd) []).lookup ("rows" : Str)=some (V.ref rd):=by rw[Zl,if_pos rfl]
 refine⟨_,rfl,r,_,rfl,SqL.of (k2 _ _ hrs.at' nrm),?_⟩
 refine Zii (K:=K) (a:=r) (xs:=rs.map fun x=>V.ref x.1) (fun i σ H5=>∃ (L:List ZB) (v2 v3:Option V),σ=[some (.ref m),some (.ref r),v2,v3]∧H5 m=some (.ins cMerge dx (Zo "rows" (.ref rd) []))∧H5 rd=some (.dK (kvM L))∧(∀e∈L,Zep cRow H5 e)∧ZpK L (rs.take i)∧(L.map (·.p)).Nodup∧(∀e∈L,H e.p=none∧H e.k=none∧H e.f=none)∧(∀b o,H b=some o→b≠m→H5 b=some o)) ⟨[],_,_,rfl,hm2,hr2,(fun e h=>by cases h),⟨rfl,rfl⟩,List.nodup_nil,(fun e h=>by cases h),k2⟩ (fun i σ H5 hq=>by obtain⟨_,_,_,_,_,_,_,_,_,_,k5⟩:=hq;exact SqL.of (k5 _ _ hrs.at' nrm)) ?_ ?_
 ·rintro i y σ H5 p hy ⟨L,v2,v3,rfl,hm5,hr5,each,⟨n1,n2⟩,pd,hfr,k5⟩ hp
  rw[Qk]at hy
  cases hz:rs[i]? with
  | none=>rw[hz]at hy;cases hy
  | some x =>
  rw[hz]at hy
  cases hy
  have hil:i<rs.length:=(Qd.mp hz).1
  have hxm:=Qr hz
  obtain⟨lx,l100,laz⟩:=hrs.lst x hxm
  have nxm:x.1≠m:=fun z=>by rw[z,hm]at lx;cases lx
  have hLl:L.length=i:=by have:=congrArg List.length n1;unfold ZC at this;rw[Qa,ZaF,QA]at this;omega
  have hlt:∀e∈L,e.n≠(i:Int):=fun e he z=>by
   have h1:e.n∈Z0 0 (rs.take i).length:=by rw[← n1];exact Qo (f:=fun e:ZB=>e.n) he
   unfold Z0 at h1
   obtain⟨j,hj,ej⟩:=Qx.mp h1
   have:=Q5.mp hj
   rw[QA]at this
   omega
  have sp:=Zi hp (.tup [.int (i:Int),.ref x.1])
  have hp6:(upd H5 p (.tup [.int (i:Int),.ref x.1])) p=some (.tup [.int (i:Int),.ref x.1]):=Zc
  generalize upd H5 p (.tup [.int (i:Int),.ref x.1])=H6 at sp hp6 ⊢
  refine⟨p,_,rfl,SqT.of hp6,rfl,_,_,rfl,_,_,rfl,rfl,?_⟩
  have lx6:H6 x.1=some (.lst (x.2.map V.str)):=sp _ _ (k5 _ _ lx nxm)
  refine⟨_,rfl,_,rfl,(i:Int),x.1,x.2,rfl,SqL.of lx6,by omega,fun s hs=>(laz s hs).1,Zno (hsrt x hxm),fun H7 s7=>?_⟩
  have s57:=sp.trans s7
  refine⟨_,rfl,fun u dy hu hdy ndu=>?_⟩
  have hu5:H5 u=none:=s57.free hu
  have lx8:(upd (upd H7 dy (.own u)) u (.ins cRow dy [])) x.1=some (.lst (x.2.map V.str)):=by
   have:=s7 _ _ lx6
   rw[Zd (Zb this hu),Zd (Zb this hdy)];exact this
  have s8:∀b o,H5 b=some o→(upd (upd H7 dy (.own u)) u (.ins cRow dy [])) b=some o:=fun b o hb=>by
   have:=s57 _ _ hb
   rw[Zd (Zb this hu),Zd (Zb this hdy)];exact this
  have hu8:(upd (upd H7 dy (.own u)) u (.ins cRow dy [])) u=some (.ins cRow dy []):=Zc
  generalize upd (upd H7 dy (.own u)) u (.ins cRow dy [])=H8 at lx8 s8 hu8 ⊢
  refine⟨u,dy,x.1,x.2,rfl,hu8,lx8,l100,fun s hs=>(laz s hs).1,fun k f H9 hk hf nkf R k9=>⟨rfl,?_⟩⟩
  have s9:∀b o,H5 b=some o→H9 b=some o:=fun b o hb=>k9 b o (s8 b o hb) (Zb hb hu5)
  have free5:∀b,H8 b=none→H5 b=none:=fun b hb=>by
   cases e:H5 b with
   | none=>rfl
   | some o=>rw[s8 b o e]at hb;cases hb
  have free0:∀b,b≠m→H5 b=none→H b=none:=fun b nb hb=>by
   cases e:H b with
   | none=>rfl
   | some o=>rw[k5 b o e nb]at hb;cases hb
  have num:u≠m:=fun z=>by rw[z,hm5]at hu5;cases hu5
  have nkm:k≠m:=fun z=>by have:=free5 k hk;rw[z,hm5]at this;cases this
  have nfm:f≠m:=fun z=>by have:=free5 f hf;rw[z,hm5]at this;cases this
  have nrd:rd≠u∧rd≠k∧rd≠f:=⟨Zb hr5 hu5,Zb hr5 (free5 k hk),Zb hr5 (free5 f hf)⟩
  have hsz:(kvM L).length<sizeLine:=by unfold kvM;rw[Qa];exact ZJ (by omega)
  have hn1:Zbq (kvM L) (.inl (i:Int))=none:=by
   cases hv:Zbq (kvM L) (.inl (i:Int)) with
   | none=>rfl
   | some v=>obtain⟨e,he,z⟩:=Qx.mp (ZlN hv);injection z with z _;exact absurd (Sum.inl.inj z) (hlt e he)
  refine⟨_,rfl,m,cMerge,dx,_,_,rfl,s9 _ _ hm5,T.cl_Merge,T.na_Merge_rows,lkr,_,rfl,rd,_,rfl,ZeN.k (k:=.inl (i:Int)) (s9 _ _ hr5) hsz,?_⟩
  rw[ZmI _ hn1,show kvM L++[((.inl (i:Int):Key),V.ref u)]=kvM (L++[⟨(i:Int),u,k,f,x.2,0⟩]) by unfold kvM;rw[Qg];rfl]
  refine⟨L++[⟨(i:Int),u,k,f,x.2,0⟩],_,_,rfl,by rw[Zd nmr];exact s9 _ _ hm5,Zc,fun e he=>?_,⟨?_,?_⟩,?_,fun e he=>?_,fun b o hb n=>?_⟩
  ·rcases Qe.mp he with he|he
   ·have re:=each e he
    obtain⟨de,hde⟩:=re.at'.ob
    refine re.mono fun b o hb hor=>?_
    have nb:b≠rd:=fun z=>by
     rw[z,hr5]at hb
     injection hb with hb
     subst hb
     rcases hor with z2|z2|z2
     ·rw[← z2,z,hr5]at hde;cases hde
     ·have:=re.at'.ks;rw[← z2,z,hr5]at this;cases this
     ·have:=re.at'.fs;rw[← z2,z,hr5]at this;cases this
    rw[Zd nb];exact s9 b o hb
   ·rw[Qc.mp he]
    refine Zep.keep (H:=H9) ⟨R,Qv _,l100,hsrt x hxm,laz⟩ (Zd nrd.1.symm) (Zd nrd.2.1.symm) (Zd nrd.2.2.symm)
  ·unfold ZC at n1 ⊢
   rw[Qg,n1,QA,QA,Nat.min_eq_left (by omega),Nat.min_eq_left (by omega)]
   unfold Z0
   rw[QaB,Qg]
   simp
  ·rw[Qg,n2,QK,hz,Qg];rfl
  ·rw[Qg]
   refine QW.mpr ⟨pd,by simp,fun a ha b hb=>?_⟩
   obtain⟨e,he,rfl⟩:=Qx.mp ha
   have:b=u:=by simpa using hb
   rw[this]
   obtain⟨de,hde⟩:=(each e he).at'.ob
   exact Zb hde hu5
  ·rcases Qe.mp he with he|he
   ·exact hfr e he
   ·rw[Qc.mp he]
    exact⟨free0 u num hu5,free0 k nkm (free5 k hk),free0 f nfm (free5 f hf)⟩
  ·rw[Zd (Zb hb hrd)];exact s9 b o (k5 b o hb n)
 ·rintro σ H5 ⟨L,v2,v3,rfl,hm5,hr5,each,hnew,pd,hfr,k5⟩
  rw[Qa,Qz (Qh _)]at hnew
  have p1:=ZbE "rows" (V.ref rd) []
  have p2:=ZbE "next_number" (V.int (rs.length:Int)) (Zo "rows" (.ref rd) [])
  have p3:=ZbE "likened" (V.int 0) (Zo "next_number" (.int (rs.length:Int)) (Zo "rows" (.ref rd) []))
  have p4:=ZbE "looked" (V.int 0) (Zo "likened" (.int 0) (Zo "next_number" (.int (rs.length:Int)) (Zo "rows" (.ref rd) [])))
  have p0:([]:List (Str×V)).length=0:=rfl
  refine⟨_,rfl,r,_,rfl,.inl (SqL.of (k5 _ _ hrs.at' nrm)),_,rfl,m,cMerge,dx,_,rfl,hm5,T.cl_Merge,T.na_Merge_next_number,by omega,?_⟩
  rw[Qa]
  refine⟨_,rfl,m,cMerge,dx,_,rfl,Zc,T.cl_Merge,T.na_Merge_likened,by omega,?_⟩
  refine⟨_,rfl,m,cMerge,dx,_,rfl,Zc,T.cl_Merge,T.na_Merge_looked,by omega,?_⟩
  have k8:∀b,b≠m→(upd (upd (upd H5 m (.ins cMerge dx (Zo "next_number" (.int (rs.length:Int)) (Zo "rows" (.ref rd) [])))) m (.ins cMerge dx (Zo "likened" (.int 0) (Zo "next_number" (.int (rs.length:Int)) (Zo "rows" (.ref rd) []))))) m (.ins cMerge dx (Zo "looked" (.int 0) (Zo "likened" (.int 0) (Zo "next_number" (.int (rs.length:Int)) (Zo "rows" (.ref rd) [])))))) b=H5 b:=fun b n=>by rw[Zd n,Zd n,Zd n]
  have hm8:(upd (upd (upd H5 m (.ins cMerge dx (Zo "next_number" (.int (rs.length:Int)) (Zo "rows" (.ref rd) [])))) m (.ins cMerge dx (Zo "likened" (.int 0) (Zo "next_number" (.int (rs.length:Int)) (Zo "rows" (.ref rd) []))))) m (.ins cMerge dx (Zo "looked" (.int 0) (Zo "likened" (.int 0) (Zo "next_number" (.int (rs.length:Int)) (Zo "rows" (.ref rd) [])))))) m=some (.ins cMerge dx (Zo "looked" (.int 0) (Zo "likened" (.int 0) (Zo "next_number" (.int (rs.length:Int)) (Zo "rows" (.ref rd) []))))):=Zc
  generalize (upd (upd (upd H5 m (.ins cMerge dx (Zo "next_number" (.int (rs.length:Int)) (Zo "rows" (.ref rd) [])))) m (.ins cMerge dx (Zo "likened" (.int 0) (Zo "next_number" (.int (rs.length:Int)) (Zo "rows" (.ref rd) []))))) m (.ins cMerge dx (Zo "looked" (.int 0) (Zo "likened" (.int 0) (Zo "next_number" (.int (rs.length:Int)) (Zo "rows" (.ref rd) []))))))=H8 at k8 hm8 ⊢
  refine fun sd hsd=>?_
  have nms:m≠sd:=Zb hm8 hsd
  have p5:=ZbE "stays" (V.ref sd) (Zo "looked" (.int 0) (Zo "likened" (.int 0) (Zo "next_number" (.int (rs.length:Int)) (Zo "rows" (.ref rd) []))))
  refine⟨_,rfl,m,cMerge,dx,_,rfl,by rw[Zd nms];exact hm8,T.cl_Merge,T.na_Merge_stays,by omega,?_⟩
  refine⟨_,rfl,m,cMerge,dx,_,rfl,Zc,T.cl_Merge,T.na_Merge_best,by omega,?_⟩
  have hsd5:H5 sd=none:=by rw[← k8 sd nms.symm];exact hsd
  have hm9:(upd (upd (upd H8 sd (.dT [])) m (.ins cMerge dx (Zo "stays" (.ref sd) (Zo "looked" (.int 0) (Zo "likened" (.int 0) (Zo "next_number" (.int (rs.length:Int)) (Zo "rows" (.ref rd) []))))))) m (.ins cMerge dx (Zo "best" .non (Zo "stays" (.ref sd) (Zo "looked" (.int 0) (Zo "likened" (.int 0) (Zo "next_number" (.int (rs.length:Int)) (Zo "rows" (.ref rd) [])))))))) m=some (.ins cMerge dx (mgF rd (rs.length:Int) 0 0 sd .non)):=by rw[Zby];exact Zc
  have hs9:(upd (upd (upd H8 sd (.dT [])) m (.ins cMerge dx (Zo "stays" (.ref sd) (Zo "looked" (.int 0) (Zo "likened" (.int 0) (Zo "next_number" (.int (rs.length:Int)) (Zo "rows" (.ref rd) []))))))) m (.ins cMerge dx (Zo "best" .non (Zo "stays" (.ref sd) (Zo "looked" (.int 0) (Zo "likened" (.int 0) (Zo "next_number" (.int (rs.length:Int)) (Zo "rows" (.ref rd) [])))))))) sd=some (.dT (kvS [])):=by rw[Zd nms.symm,Zd nms.symm];exact Zc
  have k9:∀b o,H5 b=some o→b≠m→(upd (upd (upd H8 sd (.dT [])) m (.ins cMerge dx (Zo "stays" (.ref sd) (Zo "looked" (.int 0) (Zo "likened" (.int 0) (Zo "next_number" (.int (rs.length:Int)) (Zo "rows" (.ref rd) []))))))) m (.ins cMerge dx (Zo "best" .non (Zo "stays" (.ref sd) (Zo "looked" (.int 0) (Zo "likened" (.int 0) (Zo "next_number" (.int (rs.length:Int)) (Zo "rows" (.ref rd) [])))))))) b=some o:=fun b o hb n=>by rw[Zd n,Zd n,Zd (Zb hb hsd5),k8 b n];exact hb
  generalize (upd (upd (upd H8 sd (.dT [])) m (.ins cMerge dx (Zo "stays" (.ref sd) (Zo "looked" (.int 0) (Zo "likened" (.int 0) (Zo "next_number" (.int (rs.length:Int)) (Zo "rows" (.ref rd) []))))))) m (.ins cMerge dx (Zo "best" .non (Zo "stays" (.ref sd) (Zo "looked" (.int 0) (Zo "likened" (.int 0) (Zo "next_number" (.int (rs.length:Int)) (Zo "rows" (.ref rd) []))))))))=H9 at hm9 hs9 k9 ⊢
  have hLl:L.length=rs.length:=by have:=congrArg List.length hnew.1;unfold ZC at this;rw[Qa,ZaF]at this;exact this
  have M9:ZX cRow cMerge H9 m rd sd L [] (rs.length:Int) 0 0 .non:=by
   refine⟨⟨dx,hm9⟩,k9 _ _ hr5 nmr.symm,hs9,(fun e he=>by cases he),fun e he=>?_,by rw[hnew.1];exact Zfo _,pd,by omega,by decide⟩
   have re:=each e he
   obtain⟨de,hde⟩:=re.at'.ob
   refine re.mono fun b o hb hor=>k9 b o hb fun z=>?_
   have hf:=hfr e he
   have hm':=hm
   rw[← z]at hm'
   rcases hor with z2|z2|z2
   ·rw[z2,hf.1]at hm';cases hm'
   ·rw[z2,hf.2.1]at hm';cases hm'
   ·rw[z2,hf.2.2]at hm';cases hm'
  refine⟨_,rfl,m,dx,_,rfl,hm9,ZfD ..,m,rd,sd,L,[],_,0,0,.non,rfl,M9,fun sd' s' w1 k q' H10 hsd' W S Pl M10 b10=>?_⟩
  have free0:∀b,b≠m→H9 b=none→H b=none:=fun b nb hb=>by
   cases e:H b with
   | none=>rfl
   | some o=>rw[k9 b o (k5 b o e nb) nb]at hb;cases hb
  refine q rd sd' L s' w1 k q' H10 (M10.cast (by omega) (by omega)) hnew W S Pl (fun b hb=>?_) (fun b o hb n=>b10 b o (k9 b o (k5 b o hb n) n) n)
  rcases hb with rfl|rfl|rfl|⟨e,he,hb⟩
  ·exact .inl rfl
  ·exact .inr hrd
  ·exact .inr (free0 _ (fun z=>by rw[z,hm9]at hsd';cases hsd') hsd')
  ·have hf:=hfr e he
   rcases hb with rfl|rfl|rfl
   ·exact .inr hf.1
   ·exact .inr hf.2.1
   ·exact .inr hf.2.2
def spLik(cR cM:Addr):Sp:=fun vs H Q _=>∃ (m rd sd:Addr) (L:List ZB) (s:StL) (nb li lo:Int) (best:V),vs=[.ref m]∧ZX cR cM H m rd sd L s nb li lo best∧Q (.int li) H
def spLks(cR cM:Addr):Sp:=fun vs H Q _=>∃ (m rd sd:Addr) (L:List ZB) (s:StL) (nb li lo:Int) (best:V),vs=[.ref m]∧ZX cR cM H m rd sd L s nb li lo best∧Q (.int lo) H
def ZhW(cR cM:Addr):Sp:=fun vs H Q _=>∃ (m rd sd:Addr) (L:List ZB) (s:StL) (nb li lo:Int) (w:Option Int),vs=[.ref m]∧ZX cR cM H m rd sd L s nb li lo (Zd0 w)∧Win (hdM L) (ZC L) w∧∀ (x:V) (H':Hp),ZoA (L.map toL) H' x→Zu H H'→Q x H'
theorem ZkB(T:Zaj K mg cRow cMerge)(f_Row_head:Mf P w K mg base 2 cRow "head" ["self"] (Zfv cRow)):Mf P w K mg base 3 cMerge "coming" ["self"] (ZhW cRow cMerge):=by
 refine T.t_Merge_coming.mf Zc6 (fun vs H Q E h=>?_) (fun cdv f A outer s H vs Q E hr h=>?_)
 ·obtain⟨m,rd,sd,L,s,nb,li,lo,w,rfl,_⟩:=h
  rfl
 obtain⟨m,rd,sd,L,s,nb,li,lo,w,rfl,M,W,q⟩:=h
 refine⟨_,#[Zf,#[Zae,#[Zn,Zdg,#[Z8,‹0›],#[ZaA],(Zt _)],#[Zj,#[Zp,#[ZaA]]],#[ZF]],#[Zf,#[Zw,1,Zc6.nd,(Or.inl rfl),#[Zz,(ixG hr),#[Z8,‹0›],#[Z8,‹0›]]],#[Zj,#[Zp,#[ZU,#[Za,#[Z8,‹0›],#[Za,#[Z8,‹1›],#[Za,#[ZcM,f_Row_head,T.cl_Row,hr,‹1›],#[Ze]]]]]]]]],?_⟩
 obtain⟨dx,hm⟩:=M.ob
 refine⟨_,rfl,m,cMerge,dx,_,_,rfl,hm,T.cl_Merge,T.na_Merge_best,Zdz ..,rfl,_,rfl,?_⟩
 have W':Win (hdL (L.map toL)) ((L.map toL).map (·.1)) w:=by rw[Zeh];exact W
 cases w with
 | none=>exact Zfn rfl (q _ H (.inl ⟨rfl,W'⟩) (Zu.refl H))
 | some a =>
  obtain⟨e,he,rfl⟩:=Zdm W.1
  have R:=M.each e he
  obtain⟨dp,hp⟩:=R.at'.ob
  have hd:=Zd6 M.nd he
  cases hx:e.ss[e.g]? with
  | none=>obtain⟨_,z,hz,_⟩:=W;rw[hd,hx]at hz;cases hz
  | some x =>
  refine ZdY (fun z=>nomatch z) ?_
  refine⟨_,rfl,m,cMerge,dx,_,_,rfl,hm,T.cl_Merge,T.na_Merge_rows,ZbI ..,_,rfl,m,cMerge,dx,_,_,rfl,hm,T.cl_Merge,T.na_Merge_best,Zdz ..,rd,_,rfl,ZbL.k' (k:=.inl e.n) M.rows (ZfV M.nd he),?_⟩
  refine⟨_,rfl,m,cMerge,dx,_,_,rfl,hm,T.cl_Merge,T.na_Merge_best,Zdz ..,_,rfl,e.p,cRow,dp,_,_,rfl,hp,T.cl_Row,T.na_Row_gone,ZcC ..,_,rfl,e.p,dp,_,rfl,hp,ZbK ..,e.p,e.k,e.f,e.ss,e.g,rfl,R.at',(by show 3≤sizeLine;decide),fun t ht=>?_⟩
  rw[Zem hx]
  exact q _ _ (.inr ⟨t,toL e,x,rfl,Qo he,hx,Zc,W'⟩) (Zi ht _)
def spLeftM(cR cM:Addr):Sp:=fun vs H Q _=>∃ (m rd sd:Addr) (L:List ZB) (s:StL) (nb li lo:Int) (best:V),vs=[.ref m]∧ZX cR cM H m rd sd L s nb li lo best∧∀H':Hp,Zu H H'→Q (.int (ZoM (L.map toL)).sum) H'
def ZrG(L:List ZaX):List (Int×Option Str):=L.map fun e=>(e.1,e.2.2.1[e.2.2.2]?)
def Zqe(H:Hp)(l:Addr)(E:List (Int×Option Str)):Prop:=∃ts:List (Addr×Int×Option Str),ts.map (·.2)=E∧H l=some (.lst (ts.map fun t=>V.ref t.1))∧∀t∈ts,H t.1=some (.tup [.int t.2.1,oV t.2.2])
theorem ZlF(ss:List Str)(g:Nat):Zeq ss g=oV ss[g]?:=by unfold Zeq oV;cases ss[g]?<;>rfl
def spHeadsM(cR cM:Addr):Sp:=fun vs H Q _=>∃ (m rd sd:Addr) (L:List ZB) (s:StL) (nb li lo:Int) (best:V),vs=[.ref m]∧ZX cR cM H m rd sd L s nb li lo best∧∀ (l:Addr) (H':Hp),H l=none→Zqe H' l (ZrG (L.map toL))→Zu H H'→Q (.ref l) H'
def Agr(Lo:List ZaX)(L:List ZB):Prop:=Lo.map (fun e=>(e.1,e.2.2))=L.map (fun e=>(e.n,(e.ss,e.g)))
theorem ZjW:∀ (A B:List ZaX),A.map (fun e=>(e.1,e.2.2))=B.map (fun e=>(e.1,e.2.2))→hdL A=hdL B
 | [],[],_=>rfl
 | [],_::_,h=>by cases h
 | _::_,[],h=>by cases h
 | a::A,b::B,h=>by
  rw[Qn,Qn]at h
  injection h with h1 h2
  injection h1 with h3 h4
  have ih:=ZjW A B h2
  funext n
  have ihn:=congrFun ih n
  unfold hdL at ihn ⊢
  rw[Qah,Qah,h3]
  split
  ·simp only[Option.bind_some];rw[h4]
  ·exact ihn
theorem Zc2{α β:Type}:∀ {P:List (α×β)},(P.map (·.1)).Nodup→∀ {p q:α×β},p∈P→q∈P→p.1=q.1→p=q
 | [],_,_,_,h,_,_=>by cases h
 | x::r,nd,p,q,hp,hq,e=>by
  rw[Qn,QZ]at nd
  rcases QG.mp hp with h1|h1
  ·rcases QG.mp hq with h2|h2
   ·rw[h1,h2]
   ·exact absurd (show x.1∈r.map (·.1) by rw[← h1,e];exact Qo (f:=fun x:α×β=>x.1) h2) nd.1
  ·rcases QG.mp hq with h2|h2
   ·exact absurd (show x.1∈r.map (·.1) by rw[← h2,← e];exact Qo (f:=fun x:α×β=>x.1) h1) nd.1
   ·exact Zc2 nd.2 h1 h2 e
def FlatV(x:V):Prop:=x=.non∨(∃b,x=.bl b)∨(∃i,x=.int i)∨∃s,x=.str s
structure F2 (R:V→V→Prop) (xs ys:List V):Prop where
 len:xs.length=ys.length
 at':∀ (i:Nat) (x y:V),xs[i]? = some x→ys[i]? = some y→R x y
theorem Zhn(rd:Addr)(nb li lo:Int)(sd:Addr)(best:V):(mgF rd nb li lo sd best).lookup ("coming" : Str)=none:=ZcN _ _ _ _ _ _ (by ac_rfl) (by ac_rfl) (by ac_rfl) (by ac_rfl) (by ac_rfl) (by ac_rfl)
def spStands(cR cM:Addr):Sp:=fun vs H Q _=>∃ (m rd sd:Addr) (L:List ZB) (s:StL) (nb li lo:Int) (w:Option Int) (o ra ga:Addr) (Lo:List ZaX) (nb':Int),vs=[.ref m,.ref o]∧ZX cR cM H m rd sd L s nb li lo (Zd0 w)∧Win (hdM L) (ZC L) w∧Own H o ra ga Lo nb' li lo∧Agr Lo L∧∀H',Zu H H'→Q (.bl true) H'
def rowsD(rs:List (Addr×List Str)):PyData:=.list (rs.map fun x=>.list (x.2.map PyData.str))
def Zaa(M:List Int)(n:Int):List Int:=if n∈lo M then lo M else up M
def Zak(M:List Int)(n:Int):List Int:=if n∈lo M then up M else lo M
def ZR:Nat→List Int→Int→List (List Int)
 | 0,_,_=>[]
 | k+1,M,n=>if 2≤M.length then ZR k (Zaa M n) n++[M] else []
inductive Sub (N:List Int):List Int→Prop
 | top:Sub N N
 | lo {M:List Int}:Sub N M→2≤M.length→Sub N (lo M)
 | up {M:List Int}:Sub N M→2≤M.length→Sub N (up M)
theorem Sub.trans{A B C:List Int}(h:Sub A B)(k:Sub B C):Sub A C:=by
 induction k with
 | top=>exact h
 | lo _ h2 ih=>exact ih.lo h2
 | up _ h2 ih=>exact ih.up h2
theorem Sub.rise{N M:List Int}(h:Sub N M)(r:Zad N):Zad M:=by
 induction h with
 | top=>exact r
 | lo _ _ ih=>exact ZdG ih
 | up _ _ ih=>exact ZdD ih
theorem Sub.mem{N M:List Int}(h:Sub N M){x:Int}(hx:x∈M):x∈N:=by
 induction h with
 | top=>exact hx
 | lo _ _ ih=>exact ih (Q8 hx)
 | up _ _ ih=>exact ih (Qaj hx)
theorem Zig{M:List Int}(h:2≤M.length)(n:Int):Sub M (Zaa M n):=by
 unfold Zaa
 split
 ·exact Sub.top.lo h
 ·exact Sub.top.up h
theorem Zdu{M:List Int}{n:Int}(h:n∈M):n∈Zaa M n:=by
 unfold Zaa
 split
 ·assumption
 ·rename_i hn
  rw[← Zb5 M]at h
  exact(Qe.mp h).resolve_left hn
theorem Zfk{M:List Int}(r:Zad M){n:Int}(hn:n∈Zaa M n):n ∉ Zak M n:=by
 intro h
 unfold Zak Zaa at *
 split at h
 ·rename_i hl
  have:=ZH r hl h
  omega
 ·rename_i hl;exact hl h
theorem ZeG(M:List Int)(n:Int):(Zaa M n++Zak M n).Perm M:=by
 unfold Zaa Zak
 split
 ·rw[Zb5]
 ·exact List.perm_append_comm.trans (by rw[Zb5])
def Kys(M:List Int)(k:Int×Int):Prop:=∃M',Sub M M'∧2≤M'.length∧k=ZL M'
theorem Zhm{M:List Int}{k:Int×Int}(h:Kys M k):k.1∈M∧k.2∈M:=by
 obtain⟨M',s,h2,rfl⟩:=h
 have hn:M'≠[]:=Z4 (by omega)
 exact⟨s.mem (ZbV hn),s.mem (Zb1 hn)⟩
theorem ZmG{M:List Int}(r:Zad M)(h2:2≤M.length){k:Int×Int}(h:Kys (lo M) k):k≠ZL M∧¬ Kys (up M) k:=by
 have:=Zhm h
 refine⟨fun z=>?_,fun m=>?_⟩
 ·have h1:=ZeP h2
  rw[z,h1]at this
  have:=ZH r this.2 (Zb1 (Z4 (Zd2 h2).2))
  omega
 ·have:=ZH r this.1 (Zhm m).1
  omega
theorem ZlE{M:List Int}(r:Zad M)(h2:2≤M.length){k:Int×Int}(h:Kys (up M) k):k≠ZL M∧¬ Kys (lo M) k:=by
 have:=Zhm h
 refine⟨fun z=>?_,fun m=>?_⟩
 ·have h1:=ZeM h2
  rw[z,h1]at this
  have:=ZH r (ZbV (Z4 (ZdB h2).2)) this.1
  omega
 ·have:=ZH r (Zhm m).1 this.1
  omega
theorem Ziu{M:List Int}(r:Zad M)(h2:2≤M.length){n:Int}{k:Int×Int}(h:Kys (Zaa M n) k):k≠ZL M∧¬ Kys (Zak M n) k:=by
 unfold Zaa at h
 unfold Zak
 split
 ·rename_i hl;rw[if_pos hl]at h;exact ZmG r h2 h
 ·rename_i hl;rw[if_neg hl]at h;exact ZlE r h2 h
theorem Zio{M:List Int}(r:Zad M)(h2:2≤M.length){n:Int}{k:Int×Int}(h:Kys (Zak M n) k):k≠ZL M∧¬ Kys (Zaa M n) k:=by
 unfold Zak at h
 unfold Zaa
 split
 ·rename_i hl;rw[if_pos hl]at h;exact ZlE r h2 h
 ·rename_i hl;rw[if_neg hl]at h;exact ZmG r h2 h
theorem ZeR{M M':List Int}(h:Sub M M'):M'=M∨(2≤M.length∧(Sub (lo M) M'∨Sub (up M) M')):=by
 induction h with
 | top=>exact .inl rfl
 | lo h h2 ih =>
  rcases ih with rfl|⟨g,ih⟩
  ·exact .inr ⟨h2,.inl .top⟩
  ·exact .inr ⟨g,ih.imp (fun z=>z.lo h2) (fun z=>z.lo h2)⟩
 | up h h2 ih =>
  rcases ih with rfl|⟨g,ih⟩
  ·exact .inr ⟨h2,.inr .top⟩
  ·exact .inr ⟨g,ih.imp (fun z=>z.up h2) (fun z=>z.up h2)⟩
theorem Zlo{M M':List Int}(n:Int)(h:Sub M M'):M'=M∨(2≤M.length∧(Sub (Zaa M n) M'∨Sub (Zak M n) M')):=by
 rcases ZeR h with h|⟨g,h⟩
 ·exact .inl h
 ·refine .inr ⟨g,?_⟩
  unfold Zaa Zak
  split
  ·exact h
  ·exact h.symm
def ZdX(hd:Hd)(s:StL)(A B:List Int)(k:Int×Int):Prop :=
 (∀a b x y,Win hd A (some a)→Win hd B (some b)→hd a=some x→hd b=some y→∃t lz,ZO s k=some (some (t,lz,((lcp x y:Nat):Int)))∧((Btr x a y b∧lz=b)∨(Btr y b x a∧lz=a))) ∧
 ((Win hd A none∨Win hd B none)→ZO s k=none∨ZO s k=some none)
theorem ZdX.swap{hd:Hd}{s:StL}{A B:List Int}{k:Int×Int}(h:ZdX hd s A B k):ZdX hd s B A k:=by
 refine⟨fun a b x y wa wb hx hy=>?_,fun hw=>h.2 hw.symm⟩
 obtain⟨t,lz,e,o⟩:=h.1 b a y x wb wa hy hx
 exact⟨t,lz,by rw[Zb7 x y];exact e,o.symm⟩
def Z2(hd:Hd)(s:StL)(N:List Int):Prop:=∀M,Sub N M→2≤M.length→ZdX hd s (lo M) (up M) (ZL M)
theorem Z2.sub{hd:Hd}{s:StL}{N M:List Int}(h:Z2 hd s N)(k:Sub N M):Z2 hd s M:=fun M' h' h2=>h M' (k.trans h') h2
theorem Z2.at_side{hd:Hd}{s:StL}{M:List Int}(h:Z2 hd s M)(h2:2≤M.length)(n:Int):ZdX hd s (Zaa M n) (Zak M n) (ZL M):=by
 have:=h M .top h2
 unfold Zaa Zak
 split
 ·exact this
 ·exact this.swap
theorem Zfr:∀ (n:Nat) (hd:Hd) (s:StL) (N:List Int),Zad N→N.length≤2 ^ (n-1)→0<n→Zex hd s n N→Z2 hd s N
 | 0,_,_,_,_,_,h,_=>absurd h (by omega)
 | n+1,hd,s,N,r,hl,_,h=>fun M hM h2=>by
  rw[Qap]at hl
  rcases ZeR hM with rfl|⟨g,hM⟩
  ·obtain⟨_,_,c1,c2⟩:=h h2
   refine⟨fun a b x y wa wb hx hy=>?_,c2⟩
   obtain⟨t,e⟩:=c1 a b x y wa wb hx hy
   have hab:=ZH r wa.1 wb.1
   by_cases hb:ZE x y<0∨(ZE x y=0∧a<b)
   ·rw[if_pos hb]at e;exact⟨t,b,e,.inl ⟨hb,rfl⟩⟩
   ·rw[if_neg hb]at e;exact⟨t,a,e,.inr ⟨(Btr.total (show a≠b by omega)).resolve_left hb,rfl⟩⟩
  ·obtain⟨h1,h3,_⟩:=h g
   have hn:1≤n:=by
    cases n with
    | zero=>simp at hl;omega
    | succ m=>omega
   have hp:2 ^ n=2*2 ^ (n-1):=by
    obtain⟨m,rfl⟩:∃m,n=m+1:=⟨n-1,by omega⟩
    rw[Nat.pow_succ,Qap];omega
   rcases hM with hM|hM
   ·exact Zfr n hd s (lo N) (ZdG r) (by unfold lo mid;rw[QA];omega) hn h1 M hM h2
   ·exact Zfr n hd s (up N) (ZdD r) (by unfold up mid;rw[QV];omega) hn h3 M hM h2
theorem ZdX.congr{hd hd':Hd}{s s':StL}{A B:List Int}{k:Int×Int}(h:ZdX hd s A B k)(ha:∀m∈A,hd' m=hd m)(hb:∀m∈B,hd' m=hd m)(hk:ZO s' k=ZO s k):ZdX hd' s' A B k:=by
 refine⟨fun a b x y wa wb hx hy=>?_,fun hw=>?_⟩
 ·rw[hk]
  exact h.1 a b x y (wa.congr fun m hm=>(ha m hm).symm) (wb.congr fun m hm=>(hb m hm).symm) (by rw[← ha a wa.1];exact hx) (by rw[← hb b wb.1];exact hy)
 ·rw[hk]
  exact h.2 (hw.imp (fun w=>w.congr fun m hm=>(ha m hm).symm) (fun w=>w.congr fun m hm=>(hb m hm).symm))
theorem Z2.congr{hd hd':Hd}{s s':StL}{M:List Int}(h:Z2 hd s M)(hh:∀m∈M,hd' m=hd m)(hk:∀k,Kys M k→ZO s' k=ZO s k):Z2 hd' s' M:=fun M' hM h2 =>
 (h M' hM h2).congr (fun m hm=>hh m (hM.mem (Q8 hm))) (fun m hm=>hh m (hM.mem (Qaj hm))) (hk _ ⟨M',hM,h2,rfl⟩)
theorem ZkR{hd:Hd}{s:StL}{M:List Int}{n:Int}(h1:Z2 hd s (Zaa M n))(h3:Z2 hd s (Zak M n))(h:ZdX hd s (Zaa M n) (Zak M n) (ZL M)):Z2 hd s M:=fun M' hM h2=>by
 rcases Zlo n hM with rfl|⟨g,hM|hM⟩
 ·unfold Zaa Zak at h
  split at h
  ·exact h
  ·exact h.swap
 ·exact h1 M' hM h2
 ·exact h3 M' hM h2
def low(n:Int)(C:List (List Int)):Nat→List Int
 | 0=>[n]
 | i+1=>C.getD i []
theorem ZfT:∀ (k:Nat) (M:List Int) (n:Int),n∈M→M.length≤2 ^ k→(∀i X,(ZR k M n)[i]? = some X→Sub M X∧2≤X.length∧n∈X∧Zaa X n=low n (ZR k M n) i)∧low n (ZR k M n) (ZR k M n).length=M∧(ZR k M n).length≤k
 | 0,M,n,hn,hl=>by
  refine⟨fun i X h=>by unfold ZR at h;simp at h,?_,Qh _⟩
  have h1:M.length=1:=by
   have:=QY hn
   simp at hl;omega
  obtain⟨x,rfl⟩:=QaG.mp h1
  have:n=x:=by simpa using hn
  rw[this];rfl
 | k+1,M,n,hn,hl=>by
  unfold ZR
  by_cases h2:2≤M.length
  ·rw[if_pos h2]
   have hs:(Zaa M n).length≤2 ^ k:=by
    rw[Nat.pow_succ]at hl
    unfold Zaa
    split
    ·unfold lo mid;rw[QA];omega
    ·unfold up mid;rw[QV];omega
   obtain⟨a,b,c⟩:=ZfT k (Zaa M n) n (Zdu hn) hs
   refine⟨fun i X h=>?_,?_,by rw[Qf,Qm];omega⟩
   ·have lw:∀j,j≤(ZR k (Zaa M n) n).length→low n (ZR k (Zaa M n) n++[M]) j=low n (ZR k (Zaa M n) n) j:=fun j hj=>by
     cases j with
     | zero=>rfl
     | succ j =>
      show (ZR k (Zaa M n) n++[M]).getD j []=(ZR k (Zaa M n) n).getD j []
      rw[Qi,Qi,QU (by omega)]
    by_cases hi:i<(ZR k (Zaa M n) n).length
    ·rw[QU hi]at h
     obtain⟨g1,g2,g3,g4⟩:=a i X h
     exact⟨(Zig h2 n).trans g1,g2,g3,by rw[lw i (by omega)];exact g4⟩
    ·have hi':i=(ZR k (Zaa M n) n).length:=by
      have:=(Qd.mp h).1
      rw[Qf,Qm]at this
      omega
     subst hi'
     rw[QN (Qh _),Nat.sub_self]at h
     cases h
     exact⟨.top,h2,hn,by rw[lw _ (Qh _),b]⟩
   ·rw[Qf,Qm]
    show (ZR k (Zaa M n) n++[M]).getD _ []=M
    rw[Qi,QN (Qh _),Nat.sub_self];rfl
  ·rw[if_neg h2]
   refine⟨fun i X h=>by simp at h,?_,Qv _⟩
   have h1:M.length=1:=by have:=QY hn;omega
   obtain⟨x,rfl⟩:=QaG.mp h1
   have:n=x:=by simpa using hn
   rw[this];rfl
structure Tk (hd hd':Hd) (N:List Int) (n:Int) (z:List Nat):Prop where
 win:Win hd N (some n)
 key:hd n=some z
 oth:∀b,b≠n→hd' b=hd b
 nxt:∀x,hd' n=some x→ZE z x≤0
 up:Zad N
theorem Tk.ge{hd hd':Hd}{N:List Int}{n:Int}{z:List Nat}(h:Tk hd hd' N n z){b:Int}(hb:b∈N){y:List Nat}(hy:hd' b=some y):ZE z y≤0:=by
 by_cases e:b=n
 ·exact h.nxt y (by rw[← e];exact hy)
 ·obtain⟨_,x,hx,hw⟩:=h.win
  rw[h.key]at hx
  cases hx
  rw[h.oth b e]at hy
  rcases hw b hb y hy with z|z
  ·exact absurd z e
  ·rcases z with z|z<;>omega
inductive Ag (hd:Hd) (z:List Nat):List (List Int×List Int)→Int→Int→Prop
 | nil:Ag hd z [] 0 0
 | no {C:List (List Int×List Int)} {A B:List Int} {k q:Int}:Ag hd z C k q→(Win hd A none∨Win hd B none)→Ag hd z (C++[(A,B)]) k q
 | eq {C:List (List Int×List Int)} {A B:List Int} {k q:Int} {a b:Int} {x y:List Nat}:Ag hd z C k q→Win hd A (some a)→Win hd B (some b)→hd a=some x→hd b=some y→lcp x z=lcp y z→Ag hd z (C++[(A,B)]) (k+1) (q+((lcp x y:Nat)-(lcp x z:Nat)+1))
 | ne {C:List (List Int×List Int)} {A B:List Int} {k q:Int} {a b:Int} {x y:List Nat}:Ag hd z C k q→Win hd A (some a)→Win hd B (some b)→hd a=some x→hd b=some y→lcp x z≠lcp y z→Ag hd z (C++[(A,B)]) (k+1) q
theorem Zjm:∀ (x z y:List Nat),lcp z y<lcp x z→ZE x y=ZE z y
 | [],z,y,h=>by rw[lcp_nil']at h;omega
 | _::_,[],y,h=>by rw[ZdC]at h;omega
 | a::x,b::z,[],h=>by unfold ZE;rfl
 | a::x,b::z,c::y,h=>by
  unfold lcp at h
  by_cases e:a=b
  ·subst e
   rw[if_pos rfl]at h
   by_cases e2:a=c
   ·subst e2
    rw[if_pos rfl]at h
    unfold ZE
    rw[if_pos rfl,if_pos rfl]
    exact Zjm x z y (by omega)
   ·unfold ZE
    rw[if_neg e2,if_neg e2]
  ·rw[if_neg e]at h;omega
theorem Znr{x z y:List Nat}(h:lcp z y<lcp x z):lcp x y=lcp z y:=by
 have:=ZeC x y z
 rw[Zb7 y z]at this
 omega
theorem Zpr{x z y:List Nat}(h:lcp x z=lcp y z):lcp x z≤lcp x y:=by
 have:=ZeC x y z
 omega
theorem Zh8{x z y:List Nat}{a b:Int}(h:lcp y z<lcp x z)(hz:ZE z y≤0):Btr x a y b∧lcp x y=lcp y z:=by
 rw[Zb7 y z]at h ⊢
 refine⟨.inl ?_,Znr h⟩
 rw[Zjm x z y h]
 rcases Int.lt_or_eq_of_le hz with g|g
 ·exact g
 ·have e:=Zcn _ _ g
  subst e
  rw[ZhT]at h
  have:=(ZfQ x z).2
  omega
abbrev Com:=Option (Int×Int)
def Zih(hd:Hd)(z:List Nat)(M:List Int)(c:Com):Prop:=Win hd M (c.map (·.1))∧∀p,c=some p→∃x,hd p.1=some x∧p.2=((lcp x z:Nat):Int)
theorem ZmW{hd hd':Hd}{N M:List Int}{n:Int}{z:List Nat}{s:StL}(T:Tk hd hd' N n z)(hM:Sub N M)(h2:2≤M.length)(hn:n∈M)(ok:Z2 hd s N) :
  (Win hd' (Zak M n) none∧(ZO s (ZL M)=none∨ZO s (ZL M)=some none))∨∃t b y,Win hd' (Zak M n) (some b)∧hd' b=some y∧b∈N∧ZO s (ZL M)=some (some (t,b,((lcp y z:Nat):Int))):=by
 have r:=hM.rise T.up
 have nd:=ZdL r
 have hno:=Zfk r (Zdu hn)
 have nS:=(ok.sub hM).at_side h2 n
 have hoN:∀b∈Zak M n,b∈M:=fun b hb=>(ZeG M n).mem_iff.mp (Ql _ hb)
 have hsN:∀b∈Zaa M n,b∈M:=fun b hb=>(ZeG M n).mem_iff.mp (Qj _ hb)
 have wS:Win hd (Zaa M n) (some n):=by
  obtain⟨_,x,hx,hw⟩:=T.win
  exact⟨Zdu hn,x,hx,fun b hb y hy=>hw b (hM.mem (hsN b hb)) y hy⟩
 have cO:∀m∈Zak M n,hd' m=hd m:=fun m hm=>T.oth m fun e=>hno (e ▸ hm)
 have ndO:(Zak M n).Nodup:=by unfold Zak;split;exact ZdL (ZdD r);exact ZdL (ZdG r)
 obtain⟨w,hw⟩:=Win.ex hd (Zak M n) ndO
 cases w with
 | none=>exact .inl ⟨hw.congr cO,nS.2 (.inr hw)⟩
 | some b =>
  obtain⟨y,hy⟩:∃y,hd b=some y:=by obtain⟨_,y,hy,_⟩:=hw;exact⟨y,hy⟩
  obtain⟨t,lz,e,o⟩:=nS.1 n b z y wS hw T.key hy
  have hbM:=hoN b hw.1
  have hbn:b≠n:=fun z=>hno (z ▸ hw.1)
  have hB:Btr z n y b:=by
   obtain⟨_,x,hx,hww⟩:=T.win
   rw[T.key]at hx;cases hx
   exact(hww b (hM.mem hbM) y hy).resolve_left hbn
  have el:lz=b:=by
   rcases o with⟨_,e⟩|⟨e,_⟩
   ·exact e
   ·exact(hB.asym e).elim
  subst el
  exact .inr ⟨t,lz,y,hw.congr cO,by rw[cO lz hw.1];exact hy,hM.mem hbM,by rw[Zb7 y z];exact e⟩
theorem ZjN(ns:List Int):(ZdR ns).length=(ns.length+1) / 2:=by unfold ZdR mid;rw[QA];omega
theorem ZjG(ns:List Int):(Zf0 ns).length=ns.length / 2:=by unfold Zf0 mid;rw[QV];omega
def Zgb:Nat→List Int→Int→List (List Int)
 | 0,_,_=>[]
 | f+1,ns,n=>if ns.length≤1 then [] else if n∈ZdR ns then Zf0 ns::Zgb f (ZdR ns) n else ZdR ns::Zgb f (Zf0 ns) n
def ZbR(ns:List Int)(n:Int):List Int:=if n∈ZdR ns then ZdR ns else Zf0 ns
def Zc0(ns:List Int)(n:Int):List Int:=if n∈ZdR ns then Zf0 ns else ZdR ns
theorem Zej{ns:List Int}{n:Int}(h:1<ns.length):(ZbR ns n).length<ns.length:=by
 unfold ZbR
 split
 ·rw[ZjN];omega
 ·rw[ZjG];omega
theorem Zlh{ns:List Int}{n:Int}(h:1<ns.length):0<(ZbR ns n).length:=by
 unfold ZbR
 split
 ·rw[ZjN];omega
 ·rw[ZjG];omega
theorem Zev{f:Nat}{ns:List Int}{n:Int}(h:1<ns.length):Zgb (f+1) ns n=Zc0 ns n::Zgb f (ZbR ns n) n:=by
 conv=>lhs;unfold Zgb
 rw[if_neg (by omega)]
 unfold Zc0 ZbR
 split<;>rfl
theorem Zb3{f:Nat}{ns:List Int}{n:Int}(h:ns.length≤1):Zgb f ns n=[]:=by
 cases f with
 | zero=>rfl
 | succ f=>unfold Zgb;rw[if_pos h]
theorem Zgg:∀ (f g:Nat) (ns:List Int) (n:Int),ns.length≤f+1→ns.length≤g+1→Zgb f ns n=Zgb g ns n
 | 0,g,ns,n,h,_=>by rw[Zb3 (by omega),Zb3 (by omega)]
 | f+1,0,ns,n,_,h=>by rw[Zb3 (by omega),Zb3 (by omega)]
 | f+1,g+1,ns,n,h1,h2=>by
  by_cases h:1<ns.length
  ·have:=Zej (n:=n) h
   rw[Zev h,Zev h,Zgg f g _ n (by omega) (by omega)]
  ·rw[Zb3 (by omega),Zb3 (by omega)]
def way(ns:List Int)(n:Int):List (List Int):=Zgb ns.length ns n
theorem ZhQ{ns:List Int}{n:Int}(h:1<ns.length):way ns n=Zc0 ns n::way (ZbR ns n) n:=by
 unfold way
 cases e:ns.length with
 | zero=>omega
 | succ f =>
  have:=Zej (n:=n) h
  rw[Zev h,Zgg f (ZbR ns n).length _ n (by omega) (by omega)]
theorem Zhk{ns:List Int}{n:Int}(h:ns.length≤1):way ns n=[]:=Zb3 h
theorem Zju(n:Int):∀ns:List Int,inV (.int n) (ns.map V.int)=decide (n∈ns)
 | []=>rfl
 | m::r=>by
  have ih:=Zju n r
  unfold inV at ih ⊢
  rw[Qn,Qaz,ih]
  by_cases h:m=n
  ·subst h;simp[eqV]
  ·have:(m == n)=false:=by simpa using h
   simp[eqV,this,List.mem_cons,Ne.symm h]
theorem Zgv:∀ns:List Int,(ns.map V.int).all Zen=true
 | []=>rfl
 | _::r=>by rw[Qn,List.all_cons,Zgv r];rfl
def Rd(H:Hp):List Addr→List (List Int)→Prop
 | [],[]=>True
 | l::ls,d::ds=>H l=some (.lst (d.map V.int))∧Rd H ls ds
 | _,_=>False
theorem Rd.len{H:Hp}:∀ {ls:List Addr} {ds:List (List Int)},Rd H ls ds→ls.length=ds.length
 | [],[],_=>rfl
 | [],_::_,h=>h.elim
 | _::_,[],h=>h.elim
 | _::ls,_::ds,h=>by rw[QE,QE,Rd.len h.2]
theorem Rd.mono{H H':Hp}:∀ {ls:List Addr} {ds:List (List Int)},(∀l∈ls,∀o,H l=some o→H' l=some o)→Rd H ls ds→Rd H' ls ds
 | [],[],_,_=>trivial
 | [],_::_,_,h=>h.elim
 | _::_,[],_,h=>h.elim
 | l::ls,_::ds,k,h=>⟨k l (by simp) _ h.1,Rd.mono (fun x hx=>k x (Qw _ hx)) h.2⟩
theorem Rd.app{H:Hp}:∀ {ls:List Addr} {ds:List (List Int)} {ms:List Addr} {es:List (List Int)},Rd H ls ds→Rd H ms es→Rd H (ls++ms) (ds++es)
 | [],[],_,_,_,h=>h
 | [],_::_,_,_,h,_=>h.elim
 | _::_,[],_,_,h,_=>h.elim
 | _::ls,_::ds,_,_,h,g=>⟨h.1,Rd.app h.2 g⟩
theorem Rd.rev{H:Hp}:∀ {ls:List Addr} {ds:List (List Int)},Rd H ls ds→Rd H ls.reverse ds.reverse
 | [],[],h=>h
 | [],_::_,h=>h.elim
 | _::_,[],h=>h.elim
 | l::ls,d::ds,h=>by
  rw[Qaq,Qaq]
  exact Rd.app (Rd.rev h.2) ⟨h.1,trivial⟩
theorem Rd.at{H:Hp}:∀ {ls:List Addr} {ds:List (List Int)} {i:Nat} {l:Addr},Rd H ls ds→ls[i]? = some l→∃d,ds[i]? = some d∧H l=some (.lst (d.map V.int))
 | [],_,i,l,_,h=>by simp at h
 | _::_,[],_,_,h,_=>h.elim
 | l::ls,d::ds,0,x,h,e=>⟨d,rfl,by simp at e;subst e;exact h.1⟩
 | l::ls,d::ds,i+1,x,h,e=>by simpa using Rd.at (i:=i) h.2 (by simpa using e)
def Zme:Sp:=fun vs H Q _=>∃ (a:Addr) (ns:List Int) (n:Int),vs=[.ref a,.int n]∧H a=some (.lst (ns.map V.int))∧1≤ns.length∧ns.length≤100 ∧
 ∀ (r:Addr) (ls:List Addr) (H':Hp),H r=none→H' r=some (.lst (ls.map V.ref))→r ∉ ls→(∀l∈ls,H l=none)→Rd H' ls (way ns n).reverse→Zu H H'→Q (.ref r) H'
def Dn(H:Hp)(a o:Addr)(ns:List Int)(n:Int)(b:Addr)(cur:List Int)(ls:List Addr)(H2:Hp):Prop :=
 ∃done:List (List Int),H2 b=some (.lst (cur.map V.int))∧b≠o∧1≤cur.length∧cur.length≤100∧way ns n=done++way cur n∧Rd H2 ls done∧H2 o=some (.lst (ls.map V.ref))∧Zu H H2∧(∀l∈ls,H l=none)∧o ∉ ls∧ls.length+cur.length≤100
theorem Dn.step{H:Hp}{a o:Addr}{ns:List Int}{n:Int}{b:Addr}{cur:List Int}{ls:List Addr}{H2 H3:Hp}(D:Dn H a o ns n b cur ls H2)(hO:H o=none)(h1:1<cur.length)(s:Zu H2 H3){x y:Addr}(hx:H3 x=some (.lst ((ZbR cur n).map V.int)))(hy:H3 y=some (.lst ((Zc0 cur n).map V.int)))(nx:H2 x=none)(ny:H2 y=none) :
  Dn H a o ns n x (ZbR cur n) (ls++[y]) (upd H3 o (.lst (ls.map V.ref++[.ref y]))):=by
 obtain⟨done,d1,d2,d3,d4,d5,d6,d7,d8,d9,d10,d11⟩:=D
 have xo:x≠o:=(Zb d7 nx).symm
 have yo:y≠o:=(Zb d7 ny).symm
 have sl:=Zej (n:=n) h1
 have k:∀l,l≠o→∀u,H3 l=some u→(upd H3 o (.lst (ls.map V.ref++[.ref y]))) l=some u:=fun l hl u hu=>by rw[Zd hl];exact hu
 refine⟨done++[Zc0 cur n],k x xo _ hx,xo,Zlh h1,by omega,by rw[d5,ZhQ h1,Q1];rfl,?_,?_,fun c u hu=>?_,?_,?_,?_⟩
 ·refine Rd.app (Rd.mono (fun l hl u hu=>k l (fun e=>d10 (e ▸ hl)) u (s _ _ hu)) d6) ⟨k y yo _ hy,trivial⟩
 ·rw[Zc,Qg];rfl
 ·rw[Zd (Zb hu hO)];exact s _ _ (d8 _ _ hu)
 ·intro l hl
  rcases Qe.mp hl with hl|hl
  ·exact d9 l hl
  ·rw[Qc.mp hl];exact d8.free ny
 ·intro hm
  rcases Qe.mp hm with hl|hl
  ·exact d10 hl
  ·exact yo (Qc.mp hl).symm
 ·rw[Qf,Qm];omega
theorem Zo7(T:Zaj K mg cRow cMerge)(f_halves:Df P w K mg base 1 "halves" ["numbers"] (Zeo K true)):Df P w K mg base 2 "way_up" ["numbers", "n"] Zme:=by
 refine T.t_way_up.df Zbx (fun vs H Q E h=>?_) (fun cdv f A outer s H vs Q E hr h=>?_)
 ·obtain⟨a,ns,n,rfl,_⟩:=h
  rfl
 obtain⟨a,ns,n,rfl,hA,h1,h100,q⟩:=h
 refine⟨_,#[Zf,#[Zw,2,Zbx.nd,(Or.inl rfl),#[Za9,#[Ze]]],#[Zf,#[Zw,3,Zbx.nd,(Or.inl rfl),‹0›],#[Zf,(@Zea _ _ _ _ _ _ PassesOwn.never #[Zn,ZeY,#[Zk,(ZbH K),(by rfl),T.b.n_len,Qu,#[Za,‹3›,#[Ze]]],#[Zh],(Zt _)] #[Zf,#[ZaT,#[ZA,f_halves,hr,#[Za,‹3›,#[Ze]],(by rfl)],#[gT,K,2,#[Zv,#[Zx,4,Zbx.nd],#[Zv,#[Zx,5,Zbx.nd],(@ZaL _)]]]],#[Zj,#[Zae,#[Zn,(inQ K),‹1›,‹4›,(by with_unfolding_all rfl)],#[Zf,#[ZaU,#[Zdq,QJ,QO,QP,ZaR,‹2›,#[Za,‹5›,#[Ze]]]],#[Zj,#[Zw,3,Zbx.nd,(Or.inl rfl),‹4›]]],#[Zf,#[ZaU,#[Zdq,QJ,QO,QP,ZaR,‹2›,#[Za,‹4›,#[Ze]]]],#[Zj,#[Zw,3,Zbx.nd,(Or.inl rfl),‹5›]]]]]]),#[Zf,#[ZaU,(@ZpL _ _ _ _ _ _ _ _ _ QJ PySem.F.slot_list_reverse PySem.F.type_list_reverse ZiN ‹2› (by rfl) (by rfl))],#[Zj,#[Zp,‹2›]]]]]],?_⟩
 refine⟨(by show 0≤sizeLine;decide),fun o hO=>?_⟩
 have nao:a≠o:=Zb hA hO
 refine⟨_,rfl,?_⟩
 refine⟨fun m σ H2=>∃ (b:Addr) (cur:List Int) (ls:List Addr) (v4 v5:Option V),σ=[some (.ref a),some (.int n),some (.ref o),some (.ref b),v4,v5]∧Dn H a o ns n b cur ls H2∧m=cur.length,⟨_,a,ns,[],none,none,rfl,⟨[],?_,nao,h1,h100,rfl,trivial,Zc,Zi hO _,(fun l hl=>by cases hl),(fun hm=>by cases hm),by simpa using h100⟩,rfl⟩,?_⟩
 ·rw[Zd nao];exact hA
 rintro m σ H2 ⟨b,cur,ls,v4,v5,rfl,D,rfl⟩
 obtain⟨done,d1,d2,d3,d4,d5,d6,d7,d8,d9,d10,d11⟩:=id D
 have hlc:(((cur.map V.int).length:Nat):Int)=(cur.length:Int):=by rw[Qa]
 refine⟨_,rfl,b,_,rfl,.inl (SqL.of d1),_,_,rfl,rfl,_,rfl,?_⟩
 refine Za4 (fun c1=>?_) (fun c1=>?_)
 ·have c1':(1:Int)<(((cur.map V.int).length:Nat):Int):=of_decide_eq_true c1
  have hc:1<cur.length:=by omega
  refine⟨_,fun σ' H' h=>h,?_⟩
  refine⟨_,rfl,b,cur,rfl,SqL.of d1,d4,fun t x y H3 ht hx hy nxy et ex ey s3 ntx nty=>?_⟩
  refine⟨t,_,rfl,SqT.of et,rfl,_,_,rfl,_,_,rfl,rfl,?_⟩
  have ho3:=s3 _ _ d7
  have hlt:(ls.map V.ref).length<sizeLine:=by rw[Qa];exact ZJ (by omega)
  have sl:=Zej (n:=n) hc
  refine⟨_,rfl,_,rfl,x,_,rfl,.inl (SqL.of ex),rfl,Zgv _,_,rfl,?_⟩
  show if inV (V.int n) ((ZdR cur).map V.int)=true then _ else _
  rw[Zju]
  refine Za4 (fun c2=>?_) (fun c2=>?_)
  ·have c2':n∈ZdR cur:=of_decide_eq_true c2
   have e1:ZbR cur n=ZdR cur:=by unfold ZbR;rw[if_pos c2']
   have e2:Zc0 cur n=Zf0 cur:=by unfold Zc0;rw[if_pos c2']
   refine⟨_,rfl,.inl ⟨rfl,_,SqL.of ho3⟩,_,rfl,o,_,_,rfl,rfl,ho3,hlt,_,rfl,_,?_,x,ZbR cur n,ls++[y],_,_,rfl,D.step hO hc s3 (by rw[e1];exact ex) (by rw[e2];exact ey) hx hy,rfl⟩
   exact sl
  ·have c2':¬ n∈ZdR cur:=fun z=>c2 (decide_eq_true z)
   have e1:ZbR cur n=Zf0 cur:=by unfold ZbR;rw[if_neg c2']
   have e2:Zc0 cur n=ZdR cur:=by unfold Zc0;rw[if_neg c2']
   refine⟨_,rfl,.inl ⟨rfl,_,SqL.of ho3⟩,_,rfl,o,_,_,rfl,rfl,ho3,hlt,_,rfl,_,?_,y,ZbR cur n,ls++[x],_,_,rfl,D.step hO hc s3 (by rw[e1];exact ey) (by rw[e2];exact ex) hy hx,rfl⟩
   exact sl
 ·have c1':¬ (1:Int)<(((cur.map V.int).length:Nat):Int):=fun z=>c1 (decide_eq_true z)
  have e:way ns n=done:=by rw[d5,Zhk (by omega),QI]
  refine⟨_,rfl,.inl ⟨rfl,_,SqL.of d7⟩,o,_,rfl,rfl,d7,?_⟩
  refine⟨_,rfl,q o ls.reverse _ hO (by rw[Zc,List.map_reverse]) (fun hm=>d10 (QaM.mp hm)) (fun l hl=>d9 l (QaM.mp hl)) ?_ fun c u hu=>?_⟩
  ·rw[e]
   refine Rd.mono (fun l hl u hu=>?_) d6.rev
   rw[Zd (fun z=>by subst z;exact d10 (QaM.mp hl))]
   exact hu
  ·rw[Zd (Zb hu hO)];exact d8 _ _ hu
theorem Zgm:∀ (k:Nat) (M:List Int) (n:Int),M.length≤2 ^ k→(way M n).reverse=(ZR k M n).map (fun X=>Zak X n)
 | 0,M,n,h=>by
  rw[Zhk (by simpa using h)];rfl
 | k+1,M,n,h=>by
  unfold ZR
  by_cases h2:2≤M.length
  ·rw[if_pos h2,ZhQ (by omega),Qaq,Qg]
   have hs:(Zaa M n).length≤2 ^ k:=by
    rw[Nat.pow_succ]at h
    unfold Zaa
    split
    ·unfold lo mid;rw[QA];omega
    ·unfold up mid;rw[QV];omega
   have e:=Zgm k (Zaa M n) n hs
   rw[← e];rfl
  ·rw[if_neg h2,Zhk (by omega)];rfl
theorem Zl5{M:List Int}(h:2≤M.length)(n:Int):Zak M n≠[]:=by
 unfold Zak
 split
 ·exact Z4 (Zd2 h).2
 ·exact Z4 (ZdB h).2
theorem ZiA{M:List Int}(r:Zad M)(h:2≤M.length)(n:Int):ZL M=(if (Zak M n).headD 0<(Zaa M n).headD 0 then (Zak M n).headD 0 else (Zaa M n).headD 0,if (Zak M n).getLastD 0>(Zaa M n).getLastD 0 then (Zak M n).getLastD 0 else (Zaa M n).getLastD 0):=by
 have a:=ZeM h
 have b:=ZeP h
 have l1:=ZbV (Z4 (ZdB h).2)
 have l2:=Zb1 (Z4 (ZdB h).2)
 have u1:=ZbV (Z4 (Zd2 h).2)
 have u2:=Zb1 (Z4 (Zd2 h).2)
 have c:=ZH r l1 u1
 have d:=ZH r l2 u2
 unfold Zaa Zak
 split<;>(refine Prod.ext ?_ ?_<;>dsimp only<;>first|omega|(split<;>omega))
theorem Rd.get{H:Hp}:∀ {ls:List Addr} {ds:List (List Int)},Rd H ls ds→∀ {i:Nat} {l:Addr} {d:List Int},ls[i]? = some l→ds[i]? = some d→H l=some (.lst (d.map V.int))
 | [],[],_,i,l,d,h,_=>by simp at h
 | l::ls,d::ds,⟨h1,h2⟩,0,a,b,e1,e2=>by simp at e1 e2;rw[← e1,← e2];exact h1
 | l::ls,d::ds,⟨h1,h2⟩,i+1,a,b,e1,e2=>Rd.get h2 (by simpa using e1) (by simpa using e2)
def ZgO:Sp:=fun vs H Q _=>∃ (a:Addr) (N:List Int) (n:Int),vs=[.ref a,.int n]∧H a=some (.lst (N.map V.int))∧n∈N∧N.length≤60∧Zad N ∧
 ∀ (r:Addr) (ts:List Addr) (H':Hp),H r=none→H' r=some (.lst (ts.map V.ref))→ts.length=(ZR 8 N n).length→(∀ (i:Nat) (t:Addr) (X:List Int),ts[i]? = some t→(ZR 8 N n)[i]? = some X→H' t=some (.tup [.int (ZL X).1,.int (ZL X).2]))→Zu H H'→Q (.ref r) H'
theorem Zi2(T:Zaj K mg cRow cMerge)(f_way_up:Df P w K mg base 2 "way_up" ["numbers", "n"] Zme):Df P w K mg base 3 "matches_up" ["numbers", "n"] ZgO:=by
 refine T.t_matches_up.df Zav (fun vs H Q E h=>?_) (fun cdv f A outer s H vs Q E hr h=>?_)
 ·obtain⟨a,N,n,rfl,_⟩:=h
  rfl
 obtain⟨a,N,n,rfl,ha,hn,h60,hup,q⟩:=h
 refine⟨_,#[Zf,#[Zw,2,Zav.nd,(Or.inl rfl),#[Za9,#[Ze]]],#[Zf,#[Zw,3,Zav.nd,(Or.inl rfl),‹1›],#[Zf,#[Zw,4,Zav.nd,(Or.inl rfl),‹1›],#[Zf,#[Zb8,PassesOwn.never,#[iL,K,#[ZA,f_way_up,hr,#[Za,‹0›,#[Za,‹1›,#[Ze]]],(by rfl)]],#[Zx,5,Zav.nd],#[Zf,#[Zw,3,Zav.nd,(Or.inl rfl),#[Zk,(ZeD rfl),(by rfl),T.b.n_min,boot_min,#[Za,‹3›,#[Za,#[Zz,(ixL K),‹5›,#[Zh]],#[Ze]]]]],#[Zf,#[Zw,4,Zav.nd,(Or.inl rfl),#[Zk,(Zku rfl),(by rfl),T.b.n_max,boot_max,#[Za,‹4›,#[Za,#[Zz,(ixL K),‹5›,(@ZhV _ _ _ _ _ _ Zfm #[Zh])],#[Ze]]]]],#[Zj,#[ZaU,#[Zdq,QJ,QO,QP,ZaR,‹2›,#[Za,#[ZU,#[Za,‹3›,#[Za,‹4›,#[Ze]]]],#[Ze]]]]]]]],#[Zj,#[Zp,‹2›]]]]]],?_⟩
 have hpos:=QY hn
 have hpw:N.length≤2 ^ 8:=QM h60 (by decide)
 obtain⟨cok,ctop,clen⟩:=ZfT 8 N n hn hpw
 refine⟨(by show 0≤sizeLine;decide),fun r hr0=>?_⟩
 have s1:=Zi hr0 (.lst [])
 have hr1:(upd H r (.lst [])) r=some (.lst []):=Zc
 generalize upd H r (.lst [])=H1 at s1 hr1 ⊢
 refine⟨_,rfl,_,rfl,_,rfl,_,rfl,a,N,n,rfl,s1 _ _ ha,hpos,by omega,fun wy ls H2 hwy hwy2 hnot hfr hrd s2=>?_⟩
 rw[Zgm 8 N n hpw]at hrd
 have hll:=hrd.len
 rw[Qa]at hll
 have s02:=s1.trans s2
 refine⟨wy,rfl,⟨_,SqL.of hwy2⟩,?_⟩
 refine ZfA (K:=K) (a:=wy) (xs:=ls.map V.ref) (fun i σ H3=>∃ (v5:Option V) (ts:List Addr),σ=[some (.ref a),some (.int n),some (.ref r),some (.int ((low n (ZR 8 N n) i).headD 0)),some (.int ((low n (ZR 8 N n) i).getLastD 0)),v5]∧i≤ls.length∧ts.length=i∧H3 r=some (.lst (ts.map V.ref))∧(∀ (j:Nat) (t:Addr) (X:List Int),ts[j]? = some t→(ZR 8 N n)[j]? = some X→H3 t=some (.tup [.int (ZL X).1,.int (ZL X).2]))∧(∀t∈ts,t≠r∧∃xs,H3 t=some (.tup xs))∧(∀b o,H2 b=some o→b≠r→H3 b=some o)) ⟨_,[],rfl,Qv _,rfl,s2 _ _ hr1,(fun j t X h=>by simp at h),(fun t h=>by cases h),fun b o h _=>h⟩ (fun i σ H3 _ hq=>by obtain⟨_,_,_,_,_,_,_,_,k3⟩:=hq;exact SqL.of (k3 _ _ hwy2 (fun z=>by rw[z,hr1]at hwy;cases hwy))) ?_ ?_
 ·rintro i y σ H3 hy ⟨v5,ts,rfl,hi,htl,hr3,hts,htr,k3⟩
  rw[Qk]at hy
  cases hz:ls[i]? with
  | none=>rw[hz]at hy;cases hy
  | some l =>
  rw[hz]at hy
  cases hy
  have hil:i<ls.length:=(Qd.mp hz).1
  cases hX:(ZR 8 N n)[i]? with
  | none=>rw[Qax]at hX;omega
  | some X =>
  obtain⟨x1,x2,x3,x4⟩:=cok i X hX
  have hl2:H2 l=some (.lst ((Zak X n).map V.int)):=hrd.get hz (by rw[Qk,hX];rfl)
  have nlr:l≠r:=fun z=>by rw[z]at hl2;rw[s2 _ _ hr1]at hl2;have:=hfr l (Qr hz);rw[z,hr1]at this;cases this
  have hl3:=k3 _ _ hl2 nlr
  have hne:=Zl5 x2 n
  have e2:=ZiA (x1.rise hup) x2 n
  rw[x4]at e2
  have e3:low n (ZR 8 N n) (i+1)=X:=by show (ZR 8 N n).getD i []=X;rw[Qi,hX];rfl
  refine⟨_,rfl,_,rfl,l,_,_,_,rfl,rfl,SqL.of hl3,Zh0 hne,_,_,rfl,?_⟩
  refine⟨_,rfl,_,rfl,_,rfl,l,_,_,_,rfl,rfl,SqL.of hl3,Zir hne,_,_,rfl,?_⟩
  refine⟨_,rfl,.inl ⟨rfl,_,SqL.of hr3⟩,_,rfl,_,rfl,(by show 2≤sizeLine;decide),fun t ht=>?_⟩
  have nrt:r≠t:=Zb hr3 ht
  refine⟨r,_,_,rfl,rfl,by rw[Zd nrt];exact hr3,(by rw[Qa];exact ZJ (by omega)),?_⟩
  refine⟨some (.ref l),ts++[t],?_,hil,by rw[Qf,Qm];omega,by rw[Zc,Qg];rfl,fun j u Y hu hY=>?_,fun u hu=>?_,fun b o hb nb=>?_⟩
  ·rw[e3]
   have h1:=congrArg Prod.fst e2
   have h2:=congrArg Prod.snd e2
   simp only at h1 h2
   rw[show X.headD 0=(ZL X).1 from rfl,show X.getLastD 0=(ZL X).2 from rfl,h1,h2]
   rfl
  ·have htuple:∀ (u:Addr) (xs:List V),H3 u=some (.tup xs)→(upd (upd H3 t (.tup [.int (if (Zak X n).headD 0<(low n (ZR 8 N n) i).headD 0 then (Zak X n).headD 0 else (low n (ZR 8 N n) i).headD 0),.int (if (Zak X n).getLastD 0>(low n (ZR 8 N n) i).getLastD 0 then (Zak X n).getLastD 0 else (low n (ZR 8 N n) i).getLastD 0)])) r (.lst (ts.map V.ref++[.ref t]))) u=some (.tup xs):=fun u xs hu=>by
    rw[Zd (fun z=>by rw[z,hr3]at hu;cases hu),Zd (Zb hu ht)];exact hu
   by_cases hj:j<ts.length
   ·rw[QU hj]at hu
    exact htuple u _ (hts j u Y hu hY)
   ·have ej:j=ts.length:=by have:=(Qd.mp hu).1;rw[Qf,Qm]at this;omega
    subst ej
    rw[QN (Qh _),Nat.sub_self]at hu
    cases hu
    rw[htl,hX]at hY
    cases hY
    rw[Zd nrt.symm,Zc,e2]
  ·rcases Qe.mp hu with hu|hu
   ·obtain⟨g1,xs,g2⟩:=htr u hu
    exact⟨g1,xs,by rw[Zd g1,Zd (Zb g2 ht)];exact g2⟩
   ·rw[Qc.mp hu]
    exact⟨nrt.symm,_,by rw[Zd nrt.symm];exact Zc⟩
  ·have:=k3 b o hb nb
   rw[Zd nb,Zd (Zb this ht)];exact this
 ·rintro σ H3 ⟨v5,ts,rfl,_,htl,hr3,hts,_,k3⟩
  rw[Qa]at htl
  exact⟨_,rfl,q r ts H3 hr0 hr3 (by omega) hts (fun b o hb=>k3 b o (s02 b o hb) (Zb hb hr0))⟩
def CV(H:Hp)(v:V)(c:Com):Prop:=(c=none∧v=.non)∨∃ (t:Addr) (p:Int×Int),c=some p∧v=.ref t∧H t=some (.tup [.int p.1,.int p.2])
theorem CV.keep{H H':Hp}{v:V}{c:Com}(h:CV H v c)(k:∀t xs,H t=some (.tup xs)→H' t=some (.tup xs)):CV H' v c:=by
 rcases h with h|⟨t,p,h1,h2,h3⟩
 ·exact .inl h
 ·exact .inr ⟨t,p,h1,h2,k _ _ h3⟩
theorem ZlD{s:StL}{k:Int×Int}{v0:Option (Addr×Int×Int)}(h:ZO s k=some v0):s.any (fun e=>decide (e.1=k))=true:=List.any_eq_true.mpr ⟨_,ZgK h,decide_eq_true rfl⟩
theorem ZeA{s:StL}{k:Int×Int}{v0 v:Option (Addr×Int×Int)}(h:ZO s k=some v0):(ZcF s k v).length=s.length:=by
 unfold ZcF
 rw[if_pos (ZlD h),Qa]
def AgS(hd:Hd)(z:List Nat)(A B:List Int)(k q:Int):Prop:=∀C k0 q0,Ag hd z C k0 q0→Ag hd z (C++[(A,B)]) (k0+k) (q0+q)
def ZjR(cR cM:Addr):Sp:=fun vs H Q _=>∃ (m rd sd:Addr) (L:List ZB) (s:StL) (nb li lo:Int) (best:V) (tm:Addr) (v:V) (c:Com) (z:List Nat) (M:List Int) (n:Int),vs=[.ref m,.ref tm,v]∧ZX cR cM H m rd sd L s nb li lo best∧H tm=some (.tup [.int (ZL M).1,.int (ZL M).2])∧CV H v c∧Zih (hdM L) z (Zaa M n) c ∧
 ((Win (hdM L) (Zak M n) none∧(ZO s (ZL M)=none∨ZO s (ZL M)=some none))∨∃t b y,Win (hdM L) (Zak M n) (some b)∧hdM L b=some y∧ZO s (ZL M)=some (some (t,b,((lcp y z:Nat):Int)))) ∧
 (∀b∈M,∀y,hdM L b=some y→ZE z y≤0)∧Zad M∧(∀b∈M,b∈ZC L)∧2≤M.length∧n∈M ∧
 ∀ (v':V) (c':Com) (s':StL) (k q:Int) (H':Hp),CV H' v' c'→Zih (hdM L) z M c'→ZdX (hdM L) s' (Zaa M n) (Zak M n) (ZL M)→(∀j,j≠ZL M→ZO s' j=ZO s j)→AgS (hdM L) z (Zaa M n) (Zak M n) k q →
  ZX cR cM H' m rd sd L s' nb (li+k) (lo+q) best→(∀b o,H b=some o→b≠m→b≠sd→H' b=some o)→Q v' H'
theorem ZlU{L:List ZB}(nd:(ZC L).Nodup){b:Int}(hb:b∈ZC L){y:List Nat}(hy:hdM L b=some y):∃e∈L,e.n=b∧∃x,e.ss[e.g]? = some x∧y=cds x:=by
 obtain⟨e,he,rfl⟩:=Zdm hb
 rw[Zd6 nd he]at hy
 cases hx:e.ss[e.g]? with
 | none=>rw[hx]at hy;cases hy
 | some x=>rw[hx]at hy;cases hy;exact⟨e,he,rfl,x,hx,rfl⟩
theorem Zk9(T:Zaj K mg cRow cMerge)(f_Merge_meet:Mf P w K mg base 3 cMerge "meet" ["self", "one", "other", "far"] (ZiE cRow cMerge)):Mf P w K mg base 4 cMerge "play_again" ["self", "meeting", "comer"] (ZjR cRow cMerge):=by
 refine T.t_Merge_play_again.mf Zaf (fun vs H Q E h=>?_) (fun cdv f A outer s H vs Q E hr h=>?_)
 ·obtain⟨m,rd,sd,L,s,nb,li,lo,best,tm,v,c,z,M,n,rfl,_⟩:=h
  rfl
 obtain⟨m,rd,sd,L,s,nb,li,lo',best,tm,v,c,z,M,n,rfl,Mg,htm,hcv,⟨wS,hcf⟩,hst,hge,hup,hin,h2,hn,q⟩:=h
 refine⟨_,#[Zf,#[Zw,3,Zaf.nd,(Or.inl rfl),(@Zp6 _ _ _ _ _ _ _ _ hr #[Z8,‹0›] ‹1› (by rfl) (by rfl) (by rfl))],#[Zf,#[Zae,#[Zn,Zdg,‹3›,#[ZaA],(Zt _)],#[Zj,#[Zp,‹2›]],#[ZF]],#[Zf,#[Zae,#[Zn,Zdg,‹2›,#[ZaA],(Zt _)],#[Zf,#[ZaT,#[ZaA],#[Zdl,#[Z8,‹0›],‹1›,(Zlw hr)]],#[Zj,#[Zp,‹3›]]],#[ZF]],#[Zf,#[Zae,#[Zn,Zbn,#[Zz,(ixT K),‹2›,#[Zh]],#[Zz,(ixT K),‹3›,#[Zh]],(Zt _)],#[Zf,#[ZaT,#[Ze0,f_Merge_meet,T.cl_Merge,hr,‹0›,#[Za,#[Zz,(ixT K),‹2›,#[Zh]],#[Za,#[Zz,(ixT K),‹3›,#[Zh]],#[Za,#[Zz,(ixT K),‹2›,#[Zh]],#[Ze]]]]],#[gT,K,3,#[Zv,#[Zx,4,Zaf.nd],#[Zv,#[Zx,5,Zaf.nd],#[Zv,#[Zx,6,Zaf.nd],(@ZaL _)]]]]],#[Zf,#[ZaT,#[ZU,#[Za,‹5›,#[Za,‹6›,#[Ze]]]],#[Zdl,#[Z8,‹0›],‹1›,(Zlw hr)]],#[Zj,#[Zp,#[ZU,#[Za,‹4›,#[Za,#[Zz,(ixT K),‹2›,#[Zh]],#[Ze]]]]]]]],#[ZF]],#[Zf,(@ZdF _ _ _ _ _ _ _ _ _ _ ‹0› #[Zh] Zht),#[Zf,#[Zae,#[Zn,ZeY,#[Zz,(ixT K),‹2›,#[Zh]],#[Zz,(ixT K),‹3›,#[Zh]],(Zt _)],#[Zj,#[Zp,‹2›]],#[ZF]],#[Zf,#[ZaT,‹2›,#[Zdl,#[Z8,‹0›],‹1›,(Zlw hr)]],#[Zj,#[Zp,‹3›]]]]]]]]],?_⟩
 obtain⟨dx,hm⟩:=Mg.ob
 have htm':H tm=some (.tup (([.inl (ZL M).1,.inl (ZL M).2]:List Key).map kV)):=htm
 have pm:=ZeG M n
 have dg:=ZbL.t (k:=[.inl (ZL M).1,.inl (ZL M).2]) Mg.stays htm'
 rw[Zib]at dg
 have sA:∀b∈Zaa M n,b∈M:=fun b hb=>pm.mem_iff.mp (Qj _ hb)
 have sB:∀b∈Zak M n,b∈M:=fun b hb=>pm.mem_iff.mp (Ql _ hb)
 have hno:=Zfk hup (Zdu hn)
 have dis:∀a b,a∈Zaa M n→b∈Zak M n→a≠b:=fun a b ha hb e=>by
  subst e
  unfold Zaa Zak at *
  split at ha
  ·rename_i hl;rw[if_pos hl]at hb;have:=ZH hup ha hb;omega
  ·rename_i hl;rw[if_neg hl]at hb;have:=ZH hup hb ha;omega
 refine⟨_,rfl,m,cMerge,dx,_,_,rfl,hm,T.cl_Merge,T.na_Merge_stays,ZcI ..,sd,rfl,.inr ⟨_,.inl Mg.stays⟩,_,rfl,_,dg,?_⟩
 rcases hst with⟨wO,hlk⟩|⟨t,b,y,wO,hy,hlk⟩
 ·have ev:((ZO s (ZL M)).map stV).getD .non=.non:=by rcases hlk with e|e<;>rw[e]<;>rfl
  rw[ev]
  refine⟨_,rfl,rfl,_,rfl,Zfn rfl ⟨_,rfl,q v c s 0 0 H hcv ⟨(Win.left wS wO).perm pm,hcf⟩ ⟨(fun a b x y _ wb _ _=>nomatch wO.one wb),fun _=>hlk⟩ (fun _ _=>rfl) (fun C k0 q0 g=>by rw[QaH,QaH];exact .no g (.inr wO)) (Mg.cast (by omega) (by omega)) (fun b o h _ _=>h)⟩⟩
 have hat:=Mg.ats _ (ZgK hlk) _ rfl
 have e1:((ZO s (ZL M)).map stV).getD .non=.ref t:=by rw[hlk];rfl
 rw[e1]
 have hsf:=Mg.sfew
 have hsl:(kvS s).length<sizeLine:=by unfold kvS;rw[Qa];exact ZJ (by omega)
 refine⟨_,rfl,rfl,_,rfl,ZdY (fun z=>nomatch z) ?_⟩
 have hbM:=sB b wO.1
 rcases hcv with⟨rfl,rfl⟩|⟨tc,p,rfl,rfl,htc⟩
 ·refine⟨_,rfl,rfl,_,rfl,Zfn rfl ?_⟩
  refine⟨_,rfl,m,cMerge,dx,_,_,rfl,hm,T.cl_Merge,T.na_Merge_stays,ZcI ..,_,rfl,sd,_,rfl,ZeN.t (k:=[.inl (ZL M).1,.inl (ZL M).2]) Mg.stays htm' hsl,?_⟩
  rw[show V.non=stV none from rfl,Ze5]
  have hl1:(ZcF s (ZL M) none).length≤100:=by rw[ZeA hlk];exact hsf
  have M2:=Mg.put (k:=ZL M) (v:=none) (fun t ht=>by cases ht) hl1
  have wS':Win (hdM L) (Zaa M n) none:=wS
  refine⟨_,rfl,q (.ref t) (some (b,((lcp y z:Nat):Int))) _ 0 0 _ (.inr ⟨t,_,rfl,rfl,?_⟩) ⟨(Win.right wS' wO).perm pm,fun p hp=>?_⟩ ⟨(fun a b x y wa _ _ _=>nomatch wS'.one wa),fun _=>.inr ?_⟩ (fun j hj=>?_) (fun C k0 q0 g=>?_) (M2.cast (by omega) (by omega)) (fun b o hb _ n2=>by rw[Zd n2];exact hb)⟩
  ·rw[Zd (fun z=>by rw[z,Mg.stays]at hat;cases hat)];exact hat
  ·cases hp;exact⟨y,hy,rfl⟩
  ·rw[ZaQ,if_pos rfl]
  ·rw[ZaQ,if_neg hj]
  ·rw[QaH,QaH];exact .no g (.inl wS')
 obtain⟨a,fa⟩:=p
 obtain⟨x,hx,efa⟩:=hcf _ rfl
 simp only at hx efa
 subst efa
 have wS':Win (hdM L) (Zaa M n) (some a):=wS
 have haM:=sA a wS'.1
 have hab:=dis a b wS'.1 wO.1
 obtain⟨ea,hea,rfl,zx,hzx,rfl⟩:=ZlU Mg.nd (hin a haM) hx
 obtain⟨eb,heb,rfl,zy,hzy,rfl⟩:=ZlU Mg.nd (hin b hbM) hy
 have c0:atI [V.int ea.n,.int ((lcp (cds zx) z:Nat):Int)] 0=some (.int ea.n):=Z6 (j:=0) rfl
 have c1:atI [V.int ea.n,.int ((lcp (cds zx) z:Nat):Int)] 1=some (.int ((lcp (cds zx) z:Nat):Int)):=Z6 (j:=1) rfl
 have d0:atI [V.int eb.n,.int ((lcp (cds zy) z:Nat):Int)] 0=some (.int eb.n):=Z6 (j:=0) rfl
 have d1:atI [V.int eb.n,.int ((lcp (cds zy) z:Nat):Int)] 1=some (.int ((lcp (cds zy) z:Nat):Int)):=Z6 (j:=1) rfl
 refine⟨_,rfl,rfl,_,rfl,ZdY (fun z=>nomatch z) ?_⟩
 refine⟨_,rfl,tc,_,_,_,rfl,rfl,SqT.of htc,c1,_,rfl,t,_,_,_,rfl,rfl,SqT.of hat,d1,rfl,_,rfl,Za4 (fun d=>?_) (fun d=>?_)⟩
 ·have ef:lcp (cds zx) z=lcp (cds zy) z:=by have:=of_decide_eq_true d;injection this with this;omega
  have hle:=Zpr ef
  refine⟨_,rfl,m,dx,_,rfl,hm,Zfg ..,_,rfl,tc,_,_,_,rfl,rfl,SqT.of htc,c0,_,rfl,t,_,_,_,rfl,rfl,SqT.of hat,d0,_,rfl,tc,_,_,_,rfl,rfl,SqT.of htc,c1,?_⟩
  refine⟨m,rd,sd,L,s,nb,li,lo',best,ea,eb,zx,zy,lcp (cds zx) z,rfl,Mg,hea,heb,hzx,hzy,hle,fun t5 wi lz H5 hw ht5 ht5' M5 b5=>?_⟩
  refine⟨t5,_,rfl,SqT.of ht5',rfl,_,_,rfl,_,_,rfl,_,_,rfl,rfl,?_⟩
  have sz2:2≤sizeLine:=by decide
  refine⟨_,rfl,_,rfl,sz2,fun t6 ht6=>?_⟩
  have s6:=Zi ht6 (.tup [.int lz,.int ((lcp (cds zx) (cds zy):Nat):Int)])
  have ht66:(upd H5 t6 (.tup [.int lz,.int ((lcp (cds zx) (cds zy):Nat):Int)])) t6=some (.tup [.int lz,.int ((lcp (cds zx) (cds zy):Nat):Int)]):=Zc
  have M6:=M5.same s6
  generalize upd H5 t6 (.tup [.int lz,.int ((lcp (cds zx) (cds zy):Nat):Int)])=H6 at s6 ht66 M6 ⊢
  obtain⟨dx6,hm6⟩:=M6.ob
  have ntm:tm≠m:=fun z=>by rw[z,hm]at htm;cases htm
  have ntc:tc≠m:=fun z=>by rw[z,hm]at htc;cases htc
  have htm6:H6 tm=some (.tup (([.inl (ZL M).1,.inl (ZL M).2]:List Key).map kV)):=s6 _ _ (b5 _ _ htm' ntm)
  refine⟨_,rfl,m,cMerge,dx6,_,_,rfl,hm6,T.cl_Merge,T.na_Merge_stays,ZcI ..,_,rfl,sd,_,rfl,ZeN.t (k:=[.inl (ZL M).1,.inl (ZL M).2]) M6.stays htm6 hsl,?_⟩
  rw[show V.ref t6=stV (some (t6,lz,((lcp (cds zx) (cds zy):Nat):Int))) from rfl,Ze5]
  have hl1:(ZcF s (ZL M) (some (t6,lz,((lcp (cds zx) (cds zy):Nat):Int)))).length≤100:=by rw[ZeA hlk];exact hsf
  have M7:=M6.put (k:=ZL M) (v:=some (t6,lz,((lcp (cds zx) (cds zy):Nat):Int))) (fun t ht=>by injection ht with ht;rw[← ht];exact ht66) hl1
  have b7:∀b o,H b=some o→b≠m→b≠sd→(upd H6 sd (.dT (kvS (ZcF s (ZL M) (some (t6,lz,((lcp (cds zx) (cds zy):Nat):Int))))))) b=some o:=fun b o hb n1 n2=>by rw[Zd n2];exact s6 _ _ (b5 b o hb n1)
  have ntcs:tc≠sd:=fun z=>by rw[z,Mg.stays]at htc;cases htc
  generalize upd H6 sd (.dT (kvS (ZcF s (ZL M) (some (t6,lz,((lcp (cds zx) (cds zy):Nat):Int))))))=H7 at M7 b7 ⊢
  refine⟨_,rfl,_,rfl,tc,_,_,_,rfl,rfl,SqT.of (b7 _ _ htc ntc ntcs),c1,sz2,fun t8 ht8=>?_⟩
  have wn:Win (hdM L) M (some wi):=by
   rcases hw with⟨w0,rfl,_⟩|⟨w0,rfl,_⟩
   ·exact(Win.both wS' wO hx hy w0).perm pm
   ·exact(Win.both' wS' wO hx hy ((Btr.total hab).resolve_left w0)).perm pm
  refine q (.ref t8) (some (wi,((lcp (cds zx) z:Nat):Int))) _ 1 ((lcp (cds zx) (cds zy):Nat)-(lcp (cds zx) z:Nat)+1) _ (.inr ⟨t8,_,rfl,rfl,Zc⟩) ⟨wn,fun p hp=>?_⟩ ⟨fun a b x' y' wa wb hxa hyb=>?_,fun hno=>?_⟩ (fun j hj=>by rw[ZaQ,if_neg hj]) (fun C k0 q0 g=>.eq g wS' wO hx hy ef) ((M7.same (Zi ht8 _)).cast rfl rfl) (fun b o hb n1 n2=>Zi ht8 _ _ _ (b7 b o hb n1 n2))
  ·cases hp
   rcases hw with⟨w0,rfl,_⟩|⟨w0,rfl,_⟩
   ·exact⟨_,hx,rfl⟩
   ·exact⟨_,hy,by simp only;rw[ef]⟩
  ·have e1:=Qp (wa.one wS')
   have e2:=Qp (wb.one wO)
   subst e1
   subst e2
   have e3:=Qp (hxa.symm.trans hx)
   have e4:=Qp (hyb.symm.trans hy)
   subst e3
   subst e4
   refine⟨t6,lz,by rw[ZaQ,if_pos rfl],?_⟩
   rcases hw with⟨w0,_,rfl⟩|⟨w0,_,rfl⟩
   ·exact .inl ⟨w0,rfl⟩
   ·exact .inr ⟨(Btr.total hab).resolve_left w0,rfl⟩
  ·rcases hno with z|z
   ·exact nomatch z.one wS'
   ·exact nomatch z.one wO
 have nef:lcp (cds zx) z≠lcp (cds zy) z:=fun e=>d (decide_eq_true (by rw[e]))
 refine⟨_,rfl,m,cMerge,dx,_,_,rfl,hm,T.cl_Merge,T.na_Merge_likened,ZeV ..,_,_,rfl,rfl,dx,_,hm,Zcc ..,?_⟩
 rw[Zc5]
 have M2:=Mg.obj (nb':=nb) (li':=li+1) (lo':=lo') (best':=best) (dx:=dx)
 have k2:∀b o,H b=some o→b≠m→(upd H m (.ins cMerge dx (mgF rd nb (li+1) lo' sd best))) b=some o:=fun b o hb n=>by rw[Zd n];exact hb
 have ntc:tc≠m:=fun z=>by rw[z,hm]at htc;cases htc
 have ntt:t≠m:=fun z=>by rw[z,hm]at hat;cases hat
 have ntm:tm≠m:=fun z=>by rw[z,hm]at htm;cases htm
 generalize upd H m (.ins cMerge dx (mgF rd nb (li+1) lo' sd best))=H2 at M2 k2 ⊢
 have htc2:=k2 _ _ htc ntc
 have hat2:=k2 _ _ hat ntt
 refine⟨_,rfl,tc,_,_,_,rfl,rfl,SqT.of htc2,c1,_,rfl,t,_,_,_,rfl,rfl,SqT.of hat2,d1,_,_,rfl,rfl,_,rfl,Za4 (fun g=>?_) (fun g=>?_)⟩
 ·have hgt:lcp (cds zy) z<lcp (cds zx) z:=by have:((lcp (cds zy) z:Nat):Int)<((lcp (cds zx) z:Nat):Int):=of_decide_eq_true g;omega
  obtain⟨bt,el⟩:=Zh8 (a:=ea.n) (b:=eb.n) hgt (hge _ hbM _ hy)
  refine⟨_,rfl,q (.ref tc) (some (ea.n,((lcp (cds zx) z:Nat):Int))) s 1 0 H2 (.inr ⟨tc,_,rfl,rfl,htc2⟩) ⟨(Win.both wS' wO hx hy bt).perm pm,fun p hp=>by cases hp;exact⟨_,hx,rfl⟩⟩ ⟨fun a b x' y' wa wb hxa hyb=>?_,fun hno=>?_⟩ (fun _ _=>rfl) (fun C k0 q0 g=>by rw[QaH];exact .ne g wS' wO hx hy nef) (M2.cast rfl (by omega)) (fun b o hb n1 _=>k2 b o hb n1)⟩
  ·have e1:=Qp (wa.one wS')
   have e2:=Qp (wb.one wO)
   subst e1
   subst e2
   have e3:=Qp (hxa.symm.trans hx)
   have e4:=Qp (hyb.symm.trans hy)
   subst e3
   subst e4
   exact⟨t,_,by rw[el];exact hlk,.inl ⟨bt,rfl⟩⟩
  ·rcases hno with z|z
   ·exact nomatch z.one wS'
   ·exact nomatch z.one wO
 ·have hlt:lcp (cds zx) z<lcp (cds zy) z:=by
   have:¬ ((lcp (cds zy) z:Nat):Int)<((lcp (cds zx) z:Nat):Int):=fun e=>g (decide_eq_true e)
   omega
  obtain⟨bt,el⟩:=Zh8 (a:=eb.n) (b:=ea.n) hlt (hge _ haM _ hx)
  obtain⟨dx2,hm2⟩:=M2.ob
  have htm2:H2 tm=some (.tup (([.inl (ZL M).1,.inl (ZL M).2]:List Key).map kV)):=k2 _ _ htm' ntm
  refine⟨_,rfl,_,rfl,m,cMerge,dx2,_,_,rfl,hm2,T.cl_Merge,T.na_Merge_stays,ZcI ..,_,rfl,sd,_,rfl,ZeN.t (k:=[.inl (ZL M).1,.inl (ZL M).2]) M2.stays htm2 hsl,?_⟩
  rw[show V.ref tc=stV (some (tc,ea.n,((lcp (cds zx) z:Nat):Int))) from rfl,Ze5]
  have hl1:(ZcF s (ZL M) (some (tc,ea.n,((lcp (cds zx) z:Nat):Int)))).length≤100:=by rw[ZeA hlk];exact hsf
  have M3:=M2.put (k:=ZL M) (v:=some (tc,ea.n,((lcp (cds zx) z:Nat):Int))) (fun t ht=>by injection ht with ht;rw[← ht];exact htc2) hl1
  refine⟨_,rfl,q (.ref t) (some (eb.n,((lcp (cds zy) z:Nat):Int))) _ 1 0 _ (.inr ⟨t,_,rfl,rfl,?_⟩) ⟨(Win.both' wS' wO hx hy bt).perm pm,fun p hp=>by cases hp;exact⟨_,hy,rfl⟩⟩ ⟨fun a b x' y' wa wb hxa hyb=>?_,fun hno=>?_⟩ (fun j hj=>by rw[ZaQ,if_neg hj]) (fun C k0 q0 g=>by rw[QaH];exact .ne g wS' wO hx hy nef) (M3.cast rfl (by omega)) (fun b o hb n1 n2=>by rw[Zd n2];exact k2 b o hb n1)⟩
  ·rw[Zd (fun z=>by rw[z,M2.stays]at hat2;cases hat2)];exact hat2
  ·have e1:=Qp (wa.one wS')
   have e2:=Qp (wb.one wO)
   subst e1
   subst e2
   have e3:=Qp (hxa.symm.trans hx)
   have e4:=Qp (hyb.symm.trans hy)
   subst e3
   subst e4
   exact⟨tc,_,by rw[ZaQ,if_pos rfl,Zb7 (cds zx) (cds zy),el],.inr ⟨bt,rfl⟩⟩
  ·rcases hno with z|z
   ·exact nomatch z.one wS'
   ·exact nomatch z.one wO
def Zct(n:Int)(e:ZB):ZB:=if e.n=n then ⟨e.n,e.p,e.k,e.f,e.ss,e.g+1⟩ else e
def bump(L:List ZB)(n:Int):List ZB:=L.map (Zct n)
theorem ZcO(n:Int)(e:ZB):(Zct n e).n=e.n∧(Zct n e).p=e.p∧(Zct n e).k=e.k∧(Zct n e).f=e.f∧(Zct n e).ss=e.ss:=by unfold Zct;split<;>exact⟨rfl,rfl,rfl,rfl,rfl⟩
theorem Zeu{n:Int}{e:ZB}(h:e.n=n):Zct n e=⟨e.n,e.p,e.k,e.f,e.ss,e.g+1⟩:=if_pos h
theorem ZfX{n:Int}{e:ZB}(h:¬ e.n=n):Zct n e=e:=if_neg h
theorem Zb2(L:List ZB)(n:Int):ZC (bump L n)=ZC L:=by
 unfold ZC bump
 rw[QC]
 exact QH fun e _=>(ZcO n e).1
theorem ZnD(L:List ZB)(n:Int):(bump L n).map (·.p)=L.map (·.p):=by
 unfold bump
 rw[QC]
 exact QH fun e _=>(ZcO n e).2.1
theorem ZmY(L:List ZB)(n:Int):kvM (bump L n)=kvM L:=by
 unfold kvM bump
 rw[QC]
 refine QH fun e _=>?_
 simp only[Function.comp]
 rw[(ZcO n e).1,(ZcO n e).2.1]
theorem Zoy{m rd sd:Addr}{L:List ZB}{n:Int}{b:Addr}(h:Fp m rd sd (bump L n) b):Fp m rd sd L b:=by
 rcases h with h|h|h|⟨e',he',h⟩
 ·exact .inl h
 ·exact .inr (.inl h)
 ·exact .inr (.inr (.inl h))
 ·obtain⟨e,he,rfl⟩:=Qx.mp he'
  obtain⟨_,h1,h2,h3,_⟩:=ZcO n e
  rw[h1,h2,h3]at h
  exact .inr (.inr (.inr ⟨e,he,h⟩))
theorem Fp_bump'{m rd sd:Addr}{L:List ZB}{n:Int}{b:Addr}(h:Fp m rd sd L b):Fp m rd sd (bump L n) b:=by
 rcases h with h|h|h|⟨e,he,h⟩
 ·exact .inl h
 ·exact .inr (.inl h)
 ·exact .inr (.inr (.inl h))
 ·obtain⟨_,h1,h2,h3,_⟩:=ZcO n e
  refine .inr (.inr (.inr ⟨Zct n e,Qo he,?_⟩))
  rw[h1,h2,h3]
  exact h
theorem Zjy{n b:Int}(h:b≠n):∀L:List ZB,hdM (bump L n) b=hdM L b
 | []=>rfl
 | e::L=>by
  have ih:=Zjy h L
  unfold hdM hdL bump at ih ⊢
  rw[Qn,Qn,Qn,Qah,Qah]
  have e1:(toL (Zct n e)).1=e.n:=(ZcO n e).1
  rw[e1]
  by_cases he:e.n=b
  ·rw[decide_eq_true he,decide_eq_true (show (toL e).1=b from he),ZfX (fun z=>h (he.symm.trans z))]
  ·rw[decide_eq_false he,decide_eq_false (show ¬ (toL e).1=b from he)]
   exact ih
theorem ZhN{L:List ZB}(nd:(ZC L).Nodup){e:ZB}(he:e∈L):hdM (bump L e.n) e.n=(e.ss[e.g+1]?).map cds:=by
 have hm:Zct e.n e∈bump L e.n:=Qo he
 rw[Zeu rfl]at hm
 exact Zd6 (L:=bump L e.n) (by rw[Zb2];exact nd) hm
theorem ZeL(k f:Addr)(g:Int):ZcH k f g=([("all_keys",.ref k),("fars",.ref f),("gone",.int g)]:List (Str×V)):=by
 unfold ZcH
 rw[Zbm,Zs nFK,Zbm,Zs nGK,Zs nGF,Zbm]
theorem Zgd(k f:Addr)(g v:Int):Zo "gone" (.int v) (ZcH k f g)=ZcH k f v:=by
 rw[ZeL,ZeL,Zs nGK,Zs nGF,Zdy]
theorem Zmo(k f:Addr)(g:Int):(ZcH k f g).length<1000:=by rw[ZeL];show 3<1000;decide
theorem Zka(k f:Addr)(g:Int):(ZcH k f g).lookup ("fars" : Str)=some (.ref f):=by
 unfold ZcH
 rw[Zl,if_neg nGF,Zl,if_pos rfl]
theorem ZqF{L:List ZB}(pd:(L.map (·.p)).Nodup){e e':ZB}(he:e∈L)(he':e'∈L)(h:e.p=e'.p):e=e':=by
 have n2:((L.map fun x=>(x.p,x)).map (·.1)).Nodup:=by rw[QC];exact pd
 have:=Zc2 n2 (Qo (f:=fun x:ZB=>(x.p,x)) he) (Qo (f:=fun x:ZB=>(x.p,x)) he') h
 injection this
theorem ZX.bump{cR cM:Addr}{H:Hp}{m rd sd:Addr}{L:List ZB}{s:StL}{nb li lo:Int}{best:V}(M:ZX cR cM H m rd sd L s nb li lo best){e:ZB}(he:e∈L)(hg:e.g<e.ss.length){dp:Addr} :
  ZX cR cM (upd H e.p (.ins cR dp (ZcH e.k e.f ((e.g+1:Nat):Int)))) m rd sd (My.bump L e.n) s nb li lo best:=by
 obtain⟨dm,hm⟩:=M.ob
 obtain⟨dq,hp⟩:=(M.each e he).at'.ob
 obtain⟨n1,_,_⟩:=M.ne_p he
 obtain⟨n2,_,_,n3,_,_⟩:=M.ne_sd he
 refine⟨⟨dm,by rw[Zd n1];exact hm⟩,by rw[Zd n3,ZmY];exact M.rows,by rw[Zd n2];exact M.stays,fun x hx t ht=>?_,fun e' he'=>?_,by rw[Zb2];exact M.up,by rw[ZnD];exact M.pd,by unfold My.bump;rw[Qa];exact M.few,M.sfew⟩
 ·have:=M.ats x hx t ht
  rw[Zd (fun z=>by rw[z,hp]at this;cases this)];exact this
 ·obtain⟨x,hx,rfl⟩:=Qx.mp he'
  have R:=M.each x hx
  have kne:∀ {y:ZB},y∈L→y.k≠e.p∧y.f≠e.p:=fun {y} hy=>by
   have Ry:=M.each y hy
   exact⟨(fun z=>by have:=Ry.at'.ks;rw[z,hp]at this;cases this),(fun z=>by have:=Ry.at'.fs;rw[z,hp]at this;cases this)⟩
  obtain⟨k1,k2⟩:=kne hx
  by_cases hn:x.n=e.n
  ·have ex:x=e:=by
    have n2:((L.map fun x=>(x.n,x)).map (·.1)).Nodup:=by rw[QC];exact M.nd
    have:=Zc2 n2 (Qo (f:=fun x:ZB=>(x.n,x)) hx) (Qo (f:=fun x:ZB=>(x.n,x)) he) hn
    injection this
   subst ex
   rw[Zeu rfl]
   exact⟨⟨⟨dp,Zc⟩,by show (upd H x.p _) x.k=_;rw[Zd k1];exact R.at'.ks,by show (upd H x.p _) x.f=_;rw[Zd k2];exact R.at'.fs⟩,hg,R.len,R.srt,R.str⟩
  ·rw[ZfX hn]
   exact R.keep (Zd (fun z=>hn (by rw[ZqF M.pd hx he z]))) (Zd k1) (Zd k2)
theorem Zqx{L:List ZB}{e:ZB}{x:Str}(nd:(ZC L).Nodup)(up:Zad (ZC L))(he:e∈L)(hx:e.ss[e.g]? = some x)(srt:sortedS e.ss=true)(W:Win (hdM L) (ZC L) (some e.n)):Tk (hdM L) (hdM (bump L e.n)) (ZC L) e.n (cds x):=by
 refine⟨W,by rw[Zd6 nd he,hx];rfl,fun b hb=>Zjy hb L,fun y hy=>?_,up⟩
 rw[ZhN nd he]at hy
 cases hz:e.ss[e.g+1]? with
 | none=>rw[hz]at hy;cases hy
 | some y'=>rw[hz]at hy;cases hy;exact ZgM srt e.g x y' hx hz
theorem ZpE{c:Bool}{e1 e2:VK→Prop}{Q:VK}(P:V→Hp→Prop)(h1:c=true→∀Q':VK,(∀v H,P v H→Q' v H)→e1 Q')(h2:c=false→∀Q':VK,(∀v H,P v H→Q' v H)→e2 Q')(q:∀v H,P v H→Q v H):if c=true then e1 Q else e2 Q:=by
 cases c with
 | true=>rw[if_pos rfl];exact h1 rfl Q q
 | false=>rw[if_neg (by decide)];exact h2 rfl Q q
def ZdK(n:Int)(C:List (List Int)):List (List Int×List Int):=C.map fun X=>(Zaa X n,Zak X n)
theorem ZhA(rd:Addr)(nb li lo:Int)(sd:Addr)(best:V):(mgF rd nb li lo sd best).lookup ("play_again" : Str)=none:=ZcN _ _ _ _ _ _ (by ac_rfl) (by ac_rfl) (by ac_rfl) (by ac_rfl) (by ac_rfl) (by ac_rfl)
def Zlc(cR cM:Addr):Sp:=fun vs H Q _=>∃ (m rd sd:Addr) (L:List ZB) (s:StL) (nb li lo:Int) (best:V) (e:ZB) (x:Str),vs=[.ref m,.int e.n]∧ZX cR cM H m rd sd L s nb li lo best∧e∈L∧e.ss[e.g]? = some x∧Win (hdM L) (ZC L) (some e.n)∧Z2 (hdM L) s (ZC L) ∧
 ∀ (s':StL) (w':Option Int) (k q:Int) (H':Hp),ZX cR cM H' m rd sd (bump L e.n) s' nb (li+k) (lo+q) (Zd0 w')→Win (hdM (bump L e.n)) (ZC L) w'→Z2 (hdM (bump L e.n)) s' (ZC L)→Ag (hdM (bump L e.n)) (cds x) (ZdK e.n (ZR 8 (ZC L) e.n)) k q→(∀b o,H b=some o→¬ Fp m rd sd L b→H' b=some o)→Q .non H'
theorem Zon(T:Zaj K mg cRow cMerge)(f_Row_head:Mf P w K mg base 2 cRow "head" ["self"] (Zfv cRow))(f_matches_up:Df P w K mg base 3 "matches_up" ["numbers", "n"] ZgO)(f_Merge_play_again:Mf P w K mg base 4 cMerge "play_again" ["self", "meeting", "comer"] (ZjR cRow cMerge)):Mf P w K mg base 5 cMerge "send_out" ["self", "number"] (Zlc cRow cMerge):=by
 refine T.t_Merge_send_out.mf Zan (fun vs H Q E h=>?_) (fun cdv f A outer s H vs Q E hr h=>?_)
 ·obtain⟨m,rd,sd,L,s,nb,li,lo,best,e,x,rfl,_⟩:=h
  rfl
 obtain⟨m,rd,sd,L,s,nb,li,lo',best,e,x,rfl,M,he,hx,W,ok,q⟩:=h
 refine⟨_,#[Zf,#[Zw,2,Zan.nd,(Or.inl rfl),#[Zz,(ixG hr),#[Z8,‹0›],‹1›]],#[Zf,(@ZdF _ _ _ _ _ _ _ _ _ _ ‹2› #[Zh] Zht),#[Zf,#[Zw,3,Zan.nd,(Or.inl rfl),#[Zbb,#[Zn,Zdg,#[ZcM,f_Row_head,T.cl_Row,hr,‹2›],#[ZaA],(Zt _)],#[ZaA],#[ZU,#[Za,‹1›,#[Za,#[Zz,(ixL K),#[Z8,‹2›],#[Z8,‹2›]],#[Ze]]]]]],#[Zf,#[Zb8,PassesOwn.never,#[iL,K,#[ZA,f_matches_up,hr,#[Za,#[ZbY,ZqO,T.b.n_list,boot_list,#[Za,#[Z8,‹0›],#[Ze]]],#[Za,‹1›,#[Ze]]],(by rfl)]],#[Zx,4,Zan.nd],#[Zj,#[Zw,3,Zan.nd,(Or.inl rfl),#[Ze0,f_Merge_play_again,T.cl_Merge,hr,‹0›,#[Za,‹4›,#[Za,‹3›,#[Ze]]]]]]],#[Zj,#[ZbO,‹0›,#[Zbb,#[Zn,Zdg,‹3›,#[ZaA],(Zt _)],#[ZaA],#[Zz,(ixT K),‹3›,#[Zh]]]]]]]]],?_⟩
 obtain⟨dx,hm⟩:=M.ob
 have R:=M.each e he
 obtain⟨dp,hp⟩:=R.at'.ob
 have hg:e.g<e.ss.length:=(Qd.mp hx).1
 have tk:=Zqx M.nd M.up he hx R.srt W
 refine⟨_,rfl,m,cMerge,dx,_,_,rfl,hm,T.cl_Merge,T.na_Merge_rows,ZbI ..,_,rfl,rd,_,rfl,ZbL.k' (k:=.inl e.n) M.rows (ZfV M.nd he),?_⟩
 refine⟨_,rfl,e.p,cRow,dp,_,_,rfl,hp,T.cl_Row,T.na_Row_gone,ZcC ..,_,_,rfl,rfl,dp,_,hp,Zmo ..,?_⟩
 rw[Zgd,show ((e.g:Int)+1)=((e.g+1:Nat):Int) by omega]
 have M1:=M.bump he hg (dp:=dp)
 have hp1:(upd H e.p (.ins cRow dp (ZcH e.k e.f ((e.g+1:Nat):Int)))) e.p=some (.ins cRow dp (ZcH e.k e.f ((e.g+1:Nat):Int))):=Zc
 have k1:∀b o,H b=some o→b≠e.p→(upd H e.p (.ins cRow dp (ZcH e.k e.f ((e.g+1:Nat):Int)))) b=some o:=fun b o hb n=>by rw[Zd n];exact hb
 generalize upd H e.p (.ins cRow dp (ZcH e.k e.f ((e.g+1:Nat):Int)))=H1 at M1 hp1 k1 ⊢
 have hm':(⟨e.n,e.p,e.k,e.f,e.ss,e.g+1⟩:ZB)∈bump L e.n:=by
  have:Zct e.n e∈bump L e.n:=Qo he
  rwa [Zeu rfl]at this
 have R1:=M1.each _ hm'
 have keep1:∀ {H2:Hp},(∀b o,H1 b=some o→b≠m→b≠sd→H2 b=some o)→∀b o,H b=some o→¬ Fp m rd sd L b→H2 b=some o:=fun {H2} k b o hb nf =>
  k b o (k1 b o hb fun z=>nf (.inr (.inr (.inr ⟨e,he,.inl z⟩)))) (fun z=>nf (.inl z)) (fun z=>nf (.inr (.inr (.inl z))))
 have hpos:e.n∈ZC L:=W.1
 have h60:(ZC L).length≤60:=by unfold ZC;rw[Qa];exact M.few
 have hpw:(ZC L).length≤2 ^ 8:=QM h60 (by decide)
 obtain⟨cok,ctop,clen⟩:=ZfT 8 (ZC L) e.n hpos hpw
 have hgo:hdM (bump L e.n) e.n=(e.ss[e.g+1]?).map cds:=ZhN M.nd he
 have hdd:∀ (c:Com),(c=none∧e.ss[e.g+1]? = none)∨(∃y,e.ss[e.g+1]? = some y∧c=some (e.n,((lcp (cds y) (cds x):Nat):Int)))→Zih (hdM (bump L e.n)) (cds x) [e.n] c:=fun c hc=>by
  have hw:=Win.sing (hd:=hdM (bump L e.n)) (n:=e.n)
  rcases hc with⟨rfl,hn⟩|⟨y,hy,rfl⟩
  ·rw[hgo,hn]at hw
   exact⟨hw,fun p hp=>by cases hp⟩
  ·rw[hgo,hy]at hw
   exact⟨hw,fun p hp=>by cases hp;exact⟨cds y,by rw[hgo,hy];rfl,rfl⟩⟩
 refine⟨_,rfl,e.p,dp,_,rfl,hp1,ZbK ..,e.p,e.k,e.f,e.ss,e.g+1,rfl,R1.at',rfl,_,rfl,?_⟩
 rw[ZlF]
 refine ZpE (fun v H2=>Zu H1 H2∧∃c,CV H2 v c∧Zih (hdM (bump L e.n)) (cds x) [e.n] c) (fun d Q' hq=>?_) (fun d Q' hq=>?_) (fun v H2 ⟨s2,c,hcv,hok⟩=>?_)
 ·have hn:e.ss[e.g+1]? = none:=by
   have:=of_decide_eq_true d
   cases hy:e.ss[e.g+1]? with
   | none=>rfl
   | some y=>rw[hy]at this;cases this
  exact hq _ _ ⟨Zu.refl _,none,.inl ⟨rfl,rfl⟩,hdd none (.inl ⟨rfl,hn⟩)⟩
 ·obtain⟨y,hy⟩:∃y,e.ss[e.g+1]? = some y:=by
   cases hy:e.ss[e.g+1]? with
   | none=>rw[hy]at d;exact absurd rfl (of_decide_eq_false d)
   | some y=>exact⟨y,rfl⟩
  have hyl:e.g+1<e.ss.length:=(Qd.mp hy).1
  have hal:ZcK e.ss (e.g+1)=((lcp (cds y) (cds x):Nat):Int):=by
   unfold ZcK
   rw[if_neg (by omega),Qap,Qi,Qi,hx,hy,Zb7]
   rfl
  have hat:atI ((List.range e.ss.length).map fun j=>V.int (ZcK e.ss j)) ((e.g+1:Nat):Int)=some (.int ((lcp (cds y) (cds x):Nat):Int)):=Z6 (by rw[Qk,Qab hyl,← hal];rfl)
  refine⟨_,rfl,_,rfl,e.p,cRow,dp,_,_,rfl,hp1,T.cl_Row,T.na_Row_fars,Zka ..,_,rfl,e.p,cRow,dp,_,_,rfl,hp1,T.cl_Row,T.na_Row_gone,ZcC ..,e.f,_,_,_,rfl,rfl,SqL.of R1.at'.fs,hat,(by show 2≤sizeLine;decide),fun tc htc=>?_⟩
  exact hq _ _ ⟨Zi htc _,some (e.n,((lcp (cds y) (cds x):Nat):Int)),.inr ⟨tc,_,rfl,rfl,Zc⟩,hdd _ (.inr ⟨y,hy,rfl⟩)⟩
 have M2:=M1.same s2
 obtain⟨dx2,hm2⟩:=M2.ob
 refine⟨_,rfl,m,cMerge,dx2,_,_,rfl,hm2,T.cl_Merge,T.na_Merge_rows,ZbI ..,rd,_,rfl,M2.rows,fun l hl=>?_⟩
 rw[Zm6,Zb2]
 have s3:=s2.trans (Zi hl (.lst ((ZC L).map V.int)))
 have hl3:(upd H2 l (.lst ((ZC L).map V.int))) l=some (.lst ((ZC L).map V.int)):=Zc
 have hcv3:CV (upd H2 l (.lst ((ZC L).map V.int))) v c:=hcv.keep fun t xs ht=>Zi hl _ _ _ ht
 generalize upd H2 l (.lst ((ZC L).map V.int))=H3 at s3 hl3 hcv3 ⊢
 refine⟨_,rfl,l,ZC L,e.n,rfl,hl3,hpos,h60,M.up,fun r ts H4 hr0 hr4 htl hts s4=>?_⟩
 have s14:=s3.trans s4
 have M4:=M1.same s14
 have hcv4:CV H4 v c:=hcv3.keep fun t xs ht=>s4 _ _ ht
 refine⟨r,rfl,⟨_,SqL.of hr4⟩,?_⟩
 obtain⟨dm4,hm4⟩:=M4.ob
 obtain⟨dm1,hm1⟩:=M1.ob
 have nrm:r≠m:=(Zb (s3 _ _ hm1) hr0).symm
 have nrs:r≠sd:=(Zb (s3 _ _ M1.stays) hr0).symm
 refine ZfA (K:=K) (a:=r) (xs:=ts.map V.ref) (fun i σ H5=>∃ (v':V) (c':Com) (s':StL) (k q':Int) (v4:Option V),σ=[some (.ref m),some (.int e.n),some (.ref e.p),some v',v4]∧i≤ts.length∧CV H5 v' c'∧Zih (hdM (bump L e.n)) (cds x) (low e.n (ZR 8 (ZC L) e.n) i) c'∧ZX cRow cMerge H5 m rd sd (bump L e.n) s' nb (li+k) (lo'+q') best∧Z2 (hdM (bump L e.n)) s' (low e.n (ZR 8 (ZC L) e.n) i)∧(∀j,¬ Kys (low e.n (ZR 8 (ZC L) e.n) i) j→ZO s' j=ZO s j)∧Ag (hdM (bump L e.n)) (cds x) (ZdK e.n ((ZR 8 (ZC L) e.n).take i)) k q'∧(∀b o,H4 b=some o→b≠m→b≠sd→H5 b=some o)) ?_ (fun i σ H5 _ hq=>by obtain⟨_,_,_,_,_,_,_,_,_,_,_,_,_,_,k5⟩:=hq;exact SqL.of (k5 _ _ hr4 nrm nrs)) ?_ ?_
 ·refine⟨v,c,s,0,0,_,rfl,Qv _,hcv4,hok,M4.cast (by omega) (by omega),fun X hX h2=>?_,fun _ _=>rfl,.nil,fun b o h _ _=>h⟩
  have:=ZeR hX
  rcases this with rfl|⟨g,_⟩
  ·exact absurd h2 (by show ¬ 2≤1;decide)
  ·exact absurd g (by show ¬ 2≤1;decide)
 ·rintro i y σ H5 hy ⟨v',c',s',k,q',v4,rfl,hi,hcv5,hok5,M5,nok,hlk,ag,k5⟩
  rw[Qk]at hy
  cases hz:ts[i]? with
  | none=>rw[hz]at hy;cases hy
  | some t =>
  rw[hz]at hy
  cases hy
  have hil:i<ts.length:=(Qd.mp hz).1
  cases hX:(ZR 8 (ZC L) e.n)[i]? with
  | none=>rw[Qax]at hX;omega
  | some X =>
  obtain⟨x1,x2,x3,x4⟩:=cok i X hX
  have hup:=x1.rise M.up
  have e3:low e.n (ZR 8 (ZC L) e.n) (i+1)=X:=by show (ZR 8 (ZC L) e.n).getD i []=X;rw[Qi,hX];rfl
  have ht5:H5 t=some (.tup [.int (ZL X).1,.int (ZL X).2]):=k5 _ _ (hts i t X hz hX) (fun z=>by have:=hts i t X hz hX;rw[z,hm4]at this;cases this) (fun z=>by have:=hts i t X hz hX;rw[z,M4.stays]at this;cases this)
  obtain⟨dm5,hm5⟩:=M5.ob
  rw[← x4]at hok5 nok hlk
  have was:=ZmW tk x1 x2 x3 ok
  have hkey:ZO s' (ZL X)=ZO s (ZL X):=hlk _ fun z=>(Ziu hup x2 z).1 rfl
  refine⟨_,rfl,m,dm5,_,rfl,hm5,ZhA ..,_,rfl,_,rfl,m,rd,sd,bump L e.n,s',nb,_,_,best,t,v',c',cds x,X,e.n,rfl,M5,ht5,hcv5,hok5,?_,fun b hb y hy=>tk.ge (x1.mem hb) hy,hup,fun b hb=>by rw[Zb2];exact x1.mem hb,x2,x3,fun v6 c6 s6 k6 q6 H6 hcv6 hok6 hnd6 hoth6 hag6 M6 k6'=>?_⟩
  ·rw[hkey]
   rcases was with w|⟨t',b,y,w1,w2,_,w4⟩
   ·exact .inl w
   ·exact .inr ⟨t',b,y,w1,w2,w4⟩
  ·refine⟨v6,c6,s6,k+k6,q'+q6,_,rfl,hil,hcv6,by rw[e3];exact hok6,M6.cast (by omega) (by omega),?_,fun j hj=>?_,?_,fun b o hb n1 n2=>k6' b o (k5 b o hb n1 n2) n1 n2⟩
   ·rw[e3]
    refine ZkR (n:=e.n) (nok.congr (fun _ _=>rfl) fun j hj=>hoth6 j (Ziu hup x2 hj).1) ?_ hnd6
    have hno:=Zfk hup (Zdu x3)
    have so:Sub X (Zak X e.n):=by unfold Zak;split;exact Sub.top.up x2;exact Sub.top.lo x2
    refine(ok.sub (x1.trans so)).congr (fun b hb=>tk.oth b fun z=>hno (z ▸ hb)) fun j hj=>?_
    rw[hoth6 j (Zio hup x2 hj).1,hlk j (Zio hup x2 hj).2]
   ·rw[e3]at hj
    rw[hoth6 j (fun z=>hj ⟨X,.top,x2,z⟩),hlk j (fun hq=>by obtain⟨Y,y1,y2,y3⟩:=hq;exact hj ⟨Y,(Zig x2 e.n).trans y1,y2,y3⟩)]
   ·have:=hag6 _ _ _ ag
    unfold ZdK at this ⊢
    rw[QK,hX,Qg]
    exact this
 ·rintro σ H5 ⟨v',c',s',k,q',v4,rfl,_,hcv5,hok5,M5,nok,hlk,ag,k5⟩
  rw[Qa,htl,ctop]at hok5 nok
  rw[Qa,htl,Qz (Qh _)]at ag
  obtain⟨dm5,hm5⟩:=M5.ob
  have fin:∀w':Option Int,w'=c'.map (·.1)→Q .non (upd H5 m (.ins cMerge dm5 (mgF rd nb (li+k) (lo'+q') sd (Zd0 w')))):=fun w' ew=>by
   subst ew
   refine q s' _ k q' _ M5.obj hok5.1 nok ag fun b o hb nf=>?_
   rw[Zd (fun z=>nf (.inl z))]
   exact keep1 (fun b o hb n1 n2=>k5 b o (s14 b o hb) n1 n2) b o hb nf
  rcases hcv5 with⟨rfl,rfl⟩|⟨t,p,rfl,rfl,ht⟩
  ·refine⟨_,rfl,rfl,_,rfl,Zfn rfl ?_⟩
   refine⟨_,rfl,m,cMerge,dm5,_,rfl,hm5,T.cl_Merge,T.na_Merge_best,Zcc ..,?_⟩
   rw[ZbT]
   exact fin none rfl
  ·refine⟨_,rfl,rfl,_,rfl,ZdY (fun z=>nomatch z) ?_⟩
   refine⟨_,rfl,t,_,_,_,rfl,rfl,SqT.of ht,(show atI [V.int p.1,V.int p.2] 0=some (.int p.1) from Z6 (j:=0) rfl),_,rfl,m,cMerge,dm5,_,rfl,hm5,T.cl_Merge,T.na_Merge_best,Zcc ..,?_⟩
   rw[ZbT]
   exact fin (some p.1) rfl
def Zje(L:List ZB)(w:Option Int)(x:V)(L':List ZB)(k q:Int)(H':Hp):Prop :=
 (w=none∧x=.non∧L'=L∧k=0∧q=0)∨∃ (e:ZB) (t:Addr) (z:Str),e∈L∧w=some e.n∧x=.ref t∧e.ss[e.g]? = some z∧H' t=some (.tup [.int e.n,.int (e.g:Int),.str z])∧L'=bump L e.n∧Ag (hdM L') (cds z) (ZdK e.n (ZR 8 (ZC L) e.n)) k q
theorem Zi5(rd:Addr)(nb li lo:Int)(sd:Addr)(best:V):(mgF rd nb li lo sd best).lookup ("send_out" : Str)=none:=ZcN _ _ _ _ _ _ (by ac_rfl) (by ac_rfl) (by ac_rfl) (by ac_rfl) (by ac_rfl) (by ac_rfl)
theorem ZiR(rd:Addr)(nb li lo:Int)(sd:Addr)(best:V):(mgF rd nb li lo sd best).lookup ("take" : Str)=none:=ZcN _ _ _ _ _ _ (by ac_rfl) (by ac_rfl) (by ac_rfl) (by ac_rfl) (by ac_rfl) (by ac_rfl)
def Zm3(cR cM:Addr):Sp:=fun vs H Q _=>∃ (m rd sd:Addr) (L:List ZB) (s:StL) (nb li lo:Int) (w:Option Int),vs=[.ref m]∧ZX cR cM H m rd sd L s nb li lo (Zd0 w)∧Win (hdM L) (ZC L) w∧Z2 (hdM L) s (ZC L) ∧
 ∀ (x:V) (L':List ZB) (s':StL) (w':Option Int) (k q:Int) (H':Hp),Zje L w x L' k q H'→ZX cR cM H' m rd sd L' s' nb (li+k) (lo+q) (Zd0 w')→Win (hdM L') (ZC L') w'→Z2 (hdM L') s' (ZC L')→(∀b o,H b=some o→¬ Fp m rd sd L b→H' b=some o)→Q x H'
theorem Znv(T:Zaj K mg cRow cMerge)(f_Merge_coming:Mf P w K mg base 3 cMerge "coming" ["self"] (ZhW cRow cMerge))(f_Merge_send_out:Mf P w K mg base 5 cMerge "send_out" ["self", "number"] (Zlc cRow cMerge)):Mf P w K mg base 6 cMerge "take" ["self"] (Zm3 cRow cMerge):=by
 refine T.t_Merge_take.mf ZdW (fun vs H Q E h=>?_) (fun cdv f A outer s H vs Q E hr h=>?_)
 ·obtain⟨m,rd,sd,L,s,nb,li,lo,w,rfl,_⟩:=h
  rfl
 obtain⟨m,rd,sd,L,s,nb,li,lo',w,rfl,M,W,ok,q⟩:=h
 refine⟨_,#[Zf,#[Zw,1,ZdW.nd,(Or.inl rfl),#[ZcM,f_Merge_coming,T.cl_Merge,hr,‹0›]],#[Zf,#[Zae,#[Zn,Zg7,‹1›,#[ZaA],(Zt _)],#[Zj,#[ZaU,#[Ze0,f_Merge_send_out,T.cl_Merge,hr,‹0›,#[Za,#[Z8,‹0›],#[Ze]]]]],#[ZF]],#[Zj,#[Zp,‹1›]]]],?_⟩
 obtain⟨dx,hm⟩:=M.ob
 refine⟨_,rfl,m,dx,_,rfl,hm,Zhn ..,m,rd,sd,L,s,nb,li,lo',w,rfl,M,W,fun x H1 hc s1=>?_⟩
 have M1:=M.same s1
 rcases hc with⟨rfl,hw⟩|⟨t,e',z,rfl,he',hz,ht,hw⟩
 ·have hw':Win (hdM L) (ZC L) none:=by rw[Zeh]at hw;exact hw
  have ew:=W.one hw'
  subst ew
  exact⟨_,rfl,rfl,_,rfl,Zjt rfl ⟨_,rfl,q .non L s none 0 0 H1 (.inl ⟨rfl,rfl,rfl,rfl,rfl⟩) (M1.cast (by omega) (by omega)) W ok (fun b o hb _=>s1 b o hb)⟩⟩
 ·obtain⟨e,he,rfl⟩:=Qx.mp he'
  have hw':Win (hdM L) (ZC L) (some e.n):=by rw[Zeh]at hw;exact hw
  have ew:=W.one hw'
  subst ew
  obtain⟨dx1,hm1⟩:=M1.ob
  refine⟨_,rfl,rfl,_,rfl,ZoR (fun z=>nomatch z) ?_⟩
  refine⟨_,rfl,m,dx1,_,rfl,hm1,Zi5 ..,_,rfl,m,cMerge,dx1,_,_,rfl,hm1,T.cl_Merge,T.na_Merge_best,Zdz ..,m,rd,sd,L,s,nb,li,lo',_,e,z,rfl,M1,he,hz,W,ok,fun s' w' k q' H2 M2 W2 ok2 ag k2=>?_⟩
  have ht2:H2 t=some (.tup [.int e.n,.int (e.g:Int),.str z]):=k2 _ _ ht fun hf=>by
   have ht':=ht
   rcases hf with h|h|h|⟨y,hy,h⟩
   ·rw[h,hm1]at ht';cases ht'
   ·rw[h,M1.rows]at ht';cases ht'
   ·rw[h,M1.stays]at ht';cases ht'
   ·have R:=(M1.each y hy).at'
    obtain⟨dy,hdy⟩:=R.ob
    rcases h with h|h|h
    ·rw[h,hdy]at ht';cases ht'
    ·rw[h,R.ks]at ht';cases ht'
    ·rw[h,R.fs]at ht';cases ht'
  exact⟨_,rfl,q (.ref t) (bump L e.n) s' w' k q' H2 (.inr ⟨e,t,z,he,rfl,rfl,hz,ht2,rfl,ag⟩) M2 (by rw[Zb2];exact W2) (by rw[Zb2];exact ok2) (fun b o hb nf=>k2 b o (s1 b o hb) nf)⟩
abbrev ZI:=Int×List Str×Nat
def pur(Lo:List ZaX):List ZI:=Lo.map fun e=>(e.1,e.2.2)
def ZbM(L:List ZB):List ZI:=L.map fun e=>(e.n,(e.ss,e.g))
def hdP(P:List ZI):Hd:=hdL (P.map fun x=>(x.1,0,x.2))
def ZaB(P:List ZI):List Int:=P.map (·.1)
def Zai(n:Int)(x:ZI):ZI:=if x.1=n then (x.1,x.2.1,x.2.2+1) else x
def Zbl(P:List ZI)(n:Int):List ZI:=P.map (Zai n)
theorem Zfc(L:List ZB):hdM L=hdP (ZbM L):=ZjW _ _ (by unfold ZbM;rw[QC,QC,QC];rfl)
theorem ZcD(L:List ZB):ZC L=ZaB (ZbM L):=by unfold ZaB ZbM ZC;rw[QC];rfl
theorem Zgs(L:List ZB)(n:Int):ZbM (bump L n)=Zbl (ZbM L) n:=by
 unfold ZbM bump Zbl
 rw[QC,QC]
 refine QH fun e _=>?_
 simp only[Function.comp]
 unfold Zai
 by_cases h:e.n=n
 ·rw[Zeu h,if_pos h]
 ·rw[ZfX h,if_neg h]
def ZqJ(n:Int)(e:ZaX):ZaX:=if e.1=n then (e.1,e.2.1,e.2.2.1,e.2.2.2+1) else e
def Zra(Lo:List ZaX)(n:Int):List ZaX:=Lo.map (ZqJ n)
theorem Zgt(P:List ZI)(n:Int):ZaB (Zbl P n)=ZaB P:=by
 unfold ZaB Zbl
 rw[QC]
 refine QH fun x _=>?_
 simp only[Function.comp]
 unfold Zai
 split<;>rfl
theorem ZfI{P:List ZI}(nd:(ZaB P).Nodup){x:ZI}(h:x∈P):hdP P x.1=(x.2.1[x.2.2]?).map cds :=
 ZiG (L:=P.map fun x:ZI=>((x.1,0,x.2):ZaX)) (e:=(x.1,0,x.2)) (by rw[QC];exact nd) (Qo (f:=fun x:ZI=>((x.1,0,x.2):ZaX)) h)
def Zmc(P:List ZI)(x:ZI)(z:Str)(k q:Int):Prop:=x∈P∧x.2.1[x.2.2]? = some z∧Win (hdP P) (ZaB P) (some x.1)∧Ag (hdP (Zbl P x.1)) (cds z) (ZdK x.1 (ZR 8 (ZaB P) x.1)) k q
abbrev Zaq:=Int×Nat×Str
inductive Zcs (P:List ZI):List Zaq→List ZI→Int→Int→Prop
 | nil:Zcs P [] P 0 0
 | snoc {ts:List Zaq} {P1:List ZI} {x:ZI} {z:Str} {k q k1 q1:Int}:Zcs P ts P1 k q→Zmc P1 x z k1 q1→Zcs P (ts++[(x.1,x.2.2,z)]) (Zbl P1 x.1) (k+k1) (q+q1)
inductive ZeF:List ZI→Int→Int→Prop
 | stop {P:List ZI}:Win (hdP P) (ZaB P) none→ZeF P 0 0
 | go {P:List ZI} {x:ZI} {z:Str} {k q k1 q1:Int}:Zmc P x z k1 q1→ZeF (Zbl P x.1) k q→ZeF P (k1+k) (q1+q)
theorem Zcs.num{P P':List ZI}{ts:List Zaq}{k q:Int}(h:Zcs P ts P' k q):ZaB P'=ZaB P:=by
 induction h with
 | nil=>rfl
 | snoc _ _ ih=>rw[Zgt,ih]
def ZaW(P:List ZI):Nat:=(P.map fun x=>x.2.1.length-x.2.2).sum
theorem ZdJ:∀ (P:List ZI),(ZaB P).Nodup→∀ {x:ZI},x∈P→x.2.2<x.2.1.length→ZaW (Zbl P x.1)+1=ZaW P
 | [],_,_,h,_=>by cases h
 | y::P,nd,x,h,hlt=>by
  unfold ZaB at nd
  rw[Qn,QZ]at nd
  unfold ZaW Zbl
  rw[Qn,Qn,Qn,QT,QT]
  rcases QG.mp h with rfl|h
  ·have e:P.map (Zai x.1)=P:=by
    conv=>rhs;rw[← List.map_id P]
    refine QH fun u hu=>?_
    unfold Zai
    rw[if_neg (fun z:u.1=x.1=>nd.1 (z ▸ Qo (f:=fun x:ZI=>x.1) hu))]
    rfl
   rw[e]
   unfold Zai
   rw[if_pos rfl]
   show x.2.1.length-(x.2.2+1)+_+1=_
   omega
  ·have ih:=ZdJ P nd.2 h hlt
   unfold ZaW Zbl at ih
   have e:Zai x.1 y=y:=if_neg (fun z:y.1=x.1=>nd.1 (z ▸ Qo (f:=fun x:ZI=>x.1) h))
   rw[e]
   omega
theorem Zcs.left{P P':List ZI}{ts:List Zaq}{k q:Int}(h:Zcs P ts P' k q)(nd:(ZaB P).Nodup):ZaW P'+ts.length=ZaW P:=by
 induction h with
 | nil=>rfl
 | snoc h s ih =>
  have:=ZdJ _ (by rw[h.num];exact nd) s.1 (Qd.mp s.2.1).1
  rw[Qf,Qm]
  omega
theorem Zks{L L':List ZB}{w:Option Int}{x:V}{k q:Int}{H:Hp}(W:Win (hdM L) (ZC L) w)(h:Zje L w x L' k q H):(Win (hdP (ZbM L)) (ZaB (ZbM L)) none∧x=.non∧L'=L∧k=0∧q=0)∨∃ (y:ZI) (z:Str) (t:Addr),Zmc (ZbM L) y z k q∧ZbM L'=Zbl (ZbM L) y.1∧x=.ref t∧H t=some (.tup [.int y.1,.int (y.2.2:Int),.str z]):=by
 rw[Zfc,ZcD]at W
 rcases h with⟨rfl,h1,h2,h3,h4⟩|⟨e,t,z,he,rfl,rfl,hz,ht,rfl,ag⟩
 ·exact .inl ⟨W,h1,h2,h3,h4⟩
 ·refine .inr ⟨(e.n,(e.ss,e.g)),z,t,⟨Qo (f:=fun e:ZB=>(e.n,(e.ss,e.g))) he,hz,W,?_⟩,Zgs L e.n,rfl,ht⟩
  rw[Zfc,Zgs,ZcD]at ag
  exact ag
def ZoF(K:PySem.W.Frag)(cR cM:Addr):Sp:=fun vs H Q _=>∃ (m rd sd:Addr) (L:List ZB) (s:StL) (nb li lo:Int) (w:Option Int) (many:Int),vs=[.ref m,.int many]∧ZX cR cM H m rd sd L s nb li lo (Zd0 w)∧Win (hdM L) (ZC L) w∧Z2 (hdM L) s (ZC L)∧ZaW (ZbM L)≤100000 ∧
 ∀ (r:Addr) (us:List (Addr×Zaq)) (L':List ZB) (s':StL) (w':Option Int) (k q:Int) (H':Hp),H r=none→H' r=some (.lst (us.map fun u=>V.ref u.1))→(∀u∈us,H' u.1=some (.tup [.int u.2.1,.int (u.2.2.1:Int),.str u.2.2.2]))→Zcs (ZbM L) (us.map (·.2)) (ZbM L') k q→((us.length:Int)<many→w'=none)→(us≠[]→(us.length:Int)≤many)→ZX cR cM H' m rd sd L' s' nb (li+k) (lo+q) (Zd0 w')→Win (hdM L') (ZC L') w'→Z2 (hdM L') s' (ZC L')→(∀b,Fp m rd sd L' b↔Fp m rd sd L b)→(∀b o,H b=some o→¬ Fp m rd sd L b→H' b=some o)→Q (.ref r) H'
theorem Zje.fp{L L':List ZB}{w:Option Int}{x:V}{k q:Int}{H:Hp}(h:Zje L w x L' k q H){m rd sd b:Addr}:Fp m rd sd L' b↔Fp m rd sd L b:=by
 rcases h with⟨_,_,rfl,_⟩|⟨e,t,z,_,_,_,_,_,rfl,_⟩
 ·exact Iff.rfl
 ·exact⟨Zoy,Fp_bump'⟩
theorem ZX.fp_live{cR cM:Addr}{H:Hp}{m rd sd:Addr}{L:List ZB}{s:StL}{nb li lo:Int}{best:V}(M:ZX cR cM H m rd sd L s nb li lo best){b:Addr}(h:Fp m rd sd L b):∃o,H b=some o∧∀xs,o≠.tup xs:=by
 rcases h with rfl|rfl|rfl|⟨e,he,h⟩
 ·obtain⟨dx,hd⟩:=M.ob;exact⟨_,hd,fun xs z=>by cases z⟩
 ·exact⟨_,M.rows,fun xs z=>by cases z⟩
 ·exact⟨_,M.stays,fun xs z=>by cases z⟩
 ·have R:=(M.each e he).at'
  obtain⟨dx,hd⟩:=R.ob
  rcases h with rfl|rfl|rfl
  ·exact⟨_,hd,fun xs z=>by cases z⟩
  ·exact⟨_,R.ks,fun xs z=>by cases z⟩
  ·exact⟨_,R.fs,fun xs z=>by cases z⟩
theorem ZX.fp_fresh{cR cM:Addr}{H:Hp}{m rd sd:Addr}{L:List ZB}{s:StL}{nb li lo:Int}{best:V}(M:ZX cR cM H m rd sd L s nb li lo best){b:Addr}(h:H b=none):¬ Fp m rd sd L b:=fun z=>by
 obtain⟨o,ho,_⟩:=M.fp_live z
 rw[h]at ho;cases ho
theorem ZX.fp_tup{cR cM:Addr}{H:Hp}{m rd sd:Addr}{L:List ZB}{s:StL}{nb li lo:Int}{best:V}(M:ZX cR cM H m rd sd L s nb li lo best){b:Addr}{xs:List V}(h:H b=some (.tup xs)):¬ Fp m rd sd L b:=fun z=>by
 obtain⟨o,ho,hn⟩:=M.fp_live z
 rw[h]at ho;cases ho;exact hn xs rfl
theorem Zpz(T:Zaj K mg cRow cMerge)(f_Merge_take:Mf P w K mg base 6 cMerge "take" ["self"] (Zm3 cRow cMerge)):Mf P w K mg base 7 cMerge "take_few" ["self", "many"] (ZoF K cRow cMerge):=by
 refine T.t_Merge_take_few.mf Zce (fun vs H Q E h=>?_) (fun cdv f A outer s H vs Q E hr h=>?_)
 ·obtain⟨m,rd,sd,L,s,nb,li,lo,w,many,rfl,_⟩:=h
  rfl
 obtain⟨m,rd,sd,L,s,nb,li,lo',w,many,rfl,M,W,ok,hleft,q⟩:=h
 refine⟨_,#[Zf,#[Zw,2,Zce.nd,(Or.inl rfl),#[Za9,#[Ze]]],#[Zf,(@Zea _ _ _ _ _ _ PassesOwn.never (@PW.pt _ _ _ #[Zdo,#[Zn,ZdU,#[Zk,(ZbH K),(by rfl),T.b.n_len,Qu,#[Za,‹2›,#[Ze]]],‹1›,(Zt _)],(@ZdE _ _ _ _ #[Zn,Zg7,#[Z8,‹0›],#[ZaA],(Zt _)])]) #[Zj,#[ZaU,#[Zdq,QJ,QO,QP,ZaR,‹2›,#[Za,#[ZcM,f_Merge_take,T.cl_Merge,hr,‹0›],#[Ze]]]]]),#[Zj,#[Zp,‹2›]]]],?_⟩
 have nd:(ZaB (ZbM L)).Nodup:=by rw[← ZcD];exact M.nd
 refine⟨(by show 0≤sizeLine;decide),fun r hr0=>?_⟩
 have nfr:=M.fp_fresh hr0
 refine⟨fun mm σ H2=>∃ (us:List (Addr×Zaq)) (L':List ZB) (s':StL) (w':Option Int) (k q':Int),σ=[some (.ref m),some (.int many),some (.ref r)]∧H2 r=some (.lst (us.map fun u=>V.ref u.1))∧(∀u∈us,u.1≠r∧H2 u.1=some (.tup [.int u.2.1,.int (u.2.2.1:Int),.str u.2.2.2]))∧Zcs (ZbM L) (us.map (·.2)) (ZbM L') k q'∧(us≠[]→(us.length:Int)≤many)∧ZX cRow cMerge H2 m rd sd L' s' nb (li+k) (lo'+q') (Zd0 w')∧Win (hdM L') (ZC L') w'∧Z2 (hdM L') s' (ZC L')∧(∀b,Fp m rd sd L' b↔Fp m rd sd L b)∧(∀b o,H b=some o→¬ Fp m rd sd L b→H2 b=some o)∧mm=ZaW (ZbM L'),⟨_,[],L,s,w,0,0,rfl,Zc,(fun u h=>by cases h),.nil,(fun h=>absurd rfl h),(M.same (Zi hr0 _)).cast (by omega) (by omega),W,ok,fun _=>Iff.rfl,fun b o hb _=>Zi hr0 _ _ _ hb,rfl⟩,?_⟩
 rintro mm σ H2 ⟨us,L1,s1,w1,k,q',rfl,hr2,hus,htk,hmany,M2,W2,ok2,hfp,k2,rfl⟩
 have hul:(((us.map fun u=>V.ref u.1).length:Nat):Int)=(us.length:Int):=by rw[Qa]
 have hlf:=htk.left nd
 rw[Qa]at hlf
 obtain⟨dx2,hm2⟩:=M2.ob
 have done:((us.length:Int)<many→w1=none)→Q (.ref r) H2:=fun hd=>q r us L1 s1 w1 k q' H2 hr0 hr2 (fun u hu=>(hus u hu).2) htk hd hmany M2 W2 ok2 hfp k2
 refine⟨_,rfl,r,_,rfl,.inl (SqL.of hr2),_,rfl,_,_,rfl,rfl,_,rfl,Za4 (fun d1=>?_) (fun d1=>?_)⟩
 ·have d1':(us.length:Int)<many:=by have:=of_decide_eq_true d1;omega
  refine⟨_,rfl,m,cMerge,dx2,_,_,rfl,hm2,T.cl_Merge,T.na_Merge_best,Zdz ..,rfl,_,rfl,?_⟩
  cases w1 with
  | none=>exact Zjt rfl ⟨_,rfl,done fun _=>rfl⟩
  | some a =>
  refine ZoR (fun z=>nomatch z) ?_
  refine⟨_,fun σ' H' h=>h,?_⟩
  refine⟨_,rfl,.inl ⟨rfl,_,SqL.of hr2⟩,_,rfl,m,dx2,_,rfl,hm2,ZiR ..,m,rd,sd,L1,s1,nb,_,_,some a,rfl,M2,W2,ok2,fun x L3 s3 w3 k3 q3 H3 hR M3 W3 ok3 kp3=>?_⟩
  have hr3:H3 r=some (.lst (us.map fun u=>V.ref u.1)):=kp3 _ _ hr2 (fun z=>nfr ((hfp r).mp z))
  rcases Zks W2 hR with⟨w0,_⟩|⟨y,z,t,stp,eL,rfl,ht⟩
  ·rw[Zfc,ZcD]at W2
   exact nomatch w0.one W2
  have hbl:=ZdJ _ (by rw[htk.num];exact nd) stp.1 (Qd.mp stp.2.1).1
  have htr:t≠r:=fun e=>by rw[e,hr3]at ht;cases ht
  refine⟨r,_,_,rfl,rfl,hr3,(by rw[Qa,sizeLine_eq];omega),ZaW (ZbM L3),by rw[eL];omega,us++[(t,(y.1,y.2.2,z))],L3,s3,w3,k+k3,q'+q3,rfl,by rw[Zc,Qg];rfl,fun u hu=>?_,?_,fun _=>by rw[Qf,Qm];omega,?_,W3,ok3,fun b=>(hR.fp).trans (hfp b),fun b o hb nf=>?_,rfl⟩
  ·rcases Qe.mp hu with hu|hu
   ·obtain⟨g2,g3⟩:=hus u hu
    exact⟨g2,by rw[Zd g2];exact kp3 _ _ g3 (M2.fp_tup g3)⟩
   ·rw[Qc.mp hu]
    exact⟨htr,by rw[Zd htr];exact ht⟩
  ·rw[Qg,eL]
   exact .snoc htk stp
  ·refine ZX.cast (M3.keep fun b o hb hor=>?_) (by omega) (by omega)
   rw[Zd (fun e=>?_)]
   ·exact hb
   ·subst e
    rcases hor with hf|⟨xs,rfl⟩
    ·exact nfr ((hfp b).mp (hR.fp.mp hf))
    ·rw[hr3]at hb;cases hb
  ·rw[Zd (Zb hb hr0)]
   exact kp3 b o (k2 b o hb nf) (fun z=>nf ((hfp b).mp z))
 ·refine Zdk ⟨_,rfl,done fun h=>?_⟩
  have:¬ ((((us.map fun u=>V.ref u.1).length:Nat):Int)<many):=fun z=>d1 (decide_eq_true z)
  omega
def spLWay:Sp:=fun vs H Q _=>∃ (a:Addr) (N:List Int) (n:Int),vs=[.ref a,.int n]∧H a=some (.lst (N.map V.int))∧n∈N∧N.length≤60∧Zad N ∧
 ∀ (r:Addr) (ts:List (Addr×Addr×Addr)) (H':Hp),H r=none→H' r=some (.lst (ts.map fun t=>V.ref t.1))→ts.length=(ZR 8 N n).length→(∀ (i:Nat) (t:Addr×Addr×Addr) (X:List Int),ts[i]? = some t→(ZR 8 N n)[i]? = some X→H' t.1=some (.tup [.ref t.2.1,.ref t.2.2])∧H' t.2.1=some (.lst ((Zaa X n).map V.int))∧H' t.2.2=some (.lst ((Zak X n).map V.int)))→Zu H H'→Q (.ref r) H'
def ZpQ(Lo:List ZaX)(x:V)(Lo':List ZaX)(k q:Int)(H':Hp):Prop :=
 (x=.non∧Win (hdL Lo) (Lo.map (·.1)) none∧Lo'=Lo∧k=0∧q=0)∨∃ (e:ZaX) (t:Addr) (z:Str),e∈Lo∧Win (hdL Lo) (Lo.map (·.1)) (some e.1)∧x=.ref t∧e.2.2.1[e.2.2.2]? = some z∧H' t=some (.tup [.int e.1,.int (e.2.2.2:Int),.str z])∧Lo'=Zra Lo e.1∧Ag (hdL Lo') (cds z) (ZdK e.1 (ZR 8 (Lo.map (·.1)) e.1)) k q
def spLTaken:Sp:=fun vs H Q _=>∃ (o ra ga:Addr) (Lo:List ZaX) (nb li lo:Int),vs=[.ref o]∧Own H o ra ga Lo nb li lo∧(Lo.map (·.1)).Pairwise (·<·) ∧
 ∀ (x:V) (Lo':List ZaX) (k q:Int) (H':Hp),ZpQ Lo x Lo' k q H'→Own H' o ra ga Lo' nb (li+k) (lo+q)→(∀b u,H b=some u→b≠o→b≠ga→H' b=some u)→Q x H'
structure MS where
 m:Addr
 rd:Addr
 sd:Addr
 L:List ZB
 s:StL
 nb:Int
 li:Int
 lo:Int
 w:Option Int
structure OS where
 o:Addr
 ra:Addr
 ga:Addr
 Lo:List ZaX
 nb:Int
def Zri(Y:OS)(b:Addr):Prop:=b=Y.o∨b=Y.ra∨b=Y.ga∨∃e∈Y.Lo,b=e.2.1
def MFp(X:MS)(b:Addr):Prop:=Fp X.m X.rd X.sd X.L b
structure MOk (cR cM:Addr) (H:Hp) (X:MS):Prop where
 M:ZX cR cM H X.m X.rd X.sd X.L X.s X.nb X.li X.lo (Zd0 X.w)
 W:Win (hdM X.L) (ZC X.L) X.w
 ok:Z2 (hdM X.L) X.s (ZC X.L)
structure Pair (cR cM:Addr) (H:Hp) (X:MS) (Y:OS):Prop where
 mg:MOk cR cM H X
 ow:Own H Y.o Y.ra Y.ga Y.Lo Y.nb X.li X.lo
 ag:Agr Y.Lo X.L
 sep:∀b,MFp X b→¬ Zri Y b
theorem ZkX{P:List ZI}(nd:(ZaB P).Nodup)(h:Win (hdP P) (ZaB P) none)(ok:∀x∈P,x.2.2≤x.2.1.length):ZaW P=0:=by
 unfold ZaW
 have:∀l:List Nat,(∀a∈l,a=0)→l.sum=0:=fun l hl=>by
  induction l with
  | nil=>rfl
  | cons b r ih=>rw[QT,hl b (by simp),ih fun a ha=>hl a (Qw _ ha)]
 refine this _ fun a ha=>?_
 obtain⟨x,hx,rfl⟩:=Qx.mp ha
 have hh:=h x.1 (Qo (f:=fun x:ZI=>x.1) hx)
 rw[ZfI nd hx]at hh
 cases hg:x.2.1[x.2.2]? with
 | none=>rw[Qax]at hg;show x.2.1.length-x.2.2=0;omega
 | some y=>rw[hg]at hh;cases hh
def Zf7(rs:List (Addr×List Str)):List ZI:=(Z0 0 rs.length).zip (rs.map fun x=>(x.2,0))
theorem Zjs{α β γ:Type}(f:α→β)(g:α→γ):∀l:List α,l.map (fun x=>(f x,g x))=(l.map f).zip (l.map g)
 | []=>rfl
 | x::r=>by rw[Qn,Qn,Qn,List.zip_cons_cons,Zjs f g r]
theorem ZmL{L:List ZB}{rs:List (Addr×List Str)}(h:ZpK L rs):ZbM L=Zf7 rs:=by
 unfold ZbM Zf7
 rw[Zjs (fun e:ZB=>e.n) (fun e=>(e.ss,e.g)) L,← h.1,← h.2];rfl
theorem Zm1(rs:List (Addr×List Str)):ZaW (Zf7 rs)=(rs.map fun x=>x.2.length).sum:=by
 unfold ZaW Zf7
 have e:((Z0 0 rs.length).zip (rs.map fun x=>(x.2,0))).map (fun x:ZI=>x.2.1.length-x.2.2)=((((Z0 0 rs.length).zip (rs.map fun x=>(x.2,0))).map (·.2))).map (fun y:List Str×Nat=>y.1.length-y.2):=by rw[QC];rfl
 rw[e,List.map_snd_zip (by rw[Qa,ZaF];exact Qh _),QC]
 rfl
def Zgz:Sp:=fun vs H Q _=>∃ (r:Addr) (rs:List (Addr×List Str)),vs=[.ref r]∧Zcj H r rs∧∀H':Hp,Zu H H'→Q (.int (((rs.map fun x=>x.2.length).sum:Nat):Int)) H'
theorem Zh5:∀rs:List (Addr×List Str),(rs.map fun x=>(x.2.length:Int)).sum=(((rs.map fun x=>x.2.length).sum:Nat):Int)
 | []=>rfl
 | x::r=>by rw[Qn,Qn,QT,QT,Zh5 r,Int.natCast_add]
theorem Zin(T:Zaj K mg cRow cMerge):Df P w K mg base 1 "how_many" ["rows"] Zgz:=by
 refine T.t_how_many.df ZhF (fun vs H Q E h=>?_) (fun cdv f A outer s H vs Q E hr h=>?_)
 ·obtain⟨r,rs,rfl,_⟩:=h
  rfl
 obtain⟨r,rs,rfl,hrs,q⟩:=h
 refine⟨_,#[Zj,#[Zp,#[Zk,(Zqb K),(by rfl),T.b.n_sum,boot_sum,#[Za,#[ZbU,ZnJ,#[iL,K,‹0›],(fun _ _ _ _=>#[cg,1,ZnJ]),(fun _ _ _ _=>(@Zbg _)),(fun _ _ _ _=>#[Zk,(ZbH K),(Zcx ZnJ rfl (by ac_rfl)),T.b.n_len,Qu,#[Za,#[cw,1,ZnJ],#[Ze]]])],#[Ze]]]]],?_⟩
 have hfew:=hrs.few
 refine⟨_,rfl,r,rfl,⟨_,SqL.of hrs.at'⟩,fun D hD=>?_⟩
 refine ZbA (K:=K) (a:=r) (xs:=rs.map fun x=>V.ref x.1) (fun i zs σ H2=>(∃v:Option V,σ=[some (.ref r),v])∧zs=((rs.take i).map fun x=>(x.2.length:Int)).map V.int∧i≤rs.length∧H2 D=some (.lst zs)∧Zu H H2) ?_ (fun _ _ _ _ h=>SqL.of (h.2.2.2.2 _ _ hrs.at')) ?_ ?_
 ·exact⟨⟨none,rfl⟩,rfl,Qv _,Zc,Zi hD _⟩
 ·rintro i y zs σ H2 hy ⟨⟨v,rfl⟩,rfl,hi,hD2,s2⟩
  rw[Qk]at hy
  cases hz:rs[i]? with
  | none=>rw[hz]at hy;cases hy
  | some x =>
  rw[hz]at hy
  cases hy
  have hil:i<rs.length:=(Qd.mp hz).1
  refine⟨_,rfl,x.1,_,rfl,.inl (SqL.of (s2 _ _ (hrs.lst x (Qr hz)).1)),hD2,(by rw[Qa,Qa,QA];exact ZJ (by omega)),⟨_,rfl⟩,?_,hil,Zc,fun b u hb=>?_⟩
  ·rw[QK,hz,Qg,Qg,Qa];rfl
  ·rw[Zd (Zb hb hD)];exact s2 b u hb
 rintro zs σ H2 ⟨⟨v,rfl⟩,rfl,_,hD2,s2⟩
 rw[Qa,Qz (Qh _)]at hD2
 refine⟨D,_,rfl,SqL.of hD2,by rw[Qa];omega,fun n hn=>?_,?_⟩
 ·obtain⟨x,hx,rfl⟩:=Qx.mp hn
  have:=(hrs.lst x hx).2.1
  omega
 ·rw[Zh5];exact q H2 s2
def spCounts:Sp:=fun vs H Q _=>∃ (r:Addr) (rs:List (Addr×List Str)),vs=[.ref r]∧Zcj H r rs∧(∀x∈rs,sortedS x.2=true)∧∀ (t:Addr) (k0 q0 k1 q1:Int) (H':Hp),Zd4 (hdP (Zf7 rs)) 8 (ZaB (Zf7 rs)) k0 q0→ZeF (Zf7 rs) k1 q1→H' t=some (.tup [.int (k0+k1),.int (q0+q1)])→Zu H H'→Q (.ref t) H'
theorem Zko(rd:Addr)(nb li lo:Int)(sd:Addr)(best:V):(mgF rd nb li lo sd best).lookup ("take_few" : Str)=none:=ZcN _ _ _ _ _ _ (by ac_rfl) (by ac_rfl) (by ac_rfl) (by ac_rfl) (by ac_rfl) (by ac_rfl)
theorem Zpx(rs:List (Addr×List Str))(h:∀x∈rs,x.2.length≤100):(rs.map fun x=>x.2.length).sum≤rs.length*100:=by
 induction rs with
 | nil=>exact Qh _
 | cons x r ih =>
  have:=ih fun y hy=>h y (Qw _ hy)
  have:=h x (by simp)
  rw[Qn,QT,QE]
  omega
theorem Zl9{L':List ZB}{P:List ZI}{ts:List Zaq}{k q:Int}{w':Option Int}{many:Nat}(nd:(ZaB P).Nodup)(h:Zcs P ts (ZbM L') k q)(h1:(ts.length:Int)<(many:Int)→w'=none)(h2:ts≠[]→(ts.length:Int)≤(many:Int))(W:Win (hdM L') (ZC L') w')(ok:∀x∈ZbM L',x.2.2≤x.2.1.length):ts.length=min many (ZaW P):=by
 have hl:=h.left nd
 by_cases hlt:(ts.length:Int)<(many:Int)
 ·have e:=h1 hlt
  subst e
  rw[Zfc,ZcD]at W
  have hz:=ZkX (by rw[h.num];exact nd) W ok
  omega
 ·by_cases hn:ts=[]
  ·subst hn
   simp only[List.length_nil]at hlt ⊢
   omega
  ·have:=h2 hn
   omega
theorem Zes:∀ns:List Int,PyData.canLayAll0 (ns.map PyData.int)=true
 | []=>rfl
 | x::r=>by simp[PyData.canLayAll0,PyData.canLay0,Zes r]
theorem Zd8:∀ns:List Int,PyData.depthAll (ns.map PyData.int)=0
 | []=>rfl
 | _::r=>by simp[PyData.depthAll,PyData.depth,Zd8 r]
theorem Zhy(ns:List Int):SeqAt.shaped (.list (ns.map PyData.int))=true:=by simp[SeqAt.shaped,PyData.canLay0,PyData.depth,Zes ns,Zd8]
theorem ZjQ{K:PySem.W.Frag}{H:Hp}:∀ns:List Int,DVs K H (ns.map V.int) (ns.map PyData.int)
 | []=>.nil
 | s::r=>.cons (.int s) (ZjQ r)
theorem Zey:∀a b:List Nat,Spec.ltCps a b=true↔a<b
 | [],[]=>by simp[Spec.ltCps]
 | [],y::s=>by simp[Spec.ltCps]
 | x::r,[]=>by simp[Spec.ltCps]
 | x::r,y::s=>by
  have ih:=Zey r s
  rw[List.cons_lt_cons_iff]
  simp[Spec.ltCps,ih]
def LeS(a b:Str):Prop:=¬ b.cps.toList<a.cps.toList
theorem LeS.trans{a b c:Str}(h:LeS a b)(k:LeS b c):LeS a c:=List.not_lt.mpr (List.le_trans (List.not_lt.mp h) (List.not_lt.mp k))
theorem Zgk:∀ (r:List Str) (x:Str),risingS x r=true↔(x::r).Pairwise LeS
 | [],x=>by simp[risingS]
 | y::r,x=>by
  have ih:=Zgk r y
  rw[List.pairwise_cons]
  unfold risingS
  rw[Qav,Bool.not_eq_true']
  constructor
  ·rintro⟨h1,h2⟩
   have p:=ih.mp h2
   have hxy:LeS x y:=fun z=>by rw[(Zey _ _).mpr z]at h1;cases h1
   refine⟨fun b hb=>?_,p⟩
   rcases QG.mp hb with rfl|hb
   ·exact hxy
   ·exact hxy.trans ((List.pairwise_cons.mp p).1 b hb)
  ·rintro⟨h1,h2⟩
   exact⟨Bool.eq_false_iff.mpr fun z=>h1 y (by simp) ((Zey _ _).mp z),ih.mpr h2⟩
theorem Zec(ss:List Str):sortedS ss=true↔ss.Pairwise LeS:=by
 cases ss with
 | nil=>simp[sortedS]
 | cons x r=>exact Zgk r x
theorem Zj5{c:Bool}(b2:Bool){e:(Bool→Hp→Prop)→Prop}{T:Bool→Hp→Prop}{H:Hp}(h1:c=true→∀T':Bool→Hp→Prop,(∀H',Zu H H'→T' b2 H')→e T')(q:∀H',Zu H H'→T (c&&b2) H'):if c=true then e T else T false H:=by
 cases c with
 | true=>rw[if_pos rfl];exact h1 rfl T q
 | false=>rw[if_neg Qt];exact q H (Zu.refl H)
def Zis:Sp:=fun vs H Q _=>∃ (r:Addr) (rs:List (Addr×List Str)),vs=[.ref r]∧Zcj H r rs∧(∀x∈rs,sortedS x.2=true) ∧
 ∀ (t:Addr) (us:List (Addr×Zaq)) (P':List ZI) (k q:Int) (H':Hp),Zcs (Zf7 rs) (us.map (·.2)) P' k q→us.length=(rs.map fun x=>x.2.length).sum→H' t=some (.lst (us.map fun u=>V.ref u.1))→(∀u∈us,H' u.1=some (.tup [.int u.2.1,.int (u.2.2.1:Int)]))→H t=none→(∀u∈us,H u.1=none)→Zu H H'→Q (.ref t) H'
theorem ZkG(T:Zaj K mg cRow cMerge)(f_Merge_init:Cf P w K mg base 14 cMerge "Merge" ["self", "rows"] (ZeZ cRow cMerge))(f_Merge_take_few:Mf P w K mg base 7 cMerge "take_few" ["self", "many"] (ZoF K cRow cMerge))(f_how_many:Df P w K mg base 1 "how_many" ["rows"] Zgz):Df P w K mg base 16 "merged" ["rows"] Zis:=by
 refine T.t_merged.df Zkb (fun vs H Q E h=>?_) (fun cdv f A outer s H vs Q E hr h=>?_)
 ·obtain⟨r,rs,rfl,_⟩:=h
  rfl
 obtain⟨r,rs,rfl,hrs,hsrt,q⟩:=h
 refine⟨_,#[Zj,#[Zp,#[ZbU,ZkE,#[iL,K,#[Ze0,f_Merge_take_few,T.cl_Merge,hr,#[ZoE,f_Merge_init,hr,#[Za,‹0›,#[Ze]]],#[Za,#[ZA,f_how_many,hr,#[Za,‹0›,#[Ze]],(by rfl)],#[Ze]]]],(fun _ _ _ _=>#[gT,K,3,#[Zv,#[cg,1,ZkE],#[Zv,#[cg,2,ZkE],#[Zv,#[cg,3,ZkE],(@ZaL _)]]]]),(fun _ _ _ _=>(@Zbg _)),(fun _ _ _ _=>#[ZU,#[Za,#[cw,1,ZkE],#[Za,#[cw,2,ZkE],#[Ze]]]])]]],?_⟩
 refine⟨_,rfl,fun m dx hm hdx nmd=>?_⟩
 have s1:Zu H (upd (upd H dx (.own m)) m (.ins cMerge dx [])):=fun b o hb=>by rw[Zd (Zb hb hm),Zd (Zb hb hdx)];exact hb
 have hm1:(upd (upd H dx (.own m)) m (.ins cMerge dx [])) m=some (.ins cMerge dx []):=Zc
 generalize upd (upd H dx (.own m)) m (.ins cMerge dx [])=H1 at s1 hm1 ⊢
 refine⟨m,dx,r,rs,rfl,hm1,hrs.same s1,hsrt,fun rd sd L st w0 k0 q0 H2 M2 hnew W2 S2 P2 fp2 k2=>⟨rfl,?_⟩⟩
 have s2:Zu H H2:=fun b o hb=>k2 b o (s1 b o hb) (Zb hb hm)
 have fpH:∀b,Fp m rd sd L b→H b=none:=fun b hb=>by
  rcases fp2 b hb with z|z
  ·rw[z];exact hm
  ·exact s1.free z
 have ok2:=Zfr 8 (hdM L) st (ZC L) M2.up (QM (show (ZC L).length≤60 by unfold ZC;rw[Qa];exact M2.few) (by decide)) (by decide) S2
 have eP:=ZmL hnew
 obtain⟨dx2,hm2⟩:=M2.ob
 have hsum:=Zpx rs fun x hx=>(hrs.lst x hx).2.1
 have hfew:=hrs.few
 have hl:=Zm1 rs
 refine⟨m,dx2,_,rfl,hm2,Zko ..,_,rfl,r,rs,rfl,hrs.same s2,fun H3 s3=>?_⟩
 have M3:=M2.same s3
 refine⟨m,rd,sd,L,st,_,k0,q0,w0,_,rfl,M3,W2,ok2,by rw[eP,hl];omega,fun rr us L' s' w' k1 q1 H4 hrr hrr4 hus htk hfin hmany M4 W4 ok4 fp4 k4=>?_⟩
 have s4:Zu H H4:=fun b o hb=>k4 b o (s3 b o (s2 b o hb)) fun z=>by rw[fpH b z]at hb;cases hb
 have nd:(ZaB (ZbM L)).Nodup:=by rw[← ZcD];exact M2.nd
 have hlen:=Zl9 (ts:=us.map (·.2)) (many:=(rs.map fun x=>x.2.length).sum) nd htk (by rw[Qa];exact hfin) (by rw[Qa];exact fun z=>hmany fun y=>z (by rw[y];rfl)) W4 (fun x hx=>by obtain⟨e,he,rfl⟩:=Qx.mp hx;exact(M4.each e he).le)
 rw[Qa,eP,hl,Nat.min_self]at hlen
 rw[eP]at htk
 refine⟨rr,rfl,⟨_,SqL.of hrr4⟩,fun D hD=>?_⟩
 have hDH:H D=none:=s4.free hD
 refine ZbA (K:=K) (a:=rr) (xs:=us.map fun u=>V.ref u.1) (fun i zs σ H5=>(∃v1 v2 v3:Option V,σ=[some (.ref r),v1,v2,v3])∧(∃ws:List (Addr×Zaq),zs=(ws.map fun u=>V.ref u.1)∧ws.map (·.2)=(us.take i).map (·.2)∧∀u∈ws,u.1≠D∧H u.1=none∧H5 u.1=some (.tup [.int u.2.1,.int (u.2.2.1:Int)]))∧i≤us.length∧H5 D=some (.lst zs)∧Zu H4 H5) ?_ (fun _ _ _ _ h=>SqL.of (h.2.2.2.2 _ _ hrr4)) ?_ ?_
 ·exact⟨⟨none,none,none,rfl⟩,⟨[],rfl,rfl,fun u h=>by cases h⟩,Qv _,Zc,Zi hD _⟩
 ·rintro i y zs σ H5 hy ⟨⟨v1,v2,v3,rfl⟩,⟨ws,rfl,hw,hws⟩,hi,hD5,s5⟩
  rw[Qk]at hy
  cases hz:us[i]? with
  | none=>rw[hz]at hy;cases hy
  | some u =>
  rw[hz]at hy
  cases hy
  have hil:i<us.length:=(Qd.mp hz).1
  have hwl:ws.length=i:=by
   have:=congrArg List.length hw
   rw[Qa,Qa,QA]at this
   omega
  refine⟨u.1,_,rfl,SqT.of (s5 _ _ (hus u (Qr hz))),rfl,_,_,rfl,_,_,rfl,_,_,rfl,rfl,?_⟩
  refine⟨_,rfl,_,rfl,(by show 2≤sizeLine;decide),fun n hn0=>?_⟩
  have sn:=Zi hn0 (.tup [.int u.2.1,.int (u.2.2.1:Int)])
  have nDn:D≠n:=Zb hD5 hn0
  refine⟨sn _ _ hD5,(by rw[Qa,hwl,sizeLine_eq];omega),⟨_,_,_,rfl⟩,⟨ws++[(n,u.2)],by rw[Qg];rfl,?_,fun x hx=>?_⟩,hil,Zc,fun b o hb=>?_⟩
  ·rw[QK,hz,Qg,Qg,hw];rfl
  ·rcases Qe.mp hx with hx|hx
   ·obtain⟨g1,g2,g3⟩:=hws x hx
    exact⟨g1,g2,by rw[Zd g1];exact sn _ _ g3⟩
   ·rw[Qc.mp hx]
    exact⟨nDn.symm,s4.free (s5.free hn0),by rw[Zd nDn.symm];exact Zc⟩
  ·rw[Zd (Zb hb hD)];exact sn _ _ (s5 b o hb)
 rintro zs σ H5 ⟨⟨v1,v2,v3,rfl⟩,⟨ws,rfl,hw,hws⟩,_,hD5,s5⟩
 rw[Qa,Qz (Qh _)]at hw
 exact q D ws _ k1 q1 H5 (by rw[hw];exact htk) (by have:=congrArg List.length hw;rw[Qa,Qa]at this;omega) hD5 (fun u hu=>(hws u hu).2.2) hDH (fun u hu=>(hws u hu).2.1) (s4.trans s5)
theorem Zmf(ss:List Str)(m:Nat)(h:m≤ss.length):Zc9 (ss.map V.str) none (some (m:Int))=(ss.take m).map V.str∧Zc9 (ss.map V.str) (some (m:Int)) none=(ss.drop m).map V.str:=by
 have e:∀d:Nat,HT.sIx (ss.map V.str).length d (some (m:Int))=m:=fun d=>by
  unfold HT.sIx
  simp only[List.length_map]
  rw[if_neg (by omega)]
  omega
 have e0:∀d:Nat,HT.sIx (ss.map V.str).length d none=d:=fun d=>rfl
 constructor
 ·unfold Zc9
  rw[e,e0,List.drop_zero,Nat.sub_zero,QaN]
 ·unfold Zc9
  rw[e,e0,← List.map_drop,← QaN,Qz (by rw[QV,Qa];omega)]
def Zij:Sp:=fun vs H Q _=>∃ (p:Addr) (c:Int),vs=[.ref p]∧ZaC H p c∧c<2 ^ 30 ∧
 ∀ (r:Addr) (ts:List Str) (c':Int) (H':Hp),H r=none→H' r=some (.lst (ts.map V.str))→ts.length≤60→(∀s∈ts,s.length≤28∧AZ s)→ZaC H' p c'→c≤c'→c'≤c+700→But p H H'→Q (.ref r) H'
theorem ZkD(T:Zaj K mg cRow cMerge)(f_l_pick:Df P w K mg base 2 "_law_pick" ["_law_left_here", "_law_many"] Zez)(f_l_stems:Df P w K mg base 3 "_law_stems" ["_law_left_here"] ZgT)(f_l_key:Df P w K mg base 3 "_law_key" ["_law_left_here", "_law_stems_here"] ZlP):Df P w K mg base 4 "_law_things" ["_law_left_here"] Zij:=by
 refine T.t_l_things.df Zar (fun vs H Q E h=>?_) (fun cdv f A outer s H vs Q E hr h=>?_)
 ·obtain⟨p,c,rfl,_⟩:=h
  rfl
 obtain⟨p,c,rfl,hL,c1,q⟩:=h
 refine⟨_,#[Zf,#[Zw,1,Zar.nd,(Or.inl rfl),#[ZA,f_l_stems,hr,#[Za,‹0›,#[Ze]],(by rfl)]],#[Zf,#[Zw,2,Zar.nd,(Or.inl rfl),#[Za9,#[Za,#[ZA,f_l_pick,hr,#[Za,‹0›,#[Za,#[Zh],#[Ze]]],(by rfl)],#[Za,#[Zh],#[Za,#[Zh],#[Za,#[Zh],#[Za,#[Zh],#[Za,#[ZG,Zal,#[Zh],#[ZA,f_l_pick,hr,#[Za,‹0›,#[Za,#[Zh],#[Ze]]],(by rfl)]],#[Za,#[ZG,Zal,#[Zh],#[ZA,f_l_pick,hr,#[Za,‹0›,#[Za,#[Zh],#[Ze]]],(by rfl)]],#[Za,#[ZG,Zal,#[Zh],#[ZA,f_l_pick,hr,#[Za,‹0›,#[Za,#[Zh],#[Ze]]],(by rfl)]],#[Ze]]]]]]]]]]],#[Zf,#[Zw,3,Zar.nd,(Or.inl rfl),#[Za9,#[Ze]]],#[Zf,#[Zb8,PassesOwn.never,#[ZbX,T.b.n_range,#[Za,#[Zz,(ixL K),‹2›,#[ZA,f_l_pick,hr,#[Za,‹0›,#[Za,#[Zh],#[Ze]]],(by rfl)]],#[Ze]]],#[Zx,4,Zar.nd],#[Zf,#[Zw,5,Zar.nd,(Or.inl rfl),#[ZA,f_l_key,hr,#[Za,‹0›,#[Za,‹1›,#[Ze]]],(by rfl)]],#[Zf,#[Zae,(@PW.pt _ _ _ #[Zdo,#[Zn,(@neD _ K _ hr (by rfl)),‹3›,#[Za9,#[Ze]],(Zt _)],(@ZdE _ _ _ _ #[Zn,Zbn,#[ZA,f_l_pick,hr,#[Za,‹0›,#[Za,#[Zh],#[Ze]]],(by rfl)],#[Zh],(Zt _)])]),#[Zj,#[Zw,5,Zar.nd,(Or.inl rfl),#[Zz,(ixL K),‹3›,#[ZA,f_l_pick,hr,#[Za,‹0›,#[Za,#[Zk,(ZbH K),(by rfl),T.b.n_len,Qu,#[Za,‹3›,#[Ze]]],#[Ze]]],(by rfl)]]]],#[ZF]],#[Zj,#[ZaU,#[Zdq,QJ,QO,QP,ZaR,‹3›,#[Za,‹5›,#[Ze]]]]]]]],#[Zf,#[Zw,6,Zar.nd,(Or.inl rfl),#[ZA,f_l_pick,hr,#[Za,‹0›,#[Za,#[Zh],#[Ze]]],(by rfl)]],#[Zf,#[Zw,7,Zar.nd,(Or.inl rfl),#[ZG,Zfa,#[Zk,(ZbH K),(by rfl),T.b.n_len,Qu,#[Za,‹3›,#[Ze]]],#[Zh]]],#[Zf,#[Zae,#[Zn,Zbn,‹6›,#[Zh],(Zt _)],#[Zj,#[Zp,#[Zk,(ZlV K),(by rfl),T.b.n_sorted,boot_sorted,#[Za,‹3›,#[Ze]]]]],#[ZF]],#[Zf,#[Zae,#[Zn,Zbn,‹6›,#[Zh],(Zt _)],#[Zj,#[Zp,(@Zkh _ _ _ _ _ _ _ _ _ _ _ _ (ZrB K) #[Zk,(ZlV K),(by rfl),T.b.n_sorted,boot_sorted,#[Za,‹3›,#[Ze]]] (@Zc3 _) (@Zc3 _) (@Zcb _ _ _ (@ZhV _ _ _ _ _ _ Zfm #[Zh])))]],#[ZF]],#[Zf,#[Zae,#[Zn,Zbn,‹6›,#[Zh],(Zt _)],#[Zj,#[Zp,#[ZG,Zpl,#[Zk,(ZlV K),(by rfl),T.b.n_sorted,boot_sorted,#[Za,#[ZcB,(slL K),‹3›,(@Zc3 _),(@Zcb _ _ _ ‹7›)],#[Ze]]],#[Zk,(ZlV K),(by rfl),T.b.n_sorted,boot_sorted,#[Za,#[ZcB,(slL K),‹3›,(@Zcb _ _ _ ‹7›),(@Zc3 _)],#[Ze]]]]]],#[ZF]],#[Zj,#[Zp,‹3›]]]]]]]]]]],?_⟩
 have c0:=hL.ge
 refine⟨_,rfl,p,c,rfl,hL,by omega,fun l ss c5 H5 hl0 hl5 n1 n4 h24 L5 a1 a2 B5=>?_⟩
 have npl:p≠l:=by
  obtain⟨o,ho⟩:=hL.here
  exact Zb ho hl0
 refine⟨_,rfl,p,c5,_,rfl,L5,by omega,by decide,by decide,fun d1 H6 d10 d11 L6 B6=>?_⟩
 refine⟨_,rfl,p,c5+1,_,rfl,L6,by omega,by decide,by decide,fun d2 H7 d20 d21 L7 B7=>⟨_,_,rfl,rfl,?_⟩⟩
 refine⟨_,rfl,p,c5+1+1,_,rfl,L7,by omega,by decide,by decide,fun d3 H8 d30 d31 L8 B8=>⟨_,_,rfl,rfl,?_⟩⟩
 refine⟨_,rfl,p,c5+1+1+1,_,rfl,L8,by omega,by decide,by decide,fun d4 H9 d40 d41 L9 B9=>⟨_,_,rfl,rfl,?_⟩⟩
 refine⟨(by show 8≤sizeLine;decide),fun m hm=>?_⟩
 have npm:p≠m:=by obtain⟨o,ho⟩:=L9.here;exact Zb ho hm
 have B59:But p H5 H9:=((B6.trans B7).trans B8).trans B9
 have hl9:=B59 l _ hl5 npl.symm
 have nlm:l≠m:=Zb hl9 hm
 refine⟨(by show 0≤sizeLine;decide),fun r hr0=>?_⟩
 have L10:ZaC (upd H9 m (.lst (([d1,4,5,6,8,3+d2,7+d3,20+d4]:List Int).map V.int))) p (c5+1+1+1+1):=L9.new hm
 have hm10:(upd H9 m (.lst (([d1,4,5,6,8,3+d2,7+d3,20+d4]:List Int).map V.int))) m=some (.lst (([d1,4,5,6,8,3+d2,7+d3,20+d4]:List Int).map V.int)):=Zc
 have hl10:(upd H9 m (.lst (([d1,4,5,6,8,3+d2,7+d3,20+d4]:List Int).map V.int))) l=some (.lst (ss.map V.str)):=by rw[Zd nlm];exact hl9
 have B010:But p H (upd H9 m (.lst (([d1,4,5,6,8,3+d2,7+d3,20+d4]:List Int).map V.int))):=(B5.trans B59).trans (But.same (Zi hm _))
 change (upd H9 m (.lst (([d1,4,5,6,8,3+d2,7+d3,20+d4]:List Int).map V.int))) r=none at hr0
 have npr:p≠r:=by obtain⟨o,ho⟩:=L10.here;exact Zb ho hr0
 have nlr:l≠r:=Zb hl10 hr0
 have nmr:m≠r:=Zb hm10 hr0
 have hrn:H r=none:=Zff B010 npr hr0
 refine⟨_,rfl,_,rfl,p,c5+1+1+1+1,_,rfl,L10.new hr0,by omega,by decide,by decide,fun ix H11 ix0 ix1 L11 B11=>?_⟩
 have hm11:H11 m=some (.lst (([d1,4,5,6,8,3+d2,7+d3,20+d4]:List Int).map V.int)):=B11 m _ (by rw[Zd nmr];exact hm10) npm.symm
 obtain⟨many,hmm,hat⟩:=Zjj (ns:=[d1,4,5,6,8,3+d2,7+d3,20+d4]) ix0 ix1
 have hm1:0≤many∧many≤60:=by
  simp only[List.mem_cons,List.not_mem_nil,or_false]at hmm
  omega
 refine⟨m,_,_,_,rfl,rfl,SqL.of hm11,hat,_,rfl,by omega,by omega,?_⟩
 have hr11:H11 r=some (.lst (([]:List Str).map V.str)):=B11 r _ Zc npr.symm
 have hl11:H11 l=some (.lst (ss.map V.str)):=B11 l _ (by rw[Zd nlr];exact hl10) npl.symm
 have B011:But p H H11:=(B010.trans (But.same (Zi hr0 _))).trans B11
 refine ZbW (fun i σ H2=>∃ (ts:List Str) (v1 v2:Option V) (c2:Int),σ=[some (.ref p),some (.ref l),some (.ref m),some (.ref r),v1,v2,none,none]∧H2 r=some (.lst (ts.map V.str))∧H2 l=some (.lst (ss.map V.str))∧ts.length=i∧(∀s∈ts,s.length≤28∧AZ s)∧ZaC H2 p c2∧c5+5≤c2∧c2≤c5+5+8*i∧(∀b o,H b=some o→b≠p→H2 b=some o)) ⟨[],none,none,c5+1+1+1+1+1,rfl,hr11,hl11,rfl,(fun s hs=>by cases hs),L11,by omega,by omega,B011⟩ ?_ ?_
 ·rintro i σ H2 hi ⟨ts,v1,v2,c2,rfl,hr2,hl2,hn,h28,L2,a1',a2',B2⟩
  have hi60:(i:Int)<61:=by omega
  refine⟨_,rfl,_,rfl,p,l,c2,ss,rfl,L2,by omega,hl2,n1,n4,h24,fun key c3 H3 hkey hkaz L3 a3 a4 B3=>?_⟩
  have hr3:=B3 r _ hr2 npr.symm
  have hl3:=B3 l _ hl2 npl.symm
  have fin:∀ (k2:Str) (c4:Int) (H4:Hp),k2.length≤28∧AZ k2→ZaC H4 p c4→c2≤c4→c4≤c2+8→H4 r=some (.lst (ts.map V.str))→H4 l=some (.lst (ss.map V.str))→(∀b o,H b=some o→b≠p→H4 b=some o) →
    ∃ (ts':List Str) (v1 v2:Option V) (c5':Int),[some (V.ref p),some (V.ref l),some (V.ref m),some (V.ref r),some (V.int (0+(i:Int))),some (V.str k2),none,none]=[some (.ref p),some (.ref l),some (.ref m),some (.ref r),v1,v2,none,none] ∧
     (upd H4 r (.lst (ts.map V.str++[.str k2]))) r=some (.lst (ts'.map V.str))∧(upd H4 r (.lst (ts.map V.str++[.str k2]))) l=some (.lst (ss.map V.str))∧ts'.length=i+1∧(∀s∈ts',s.length≤28∧AZ s)∧ZaC (upd H4 r (.lst (ts.map V.str++[.str k2]))) p c5'∧c5+5≤c5'∧c5'≤c5+5+8*((i+1:Nat):Int) ∧
     (∀b o,H b=some o→b≠p→(upd H4 r (.lst (ts.map V.str++[.str k2]))) b=some o):=fun k2 c4 H4 hk L4 b1 b2 hr4 hl4 B4=>by
   refine⟨ts++[k2],_,_,c4,rfl,?_,?_,by rw[Qf,hn];rfl,?_,L4.at npr,by omega,by omega,fun b o e n=>?_⟩
   ·rw[Zc,Qg];rfl
   ·rw[Zd nlr];exact hl4
   ·intro x hx
    rcases Qe.mp hx with hx|hx
    ·exact h28 x hx
    ·rw[Qc.mp hx];exact hk
   ·rw[Zd (Zb e hrn)]
    exact B4 b o e n
  have hlt:(ts.map V.str).length<sizeLine:=by rw[Qa,hn];exact ZJ (by omega)
  refine⟨_,rfl,(by show 0≤sizeLine;decide),fun e he=>?_⟩
  have hr3':(upd H3 e (.lst [])) r=some (.lst (ts.map V.str)):=by rw[Zd (Zb hr3 he)];exact hr3
  have hl3':(upd H3 e (.lst [])) l=some (.lst (ss.map V.str)):=by rw[Zd (Zb hl3 he)];exact hl3
  refine⟨.list (ts.map PyData.str),.list [],.lst (SqL.of hr3') (Zjd ts),.lst (SqL.of Zc) .nil,Zh4 ts (fun s h=>(h28 s h).2),(by ac_rfl),_,rfl,?_⟩
  have B3':∀b o,H b=some o→b≠p→(upd H3 e (.lst [])) b=some o:=fun b o z n=>Zi he _ b o (B3 b o (B2 b o z n) n)
  cases ts with
  | nil =>
   have ev:(if true=true then !PyData.eqv (.list (([]:List Str).map PyData.str)) (.list []) else PyData.eqv (.list (([]:List Str).map PyData.str)) (.list []))=false:=by ac_rfl
   rw[ev]
   refine Zdk (Zdk ?_)
   refine⟨_,rfl,.inl ⟨rfl,_,SqL.of hr3'⟩,_,rfl,r,_,_,rfl,rfl,hr3',hlt,?_⟩
   exact fin key c3 _ ⟨hkey,hkaz⟩ (L3.new he) (by omega) (by omega) hr3' hl3' B3'
  | cons t0 tr =>
   have ev:(if true=true then !PyData.eqv (.list ((t0::tr).map PyData.str)) (.list []) else PyData.eqv (.list ((t0::tr).map PyData.str)) (.list []))=true:=by simp[PyData.eqv,PyData.eqvAll]
   rw[ev]
   refine ZkL ⟨_,rfl,p,c3,_,rfl,L3.new he,by omega,by decide,by decide,fun d H5' d0 d1' L5' B5'=>?_⟩
   have hr5:=B5' r _ hr3' npr.symm
   have hl5':=B5' l _ hl3' npl.symm
   refine⟨rfl,_,rfl,Za4 (fun _=>?_) (fun _=>?_)⟩
   ·have hlen:((((t0::tr).map V.str).length:Nat):Int)=((t0::tr).length:Int):=by rw[Qa]
    have hpos:(0:Int)<((t0::tr).length:Int):=by simp
    refine⟨_,rfl,_,rfl,_,rfl,r,_,rfl,.inl (SqL.of hr5),p,c3+1,_,rfl,L5',by omega,by omega,by omega,fun d' H6' d0' d1'' L6' B6'=>?_⟩
    obtain⟨st,hs1,hs2⟩:=ZgU (ss:=t0::tr) d0' (by omega)
    have hr6:=B6' r _ hr5 npr.symm
    refine⟨r,_,_,_,rfl,rfl,SqL.of hr6,hs2,?_⟩
    refine⟨_,rfl,.inl ⟨rfl,_,SqL.of hr6⟩,_,rfl,r,_,_,rfl,rfl,hr6,hlt,?_⟩
    exact fin st _ _ (h28 st hs1) L6' (by omega) (by omega) hr6 (B6' l _ hl5' npl.symm) fun b o z n=>B6' b o (B5' b o (B3' b o z n) n) n
   ·refine⟨_,rfl,.inl ⟨rfl,_,SqL.of hr5⟩,_,rfl,r,_,_,rfl,rfl,hr5,hlt,?_⟩
    exact fin key _ _ ⟨hkey,hkaz⟩ L5' (by omega) (by omega) hr5 hl5' fun b o z n=>B5' b o (B3' b o z n) n
 ·rintro σ H2 ⟨ts,v1,v2,c2,rfl,hr2,hl2,hn,h28,L2,a1',a2',B2⟩
  have hn60:ts.length≤60:=by omega
  refine⟨_,rfl,p,c2,_,rfl,L2,by omega,by decide,by decide,fun wy H3 w0 w1 L3 B3=>?_⟩
  have hr3:=B3 r _ hr2 npr.symm
  have B03:But p H H3:=fun b o h n=>B3 b o (B2 b o h n) n
  refine⟨_,rfl,r,_,rfl,.inl (SqL.of hr3),_,_,rfl,rfl,⟨by decide,by decide⟩,?_⟩
  refine⟨_,rfl,rfl,_,rfl,Za4 (fun _=>?_) (fun _=>?_)⟩
  ·refine⟨_,rfl,r,ts,rfl,SqL.of hr3,by omega,fun x rs hx perm srt=>?_⟩
   have npx:p≠x:=by obtain⟨o,ho⟩:=L3.here;exact Zb ho hx
   exact q x rs _ _ (Zff B03 npx hx) Zc (by rw[perm.length_eq];omega) (fun s hs=>h28 s (perm.mem_iff.mp hs)) (L3.new hx) (by omega) (by omega) (B03.trans (But.same (Zi hx _)))
  refine⟨_,rfl,rfl,_,rfl,Za4 (fun _=>?_) (fun _=>?_)⟩
  ·refine⟨_,rfl,r,ts,rfl,SqL.of hr3,by omega,fun x rs hx perm srt=>?_⟩
   refine⟨_,rfl,_,rfl,_,rfl,x,_,rfl,SqL.of Zc,by decide,fun y hy=>?_⟩
   have B04:=B03.trans (But.same (Zi hx (.lst (rs.map V.str))))
   have L4:ZaC (upd H3 x (.lst (rs.map V.str))) p (c2+1):=L3.new hx
   have npy:p≠y:=by obtain⟨o,ho⟩:=L4.here;exact Zb ho hy
   exact q y rs.reverse _ _ (Zff B04 npy hy) (by rw[Zc,Zkl,List.map_reverse]) (by rw[List.length_reverse,perm.length_eq];omega) (fun s hs=>h28 s (perm.mem_iff.mp (QaM.mp hs))) (L4.new hy) (by omega) (by omega) (B04.trans (But.same (Zi hy _)))
  refine⟨_,rfl,rfl,_,rfl,Za4 (fun _=>?_) (fun _=>?_)⟩
  ·have hcut:((((ts.map V.str).length:Nat):Int) / 2)=((ts.length / 2:Nat):Int):=by rw[Qa];omega
   simp only[hcut]
   obtain⟨e1,e2⟩:=Zmf ts (ts.length / 2) (by omega)
   refine⟨_,rfl,_,rfl,_,rfl,r,_,rfl,SqL.of hr3,fun y hy=>?_⟩
   rw[e1]
   refine⟨y,ts.take (ts.length / 2),rfl,SqL.of Zc,by rw[QA];omega,fun x rs hx perm srt=>?_⟩
   have S5:Zu H3 (upd (upd H3 y (.lst ((ts.take (ts.length / 2)).map V.str))) x (.lst (rs.map V.str))):=(Zi hy _).trans (Zi hx _)
   have hx5:(upd (upd H3 y (.lst ((ts.take (ts.length / 2)).map V.str))) x (.lst (rs.map V.str))) x=some (.lst (rs.map V.str)):=Zc
   generalize upd (upd H3 y (.lst ((ts.take (ts.length / 2)).map V.str))) x (.lst (rs.map V.str))=H5x at S5 hx5 ⊢
   refine⟨_,rfl,_,rfl,_,rfl,r,_,rfl,SqL.of (S5 _ _ hr3),fun y2 hy2=>?_⟩
   rw[e2]
   refine⟨y2,ts.drop (ts.length / 2),rfl,SqL.of Zc,by rw[QV];omega,fun x2 rs2 hx2 perm2 srt2=>?_⟩
   have S6:Zu H5x (upd (upd H5x y2 (.lst ((ts.drop (ts.length / 2)).map V.str))) x2 (.lst (rs2.map V.str))):=(Zi hy2 _).trans (Zi hx2 _)
   have hx6:(upd (upd H5x y2 (.lst ((ts.drop (ts.length / 2)).map V.str))) x2 (.lst (rs2.map V.str))) x2=some (.lst (rs2.map V.str)):=Zc
   generalize upd (upd H5x y2 (.lst ((ts.drop (ts.length / 2)).map V.str))) x2 (.lst (rs2.map V.str))=H6x at S6 hx6 ⊢
   have l1:=perm.length_eq
   have l2:=perm2.length_eq
   rw[QA]at l1
   rw[QV]at l2
   refine⟨x,x2,_,_,rfl,rfl,S6 _ _ hx5,hx6,(by rw[Qa,Qa];exact Zcg (by omega)),fun z hz=>?_⟩
   have L6x:=(L3.same S5).same S6
   have npz:p≠z:=by obtain⟨o,ho⟩:=L6x.here;exact Zb ho hz
   have B06:But p H H6x:=B03.trans (But.same (S5.trans S6))
   refine q z (rs++rs2) _ _ (Zff B06 npz hz) (by rw[Zc,Qg]) (by rw[Qf];omega) (fun s hs=>?_) (L6x.new hz) (by omega) (by omega) (B06.trans (But.same (Zi hz _)))
   rcases Qe.mp hs with hs|hs
   ·exact h28 s (Q8 (perm.mem_iff.mp hs))
   ·exact h28 s (Qaj (perm2.mem_iff.mp hs))
  ·exact⟨_,rfl,q r ts _ H3 hrn hr3 (by omega) h28 L3 (by omega) (by omega) B03⟩
theorem Rd.out{H:Hp}{ls:List Addr}{ds:List (List Int)}(h:Rd H ls ds){l:Addr}(hl:H l=none):l ∉ ls:=fun hm=>by
 obtain⟨i,hi⟩:=List.mem_iff_getElem?.mp hm
 obtain⟨d,_,hd⟩:=h.at hi
 rw[hl]at hd;cases hd
theorem Rd.split{H:Hp}:∀ {ls:List Addr} {ds:List (List Int)} {d:List Int},Rd H ls (ds++[d])→∃ms l,ls=ms++[l]∧Rd H ms ds∧H l=some (.lst (d.map V.int))
 | [],[],d,h=>h.elim
 | [],_::_,d,h=>h.elim
 | [l],[],d,h=>⟨[],l,rfl,trivial,h.1⟩
 | l::m::ls,[],d,h=>h.2.elim
 | l::ls,e::ds,d,h=>by
  obtain⟨ms,x,e1,e2,e3⟩:=Rd.split (ls:=ls) (ds:=ds) h.2
  exact⟨l::ms,x,by rw[e1];rfl,⟨h.1,e2⟩,e3⟩
def ks(ss:List Str)(n:Int):Str×Int:=(ss.getD n.toNat "",n)
def Zdi(ss:List Str)(A:List Int)(n:Int):Prop:=n∈A∧∀m∈A,ZT (kk (ks ss m)) (kk (ks ss n))=false
theorem ZiU{e f:Str×Int}(h:kk e=kk f):e=f:=by
 obtain⟨a,b⟩:=e
 obtain⟨c,d⟩:=f
 unfold kk at h
 injection h with h1 h2
 injection h2 with h2 _
 have e1:a=c:=Sum.inr.inj h1
 have e2:b=d:=Sum.inl.inj h2
 rw[e1,e2]
theorem Zcy{ss:List Str}{A:List Int}{n m:Int}(h:Zdi ss A n)(g:Zdi ss A m):n=m:=by
 have:=ZiU (Zbv _ _ (g.2 n h.1) (h.2 m g.1))
 exact congrArg Prod.snd this
def ltK(ss:List Str)(c n:Int):Prop:=cds (ss.getD c.toNat "")<cds (ss.getD n.toNat "")
inductive Res (ss:List Str):List Int→List Int→Nat→List Int→List (List Int)→List (List Int)→Prop where
 | stop0 {c:Nat} {done:List (List Int)}:Res ss [] [] c [] done done
 | stop {c:Nat} {g:Int} {gone:List Int} {done:List (List Int)}:Res ss [] [] c (g::gone) done (done++[g::gone])
 | switch {b:Int} {B:List Int} {c:Nat} {gone:List Int} {done R:List (List Int)}:Res ss (b::B) [] c [] (done++[gone]) R→Res ss [] (b::B) c gone done R
 | stepN {A B:List Int} {c:Nat} {gone:List Int} {done R:List (List Int)} {n:Int}:Zdi ss A n→¬ c<ss.length→Res ss (A.erase n) B c (gone++[n]) done R→Res ss A B c gone done R
 | stepA {A B:List Int} {c:Nat} {gone:List Int} {done R:List (List Int)} {n:Int}:Zdi ss A n→c<ss.length→¬ ltK ss c n→Res ss (A.erase n++[(c:Int)]) B (c+1) (gone++[n]) done R→Res ss A B c gone done R
 | stepB {A B:List Int} {c:Nat} {gone:List Int} {done R:List (List Int)} {n:Int}:Zdi ss A n→c<ss.length→ltK ss c n→Res ss (A.erase n) (B++[(c:Int)]) (c+1) (gone++[n]) done R→Res ss A B c gone done R
theorem ZP{ss:List Str}{n:Int}(h:Zdi ss [] n):False:=by cases h.1
theorem Zfb{ss:List Str}{A B:List Int}{c:Nat}{gone:List Int}{done R:List (List Int)}(h:Res ss A B c gone done R):∀R',Res ss A B c gone done R'→R=R':=by
 induction h with
 | stop0=>intro R' g;cases g with
  | stop0=>rfl
  | stepN l _ _=>exact(ZP l).elim
  | stepA l _ _ _=>exact(ZP l).elim
  | stepB l _ _ _=>exact(ZP l).elim
 | stop=>intro R' g;cases g with
  | stop=>rfl
  | stepN l _ _=>exact(ZP l).elim
  | stepA l _ _ _=>exact(ZP l).elim
  | stepB l _ _ _=>exact(ZP l).elim
 | switch _ ih=>intro R' g;cases g with
  | switch g=>exact ih _ g
  | stepN l _ _=>exact(ZP l).elim
  | stepA l _ _ _=>exact(ZP l).elim
  | stepB l _ _ _=>exact(ZP l).elim
 | stepN l hc _ ih=>intro R' g;cases g with
  | stop0=>exact(ZP l).elim
  | stop=>exact(ZP l).elim
  | switch _=>exact(ZP l).elim
  | stepN l' _ g=>rw[Zcy l' l]at g;exact ih _ g
  | stepA _ h _ _=>exact absurd h hc
  | stepB _ h _ _=>exact absurd h hc
 | stepA l hc hn _ ih=>intro R' g;cases g with
  | stop0=>exact(ZP l).elim
  | stop=>exact(ZP l).elim
  | switch _=>exact(ZP l).elim
  | stepN _ h _=>exact absurd hc h
  | stepA l' _ _ g=>rw[Zcy l' l]at g;exact ih _ g
  | stepB l' _ h _=>rw[Zcy l' l]at h;exact absurd h hn
 | stepB l hc hn _ ih=>intro R' g;cases g with
  | stop0=>exact(ZP l).elim
  | stop=>exact(ZP l).elim
  | switch _=>exact(ZP l).elim
  | stepN _ h _=>exact absurd hc h
  | stepA l' _ h _=>rw[Zcy l' l]at h;exact absurd hn h
  | stepB l' _ _ g=>rw[Zcy l' l]at g;exact ih _ g
def kt(ss:List Str)(r:Int)(n:Int):List Key:=[.inl r,.inr (ss.getD n.toNat ""),.inl n]
theorem ZpB{ss:List Str}{r n m:Int}:ZT (kt ss r n) (kt ss r m)=ZT (kk (ks ss n)) (kk (ks ss m)):=by
 unfold kt
 rw[Z5,if_pos rfl]
 rfl
theorem Zqd{ss:List Str}{r n m:Int}:ZT (kt ss r n) (kt ss (r+1) m)=true:=by
 unfold kt
 rw[Z5,if_neg (by intro z;have:=Sum.inl.inj z;omega)]
 exact decide_eq_true (by omega)
def ZaH(ss:List Str)(r:Int)(A B:List Int):List (List Key):=A.map (kt ss r)++B.map (kt ss (r+1))
theorem ZpX{ss:List Str}{r:Int}{A B:List Int}{M:List (List Key)}(hp:M.Perm (ZaH ss r A B))(hA:A≠[]){t:List Key}(ht:t∈M)(hm:∀u∈M,ZT u t=false):∃n,t=kt ss r n∧Zdi ss A n:=by
 have h1:=hp.mem_iff.mp ht
 rcases Qe.mp h1 with h1|h1
 ·obtain⟨n,hn,rfl⟩:=Qx.mp h1
  refine⟨n,rfl,hn,fun m hm'=>?_⟩
  rw[← ZpB (r:=r)]
  exact hm _ (hp.mem_iff.mpr (Qj _ (Qo hm')))
 ·obtain⟨m,_,rfl⟩:=Qx.mp h1
  cases A with
  | nil=>exact absurd rfl hA
  | cons a A =>
   have:=hm _ (hp.mem_iff.mpr (Qj _ (Qo (Q2 (a:=a)))))
   rw[Zqd]at this;cases this
theorem Zmh{ss:List Str}{r:Int}{A B:List Int}{M M':List (List Key)}{n:Int}(hp:M.Perm (ZaH ss r A B))(hn:n∈A)(he:M.Perm (kt ss r n::M')):M'.Perm (ZaH ss r (A.erase n) B):=by
 have h1:(kt ss r n::M').Perm (ZaH ss r A B):=he.symm.trans hp
 have h3:(ZaH ss r A B).Perm (kt ss r n::ZaH ss r (A.erase n) B):=by
  unfold ZaH
  exact((List.perm_cons_erase hn).map (kt ss r)).append_right _
 exact(h1.trans h3).cons_inv
def Zls:Sp:=fun vs H Q _=>∃ (p:Addr) (c:Int),vs=[.ref p]∧ZaC H p c∧c<2 ^ 40∧∀ (v c':Int) (H':Hp),1≤v→v≤16→ZaC H' p c'→c≤c'→c'≤c+2→But p H H'→Q (.int v) H'
theorem Zoe(T:Zaj K mg cRow cMerge)(f_l_pick:Df P w K mg base 2 "_law_pick" ["_law_left_here", "_law_many"] Zez):Df P w K mg base 3 "_law_room" ["_law_left_here"] Zls:=by
 refine T.t_l_room.df ZkV (fun vs H Q E h=>?_) (fun cdv f A outer s H vs Q E hr h=>?_)
 ·obtain⟨p,c,rfl,_⟩:=h
  rfl
 obtain⟨p,c,rfl,hL,c1,q⟩:=h
 refine⟨_,#[Zj,#[Zp,#[Zz,(ixL K),#[Za9,#[Za,#[Zh],#[Za,#[Zh],#[Za,#[Zh],#[Za,#[Zh],#[Za,#[Zh],#[Za,#[Zh],#[Za,#[Zh],#[Za,#[ZG,Zal,#[Zh],#[ZA,f_l_pick,hr,#[Za,‹0›,#[Za,#[Zh],#[Ze]]],(by rfl)]],#[Ze]]]]]]]]]],#[ZA,f_l_pick,hr,#[Za,‹0›,#[Za,#[Zh],#[Ze]]],(by rfl)]]]],?_⟩
 have c0:=hL.ge
 refine⟨_,rfl,p,c,_,rfl,hL,by omega,by decide,by decide,fun d H1 d0 d1 L1 B1=>⟨_,_,rfl,rfl,(by show 8≤sizeLine;decide),fun e he=>?_⟩⟩
 have npe:p≠e:=by obtain⟨o,ho⟩:=L1.here;exact Zb ho he
 refine⟨_,rfl,p,c+1,_,rfl,L1.new he,by omega,by decide,by decide,fun i H2 i0 i1 L2 B2=>?_⟩
 obtain⟨v,hv,hat⟩:=Zjj (ns:=[1,2,3,4,5,2,3,1+d]) i0 i1
 have he2:H2 e=some (.lst (([1,2,3,4,5,2,3,1+d]:List Int).map V.int)):=B2 e _ Zc npe.symm
 have hv1:1≤v∧v≤16:=by
  simp only[List.mem_cons,List.not_mem_nil,or_false]at hv
  omega
 exact⟨e,_,_,_,rfl,rfl,SqL.of he2,hat,q v _ _ hv1.1 hv1.2 L2 (by omega) (by omega) ((B1.trans (But.same (Zi he _))).trans B2)⟩
def Zif:Sp:=fun vs H Q _=>∃ (r:Int) (x y:Str),vs=[.int r,.str x,.str y]∧x.length≤1000∧y.length≤1000∧(¬ cds y<cds x→Q (.int r) H)∧(cds y<cds x→Q (.int (r+1)) H)
theorem Zkg(T:Zaj K mg cRow cMerge)(f_liken:Df P w K mg base 3 "liken" ["one", "other"] Ze6):Df P w K mg base 4 "run_behind" ["run", "key", "comer"] Zif:=by
 refine T.t_run_behind.df Zf3 (fun vs H Q E h=>?_) (fun cdv f A outer s H vs Q E hr h=>?_)
 ·obtain⟨r,x,y,rfl,_⟩:=h
  rfl
 obtain⟨r,x,y,rfl,hx,hy,q1,q2⟩:=h
 refine⟨_,#[Zj,#[Zp,#[Zbb,#[Zn,ZmN,#[ZA,f_liken,hr,#[Za,‹2›,#[Za,‹1›,#[Ze]]],(by rfl)],#[Zh],(Zt _)],‹0›,#[ZG,Zal,‹0›,#[Zh]]]]],?_⟩
 refine⟨_,rfl,_,rfl,y,x,rfl,hy,hx,_,_,rfl,rfl,_,rfl,Za4 (fun d=>?_) (fun d=>?_)⟩
 ·have d':(0:Int)≤ZE (cds y) (cds x):=of_decide_eq_true d
  exact⟨_,rfl,q1 (fun z=>by have:=(ZbQ _ _).mp z;omega)⟩
 ·have d':¬ (0:Int)≤ZE (cds y) (cds x):=fun z=>d (decide_eq_true z)
  exact⟨_,rfl,_,_,rfl,rfl,q2 ((ZbQ _ _).mpr (by omega))⟩
def first(k:Nat):List Int:=Z0 0 k
def ZiW(K:PySem.W.Frag):Sp:=fun vs H Q _=>∃ (a:Addr) (ss:List Str) (room:Nat),vs=[.ref a,.int room]∧SqL K H a (ss.map V.str)∧ss.length≤60∧(∀s∈ss,s.length≤1000)∧room≤100 ∧
 ∀ (r:Addr) (ls:List Addr) (R:List (List Int)) (H':Hp),H r=none→H' r=some (.lst (ls.map V.ref))→r ∉ ls→(∀l∈ls,H l=none)→Rd H' ls R→Res ss (first (min room ss.length)) [] (min room ss.length) [] [] R→R.length≤100→(∀d∈R,d.length≤100)→Zu H H'→Q (.ref r) H'
theorem Zcq{k:Nat}{n:Int}(h:n∈first k):0≤n∧n<k:=by
 unfold first Z0 at h
 obtain⟨m,hm,rfl⟩:=Qx.mp h
 have:=Q5.mp hm
 omega
theorem Zhq{ss:List Str}{n:Int}(h0:0≤n)(h:n<ss.length):atI (ss.map V.str) n=some (.str (ss.getD n.toNat "")):=by
 have hk:n.toNat<ss.length:=by omega
 have ek:n=((n.toNat:Nat):Int):=by omega
 have q:atI (ss.map V.str) ((n.toNat:Nat):Int)=some (.str ss[n.toNat]):=Z6 (by rw[Qk,Qb hk]<;>rfl)
 rw[← ek]at q
 rw[q,Qi,Qb hk];rfl
theorem ZcW{ss:List Str}(h:∀s∈ss,s.length≤1000)(n:Nat):(ss.getD n "").length≤1000:=by
 rw[Qi]
 cases hx:ss[n]? with
 | none=>decide
 | some z=>exact h z (Qr hx)
def Zb9(gone:List Int)(done:List (List Int)):List (List Int):=if gone=[] then done else done++[gone]
structure At (ss:List Str) (k:Nat) (H0 H:Hp) (ia ru:Addr) (ts:ZcR) (ls:List Addr) (A B:List Int) (c:Nat) (gone:List Int) (done:List (List Int)):Prop where
 ins:H ia=some (.lst (Zaw ts))
 att:AtT H ts
 per:(ts.map (·.2)).Perm (ZaH ss (done.length:Int) A B)
 run:H ru=some (.lst (ls.map V.ref))
 rd:Rd H ls (Zb9 gone done)
 rul:ru ∉ ls
 nd:ls.Nodup
 fr:∀l∈ls,H0 l=none
 ne:ia≠ru
 nil:ia ∉ ls
 sm:Zu H0 H
 i0:H0 ia=none
 r0:H0 ru=none
 hc:c≤ss.length
 mem:∀n∈A++B,0≤n∧n<c
 cnt:((Zb9 gone done).map List.length).sum+A.length+B.length+(ss.length-c)=ss.length
 nem:∀d∈done,d≠[]
 go:B≠[]→A=[]→gone≠[]
 res:∀R,Res ss A B c gone done R→Res ss (first k) [] k [] [] R
theorem Zcr(k:Nat):(first k).length=k:=ZaF 0 k
theorem ZdH:∀D:List (List Int),(∀d∈D,d≠[])→D.length≤(D.map List.length).sum∧∀d∈D,d.length≤(D.map List.length).sum
 | [],_=>⟨Qh _,fun d h=>by cases h⟩
 | x::r,h=>by
  obtain⟨a,b⟩:=ZdH r fun d hd=>h d (Qw _ hd)
  have hx:x.length≠0:=fun z=>h x (by simp) (QX z)
  rw[Qn,QT,QE]
  refine⟨by omega,fun d hd=>?_⟩
  rcases QG.mp hd with rfl|hd
  ·omega
  ·have:=b d hd;omega
structure In (ss:List Str) (k:Nat) (H0 H:Hp) (h1 la go fo:Addr) (ls:List Addr) (A B:List Int) (c:Nat) (gone:List Int) (done:List (List Int)):Prop where
 hA:H h1=some (.lst (A.map V.int))
 hB:H la=some (.lst (B.map V.int))
 hG:H go=some (.lst (gone.map V.int))
 hF:H fo=some (.lst (ls.map V.ref))
 rd:Rd H ls done
 d1:h1≠la
 d2:h1≠go
 d3:la≠go
 e1:h1≠fo
 e2:la≠fo
 e3:go≠fo
 l0:fo ∉ ls
 l1:h1 ∉ ls
 l2:la ∉ ls
 l3:go ∉ ls
 f0:H0 fo=none
 f1:H0 h1=none
 f2:H0 la=none
 f3:H0 go=none
 fl:∀l∈ls,H0 l=none
 sm:Zu H0 H
 hc:c≤ss.length
 mem:∀n∈A++B,0≤n∧n<c
 cnt:(done.map List.length).sum+gone.length+A.length+B.length+(ss.length-c)=ss.length
 nem:∀d∈done,d≠[]
 go':A≠[]∨gone≠[]
 res:∀R,Res ss A B c gone done R→Res ss (first k) [] k [] [] R
structure Out (ss:List Str) (k:Nat) (H0 H:Hp) (h1 fo:Addr) (ls:List Addr) (A:List Int) (c:Nat) (done:List (List Int)):Prop where
 hA:H h1=some (.lst (A.map V.int))
 hF:H fo=some (.lst (ls.map V.ref))
 rd:Rd H ls done
 e1:h1≠fo
 l0:fo ∉ ls
 l1:h1 ∉ ls
 f0:H0 fo=none
 f1:H0 h1=none
 fl:∀l∈ls,H0 l=none
 sm:Zu H0 H
 hc:c≤ss.length
 mem:∀n∈A,0≤n∧n<c
 cnt:(done.map List.length).sum+A.length+(ss.length-c)=ss.length
 nem:∀d∈done,d≠[]
 res:∀R,Res ss A [] c [] done R→Res ss (first k) [] k [] [] R
def Ord(E:List (Str×Int)):Prop:=E.Pairwise fun a b=>ZT (kk b) (kk a)=false
def Ris(ss:List Str)(ns:List Int):Prop:=∀ (p:Nat) (x y:Int),ns[p]? = some x→ns[p+1]? = some y→ZT (kk (ks ss x)) (kk (ks ss y))=true
def spInOrder(K:PySem.W.Frag):Sp:=fun vs H Q _=>∃ (a:Addr) (ss:List Str),vs=[.ref a]∧SqL K H a (ss.map V.str)∧ss.length≤60 ∧
 ∀ (r:Addr) (ns:List Int) (H':Hp),H r=none→H' r=some (.lst (ns.map V.int))→ns.length≤60→(∀n∈ns,0≤n∧n<ss.length)→Ris ss ns→Zu H H'→Q (.ref r) H'
inductive PT where
 | leaf (k:Int)
 | node (l:List PT)
mutual
inductive TV (H:Hp):V→PT→Prop where
 | leaf (k:Int):TV H (.int k) (.leaf k)
 | node {a:Addr} {xs:List V} {l:List PT}:H a=some (.tup xs)→TVs H xs l→TV H (.ref a) (.node l)
inductive TVs (H:Hp):List V→List PT→Prop where
 | nil:TVs H [] []
 | cons {x:V} {t:PT} {xs:List V} {l:List PT}:TV H x t→TVs H xs l→TVs H (x::xs) (t::l)
end
mutual
theorem TV.mono{H H':Hp}(s:∀a xs,H a=some (.tup xs)→H' a=some (.tup xs)):∀ {x:V} {t:PT},TV H x t→TV H' x t
 | _,_,.leaf k=>.leaf k
 | _,_,.node h hs=>.node (s _ _ h) (hs.mono s)
theorem TVs.mono{H H':Hp}(s:∀a xs,H a=some (.tup xs)→H' a=some (.tup xs)):∀ {xs:List V} {l:List PT},TVs H xs l→TVs H' xs l
 | _,_,.nil=>.nil
 | _,_,.cons h hs=>.cons (h.mono s) (hs.mono s)
end
mutual
def toD:PT→PyData
 | .leaf k=>.int k
 | .node l=>.tuple (Zee l)
def Zee:List PT→List PyData
 | []=>[]
 | t::r=>toD t::Zee r
end
mutual
theorem TV.dv{K:PySem.W.Frag}{H:Hp}:∀ {x:V} {t:PT},TV H x t→DV K H x (toD t)
 | _,_,.leaf k=>.int k
 | _,_,.node h hs=>.tup (SqT.of h) hs.dv
theorem TVs.dv{K:PySem.W.Frag}{H:Hp}:∀ {xs:List V} {l:List PT},TVs H xs l→DVs K H xs (Zee l)
 | _,_,.nil=>.nil
 | _,_,.cons h hs=>.cons h.dv hs.dv
end
theorem TVs.len{H:Hp}:∀ {xs:List V} {l:List PT},TVs H xs l→xs.length=l.length
 | _,_,.nil=>rfl
 | _,_,.cons _ hs=>by rw[QE,QE,hs.len]
theorem TVs.app{H:Hp}:∀ {xs ys:List V} {l m:List PT},TVs H xs l→TVs H ys m→TVs H (xs++ys) (l++m)
 | _,_,_,_,.nil,h=>h
 | _,_,_,_,.cons h hs,g=>.cons h (hs.app g)
theorem TVs.at{H:Hp}:∀ {xs:List V} {l:List PT} {i:Nat} {x:V},TVs H xs l→xs[i]? = some x→∃t,l[i]? = some t∧TV H x t
 | _,_,i,x,.nil,h=>by simp at h
 | _,_,0,x,.cons (t:=t) h _,e=>by simp at e;subst e;exact⟨t,rfl,h⟩
 | _,_,i+1,x,.cons _ hs,e=>by simpa using hs.at (i:=i) (by simpa using e)
mutual
def tSz(ns:List Int):PT→Int
 | .leaf k=>ns.getD k.toNat 0
 | .node l=>Zd1 ns l
def Zd1(ns:List Int):List PT→Int
 | []=>0
 | t::r=>tSz ns t+Zd1 ns r
end
mutual
def tCo(ns:List Int):PT→Int
 | .leaf _=>0
 | .node l=>Zbp ns l+Zd1 ns l
def Zbp(ns:List Int):List PT→Int
 | []=>0
 | t::r=>tCo ns t+Zbp ns r
end
mutual
def tLf:PT→Nat
 | .leaf _=>1
 | .node l=>Zl0 l
def Zl0:List PT→Nat
 | []=>0
 | t::r=>tLf t+Zl0 r
end
mutual
def tDp:PT→Nat
 | .leaf _=>0
 | .node l=>ZeS l+1
def ZeS:List PT→Nat
 | []=>0
 | t::r=>max (tDp t) (ZeS r)
end
mutual
def tNo:PT→Nat
 | .leaf _=>1
 | .node l=>Zfu l+1
def Zfu:List PT→Nat
 | []=>0
 | t::r=>tNo t+Zfu r
end
mutual
def tOk(n:Nat):PT→Prop
 | .leaf k=>0≤k∧k<n
 | .node l=>ZkI n l
def ZkI(n:Nat):List PT→Prop
 | []=>True
 | t::r=>tOk n t∧ZkI n r
end
theorem Zh2(ns:List Int):∀a b:List PT,Zbp ns (a++b)=Zbp ns a+Zbp ns b
 | [],b=>by show Zbp ns b=0+Zbp ns b;omega
 | t::r,b=>by show tCo ns t+Zbp ns (r++b)=tCo ns t+Zbp ns r+Zbp ns b;rw[Zh2 ns r b];omega
theorem Zjw(n:Nat):∀ (l:List PT) (i:Nat) (t:PT),ZkI n l→l[i]? = some t→tOk n t
 | [],i,t,_,h=>by simp at h
 | a::r,0,t,h,e=>by simp at e;subst e;exact h.1
 | a::r,i+1,t,h,e=>Zjw n r i t h.2 (by simpa using e)
theorem Zjp:∀ (l:List PT) (i:Nat) (t:PT),l[i]? = some t→tDp t≤ZeS l
 | [],i,t,h=>by simp at h
 | a::r,0,t,e=>by simp at e;subst e;show tDp a≤max (tDp a) (ZeS r);omega
 | a::r,i+1,t,e=>by have:=Zjp r i t (by simpa using e);show tDp t≤max (tDp a) (ZeS r);omega
mutual
theorem Zj8:∀t:PT,1≤tNo t
 | .leaf _=>Qh _
 | .node l=>by show 1≤Zfu l+1;omega
theorem ZlS:∀l:List PT,l.length≤Zfu l
 | []=>Qh _
 | t::r=>by have:=Zj8 t;have:=ZlS r;show r.length+1≤tNo t+Zfu r;omega
end
mutual
theorem Zo6:∀t:PT,tLf t≤tNo t
 | .leaf _=>Qh _
 | .node l=>by have:=Zjk l;show Zl0 l≤Zfu l+1;omega
theorem Zjk:∀l:List PT,Zl0 l≤Zfu l
 | []=>Qh _
 | t::r=>by have:=Zo6 t;have:=Zjk r;show tLf t+Zl0 r≤tNo t+Zfu r;omega
end
def tGd(t:PT):Prop:=tDp t+1≤tLf t∧tNo t+1≤2*tLf t
def ZrS:List PT→Prop
 | []=>True
 | t::r=>tGd t∧ZrS r
theorem Zkx{k:Int}(h0:0≤k)(h1:k≤10000000000):(PyData.int k).intsShort 13=true∧(PyData.int k).showable=true∧(PyData.int k).weight≤40:=by
 have hl:k.natAbs<2 ^ 34:=by omega
 have hlog:k.natAbs.log2<34:=by
  by_cases e:k.natAbs=0
  ·rw[e];decide
  ·exact(Nat.log2_lt e).mpr hl
 refine⟨?_,?_,?_⟩
 ·simp only[PyData.intsShort]
  exact decide_eq_true (PyData.shown_int_le (by omega))
 ·simp only[PyData.showable]
  exact decide_eq_true (by omega)
 ·simp only[PyData.weight]
  split<;>omega
mutual
theorem ZmH{n:Nat}(hn:n≤1000):∀t:PT,tOk n t→(toD t).canLay0=true∧(toD t).depth=tDp t∧(toD t).weight+1≤42*tNo t∧(toD t).intsShort 13=true∧(toD t).showable=true
 | .leaf k,h=>by
  obtain⟨h0,h1⟩:=h
  obtain⟨a,b,c⟩:=Zkx h0 (by omega)
  refine⟨by simp[toD,PyData.canLay0],by simp[toD,PyData.depth,tDp],?_,a,b⟩
  show (PyData.int k).weight+1≤42*1
  omega
 | .node l,h=>by
  obtain⟨a,b,c,d,e⟩:=ZgH hn l h
  refine⟨by simpa [toD,PyData.canLay0] using a,by simp[toD,PyData.depth,tDp,b],?_,by simpa [toD,PyData.intsShort] using d,by simpa [toD,PyData.showable] using e⟩
  show PyData.weightAll (Zee l)+1≤42*(Zfu l+1)
  omega
theorem ZgH{n:Nat}(hn:n≤1000):∀l:List PT,ZkI n l→PyData.canLayAll0 (Zee l)=true∧PyData.depthAll (Zee l)=ZeS l∧PyData.weightAll (Zee l)≤42*Zfu l∧PyData.intsShortAll 13 (Zee l)=true∧PyData.showableAll (Zee l)=true
 | [],_=>⟨rfl,rfl,Qv _,rfl,rfl⟩
 | t::r,h=>by
  obtain⟨a,b,c,d,e⟩:=ZmH hn t h.1
  obtain⟨a',b',c',d',e'⟩:=ZgH hn r h.2
  have hp:=Zj8 t
  refine⟨by simp[Zee,PyData.canLayAll0,a,a'],by simp[Zee,PyData.depthAll,ZeS,b,b'],?_,by simp[Zee,PyData.intsShortAll,d,d'],by simp[Zee,PyData.showableAll,e,e']⟩
  show (toD t).weight+1+PyData.weightAll (Zee r)≤42*(tNo t+Zfu r)
  omega
end
mutual
def tLv:PT→List Int
 | .leaf k=>[k]
 | .node l=>Zay l
def Zay:List PT→List Int
 | []=>[]
 | t::r=>tLv t++Zay r
end
mutual
def tPl(w:Nat):PT→Prop
 | .leaf _=>True
 | .node l=>2≤l.length∧l.length≤w∧Zcl w l
def Zcl(w:Nat):List PT→Prop
 | []=>True
 | t::r=>tPl w t∧Zcl w r
end
theorem Zhw:∀a b:List PT,Zay (a++b)=Zay a++Zay b
 | [],b=>rfl
 | t::r,b=>by show tLv t++Zay (r++b)=(tLv t++Zay r)++Zay b;rw[Zhw r b,Q1]
theorem ZhZ(w:Nat):∀a b:List PT,Zcl w (a++b)↔Zcl w a∧Zcl w b
 | [],b=>by show Zcl w b↔True∧Zcl w b;simp
 | t::r,b=>by show tPl w t∧Zcl w (r++b)↔(tPl w t∧Zcl w r)∧Zcl w b;rw[ZhZ w r b,and_assoc]
def ZjY:Sp:=fun vs H Q _=>(∃i:Int,vs=[.int i]∧Q (.bl true) H)∨(∃ (a:Addr) (xs:List V),vs=[.ref a]∧H a=some (.tup xs)∧Q (.bl false) H)
theorem ZgN(K:PySem.W.Frag):PySem.W.kitOne K (.type "tuple") (.type "int")=some false:=by unfold PySem.W.kitOne PySem.W.kitCls;rfl
theorem Zpe(T:Zaj K mg cRow cMerge):Df P w K mg base 1 "is_number" ["thing"] ZjY:=by
 refine T.t_is_number.df Zhf (fun vs H Q E h=>?_) (fun cdv f A outer s H vs Q E hr h=>?_)
 ·rcases h with⟨_,rfl,_⟩|⟨_,_,rfl,_⟩<;>rfl
 refine⟨_,#[Zj,#[Zp,(@Ziy _ _ _ _ _ _ _ #[Zk,(Zoi K),(by rfl),T.b.n_isinstance,boot_isinstance,#[Za,‹0›,#[Za,#[Zj4,T.b.n_int,boot_int],#[Ze]]]] (@ZiH _ _ _ _ _ (@Zll _ _ _ _ #[Zk,(Zoi K),(by rfl),T.b.n_isinstance,boot_isinstance,#[Za,‹0›,#[Za,#[Zj4,T.b.n_bool,boot_bool],#[Ze]]]])))]],?_⟩
 rcases h with⟨i,rfl,q⟩|⟨a,xs,rfl,ha,q⟩
 ·exact⟨_,rfl,_, "int",_,_,rfl,.int i,ZgA K,_,rfl,ZkL ⟨_,rfl,_, "bool",_,_,rfl,.int i,Zie K,_,rfl,q⟩⟩
 ·exact⟨_,rfl,_, "int",_,_,rfl,.tup ha,ZgN K,_,rfl,Zdk q⟩
theorem ZfB{α:Type}:∀ (l:List α) (i:Nat) (h:i<l.length),(l[i]::l.eraseIdx i).Perm l
 | [],i,h=>by simp at h
 | a::r,0,h=>.refl _
 | a::r,i+1,h=>by
  rw[List.getElem_cons_succ,List.eraseIdx_cons_succ]
  exact(List.Perm.swap a _ _).trans ((ZfB r i (by simpa using h)).cons a)
theorem ZjS{gone:List Int}{done:List (List Int)}(h:∀d∈done,d≠[]):∀d∈Zb9 gone done,d≠[]:=fun d hd=>by
 unfold Zb9 at hd
 by_cases hg:gone=[]
 ·rw[if_pos hg]at hd;exact h d hd
 ·rw[if_neg hg]at hd
  rcases Qe.mp hd with hd|hd
  ·exact h d hd
  ·rw[Qc.mp hd];exact hg
theorem Zcw(gone:List Int)(done:List (List Int))(n:Int):Zb9 (gone++[n]) done=done++[gone++[n]]:=by unfold Zb9;rw[if_neg (by simp)]
theorem ZbD(gone:List Int)(done:List (List Int)):((Zb9 gone done).map List.length).sum=(done.map List.length).sum+gone.length:=by
 unfold Zb9
 by_cases hg:gone=[]
 ·rw[if_pos hg,hg];rfl
 ·rw[if_neg hg,Qg,Qag];simp
theorem At.switch{ss:List Str}{k:Nat}{H0 H:Hp}{ia ru:Addr}{ts:ZcR}{ls:List Addr}{b:Int}{B:List Int}{c:Nat}{gone:List Int}{done:List (List Int)}(h:At ss k H0 H ia ru ts ls [] (b::B) c gone done):At ss k H0 H ia ru ts ls (b::B) [] c [] (done++[gone]):=by
 have hg:=h.go (by simp) rfl
 have e:Zb9 [] (done++[gone])=Zb9 gone done:=by unfold Zb9;rw[if_pos rfl,if_neg hg]
 refine⟨h.ins,h.att,?_,h.run,by rw[e];exact h.rd,h.rul,h.nd,h.fr,h.ne,h.nil,h.sm,h.i0,h.r0,h.hc,fun n hn=>h.mem n (by simpa using hn),?_,fun d hd=>?_,fun hb=>absurd rfl hb,fun R hR=>h.res R (.switch hR)⟩
 ·have:=h.per
  unfold ZaH at this ⊢
  rw[Qai,List.nil_append]at this
  rw[Qai,QI,Qf,Qm]
  exact this
 ·rw[e];have:=h.cnt;simpa using this
 ·rcases Qe.mp hd with hd|hd
  ·exact h.nem d hd
  ·rw[Qc.mp hd];exact hg
theorem Zqw(ss:List Str)(r n:Int):Za7 (kt ss r n)=[true,false,true]:=rfl
theorem Zms{ss:List Str}{r:Int}{A B:List Int}{ts:ZcR}(hp:(ts.map (·.2)).Perm (ZaH ss r A B)):∀t∈ts,Za7 t.2=[true,false,true]:=fun t ht=>by
 have:=hp.mem_iff.mp (Qo (f:=fun t:Addr×List Key=>t.2) ht)
 rcases Qe.mp this with h|h
 ·obtain⟨n,_,e⟩:=Qx.mp h;rw[← e];rfl
 ·obtain⟨n,_,e⟩:=Qx.mp h;rw[← e];rfl
theorem ZnN(T:Zaj K mg cRow cMerge)(f_run_behind:Df P w K mg base 4 "run_behind" ["run", "key", "comer"] Zif):Df P w K mg base 5 "runs_of" ["things", "room"] (ZiW K):=by
 refine T.t_runs_of.df ZaJ (fun vs H Q E h=>?_) (fun cdv f A outer s H vs Q E hr h=>?_)
 ·obtain⟨a,ss,room,rfl,_⟩:=h
  rfl
 obtain⟨a,ss,room,rfl,hS,h60,hlen,hroom,q⟩:=h
 refine⟨_,#[Zf,#[Zd3,2,ZaJ.nd,Zl8,#[ZbX,T.b.n_range,#[Za,#[Zk,(ZeD rfl),(by rfl),T.b.n_min,boot_min,#[Za,‹1›,#[Za,#[Zk,(ZbH K),(by rfl),T.b.n_len,Qu,#[Za,#[pv,0,(Or.inr (Or.inl rfl))],#[Ze]]],#[Ze]]]],#[Ze]]],(fun _ _ _ _=>#[cg,9,Zl8]),(fun _ _ _ _=>(@Zbg _)),(fun _ _ _ _=>#[ZU,#[Za,#[Zh],#[Za,#[Zz,(ixL K),#[cv,0,Zl8],#[cw,9,Zl8]],#[Za,#[cw,9,Zl8],#[Ze]]]]])],#[Zf,#[Zw,3,ZaJ.nd,(Or.inl rfl),#[Zk,(ZbH K),(by rfl),T.b.n_len,Qu,#[Za,‹2›,#[Ze]]]],#[Zf,#[Zw,4,ZaJ.nd,(Or.inl rfl),#[Za9,#[Ze]]],#[Zf,(@Zea _ _ _ _ _ _ PassesOwn.never #[Zn,ZeY,#[Zk,(ZbH K),(by rfl),T.b.n_len,Qu,#[Za,‹2›,#[Ze]]],#[Zh],(Zt _)] #[Zf,#[Zw,5,ZaJ.nd,(Or.inl rfl),#[Zk,(Zqu K hr),(by rfl),T.b.n_min,boot_min,#[Za,‹2›,#[Ze]]]],#[Zf,#[ZaU,#[Zdq,QJ,PySem.F.slot_list_remove,PySem.F.type_list_remove,(Zry hr),‹2›,#[Za,‹5›,#[Ze]]]],#[Zf,#[ZaT,‹5›,#[gT,K,3,#[Zv,#[Zx,6,ZaJ.nd],#[Zv,#[Zx,7,ZaJ.nd],#[Zv,#[Zx,8,ZaJ.nd],(@ZaL _)]]]]],#[Zf,#[Zae,#[Zn,Zbn,‹6›,#[Zk,(ZbH K),(by rfl),T.b.n_len,Qu,#[Za,‹4›,#[Ze]]],(Zt _)],#[Zj,#[ZaU,#[Zdq,QJ,QO,QP,ZaR,‹4›,#[Za,#[Za9,#[Ze]],#[Ze]]]]],#[ZF]],#[Zf,#[ZaU,#[Zdq,QJ,QO,QP,ZaR,#[Zz,(ixL K),‹4›,‹6›],#[Za,‹8›,#[Ze]]]],#[Zj,#[Zae,#[Zn,ZdU,‹3›,#[Zk,(ZbH K),(by rfl),T.b.n_len,Qu,#[Za,#[pv,0,(Or.inr (Or.inl rfl))],#[Ze]]],(Zt _)],#[Zf,#[ZaU,#[Zdq,QJ,QO,QP,ZaR,‹2›,#[Za,#[ZU,#[Za,#[ZA,f_run_behind,hr,#[Za,‹6›,#[Za,‹7›,#[Za,#[Zz,(ixL K),#[pv,0,(Or.inr (Or.inl rfl))],‹3›],#[Ze]]]],(by rfl)],#[Za,#[Zz,(ixL K),#[pv,0,(Or.inr (Or.inl rfl))],‹3›],#[Za,‹3›,#[Ze]]]]],#[Ze]]]],#[Zj,(@Zlj _ _ 3 _ _ _ _ _ _ ZaJ.nd rfl (Or.inl rfl) #[Zh] Zmj (by trivial))]],#[ZF]]]]]]]]),#[Zj,#[Zp,‹4›]]]]]],?_⟩
 have hl:(((ss.map V.str).length:Nat):Int)=(ss.length:Int):=by rw[Qa]
 have hmin:(if (((ss.map V.str).length:Nat):Int)<(room:Int) then (((ss.map V.str).length:Nat):Int) else (room:Int))=((min room ss.length:Nat):Int):=by split<;>omega
 refine⟨_,rfl,_,rfl,a,_,rfl,.inl hS,_,_,rfl,?_⟩
 simp only[hmin]
 refine⟨_,rfl,by omega,by omega,fun D hD=>?_⟩
 rw[Q7]
 refine ZcX (fun i zs σ H2=>(∃v:Option V,σ=[some (.ref a),some (.int room),none,none,none,none,none,none,none,v])∧(∃ts:ZcR,zs=Zaw ts∧AtT H2 ts∧ts.map (·.2)=(first i).map (kt ss 0))∧i≤min room ss.length∧H2 D=some (.lst zs)∧Zu H H2) ?_ ?_ ?_
 ·exact⟨⟨none,rfl⟩,⟨[],rfl,(fun t h=>by cases h),rfl⟩,Qv _,Zc,Zi hD _⟩
 ·rintro i zs σ H2 hi ⟨⟨v,rfl⟩,⟨ts,rfl,hat,hE⟩,hi',hD2,s2⟩
  have hil:i<ss.length:=by omega
  have e0:(0+(i:Int))=((i:Nat):Int):=by omega
  have hkey:atI (ss.map V.str) (0+(i:Int))=some (.str (ss.getD (0+(i:Int)).toNat "")):=Zhq (by omega) (by omega)
  refine⟨_,rfl,_,rfl,a,_,_,_,rfl,rfl,s2.seq hS,hkey,_,rfl,(by show 3≤sizeLine;decide),fun n hn0=>?_⟩
  have sn:=Zi hn0 (.tup [.int 0,.str (ss.getD (0+(i:Int)).toNat ""),.int (0+(i:Int))])
  have hD3:=sn _ _ hD2
  have nDn:D≠n:=Zb hD2 hn0
  have htl:ts.length=i:=by have:=congrArg List.length hE;rw[Qa,Qa,Zcr]at this;exact this
  refine⟨hD3,(by unfold Zaw;rw[Qa,htl];exact ZJ (by omega)),⟨_,rfl⟩,⟨ts++[(n,kt ss 0 (0+(i:Int)))],by unfold Zaw;rw[Qg];rfl,fun t ht=>?_,?_⟩,by omega,Zc,fun b o hb=>?_⟩
  ·rcases Qe.mp ht with ht|ht
   ·exact Za3 hD3 _ _ _ (sn _ _ (hat t ht))
   ·rw[Qc.mp ht,Zd nDn.symm];exact Zc
  ·rw[Qg,hE]
   unfold first Z0
   rw[QaB,Qg,Qg]
   rfl
  ·rw[Zd (Zb hb hD)];exact sn _ _ (s2 b o hb)
 rintro zs σ H2 ⟨⟨v,rfl⟩,⟨ts0,rfl,hat0,hE0⟩,_,hD2,s2⟩
 have htl0:ts0.length=min room ss.length:=by have:=congrArg List.length hE0;rw[Qa,Qa,Zcr]at this;exact this
 have hrl0:(((Zaw ts0).length:Nat):Int)=((min room ss.length:Nat):Int):=by unfold Zaw;rw[Qa,htl0]
 refine⟨_,rfl,D,_,rfl,.inl (SqL.of hD2),?_⟩
 simp only[hrl0]
 refine⟨(by show 0≤sizeLine;decide),fun ru hru=>?_⟩
 have nDr:D≠ru:=Zb hD2 hru
 have s3:=s2.trans (Zi hru (.lst []))
 have at0:At ss (min room ss.length) H (upd H2 ru (.lst [])) D ru ts0 [] (first (min room ss.length)) [] (min room ss.length) [] []:=by
  refine⟨Zi hru _ _ _ hD2,AtT.mono hat0 (Zi hru _),?_,Zc,by unfold Zb9;rw[if_pos rfl];trivial,(fun h=>by cases h),List.nodup_nil,(fun l h=>by cases h),nDr,(fun h=>by cases h),s3,hD,s2.free hru,by omega,fun n hn=>?_,?_,(fun d h=>by cases h),fun h=>absurd rfl h,fun R h=>h⟩
  ·rw[hE0];unfold ZaH;rw[Qai,QI];exact .refl _
  ·rw[QI]at hn;exact Zcq hn
  ·unfold Zb9;rw[if_pos rfl,Zcr];simp;omega
 generalize upd H2 ru (.lst [])=H3 at at0 ⊢
 refine⟨fun m σ H4=>∃ (ts:ZcR) (ls:List Addr) (A B:List Int) (c:Nat) (gone:List Int) (done:List (List Int)) (v5 v6 v7 v8:Option V),σ=[some (.ref a),some (.int room),some (.ref D),some (.int c),some (.ref ru),v5,v6,v7,v8]∧At ss (min room ss.length) H H4 D ru ts ls A B c gone done∧m=A.length+B.length+(ss.length-c),⟨_,ts0,[],first (min room ss.length),[],min room ss.length,[],[],none,none,none,none,rfl,at0,rfl⟩,?_⟩
 rintro m σ H4 ⟨ts,ls,A',B',c,gone',done',v5,v6,v7,v8,rfl,hAt',rfl⟩
 have htsl:ts.length=A'.length+B'.length:=by have:=hAt'.per.length_eq;unfold ZaH at this;rw[Qa,Qf,Qa,Qa]at this;exact this
 refine⟨_,rfl,D,_,rfl,.inl (SqL.of hAt'.ins),_,_,rfl,rfl,_,rfl,Za4 (fun d=>?_) (fun d=>?_)⟩
 ·have d':(0:Int)<(((Zaw ts).length:Nat):Int):=of_decide_eq_true d
  have hpos:0<ts.length:=by unfold Zaw at d';rw[Qa]at d';omega
  obtain⟨A,B,gone,done,hAt,hAne,hm⟩:∃A B gone done,At ss (min room ss.length) H H4 D ru ts ls A B c gone done∧A≠[]∧A'.length+B'.length=A.length+B.length:=by
   by_cases hA:A'=[]
   ·subst hA
    cases B' with
    | nil=>exact absurd hpos (by rw[htsl];decide)
    | cons b B=>exact⟨_,_,_,_,hAt'.switch,by simp,by simp⟩
   ·exact⟨A',B',gone',done',hAt',hA,rfl⟩
  refine⟨_,fun σ' H' h=>h,?_⟩
  have hcnt:=hAt.cnt
  rw[ZbD]at hcnt
  have hdl:=(ZdH done hAt.nem).1
  have tsne:ts≠[]:=fun z=>by rw[z]at hpos;simp at hpos
  refine⟨_,rfl,D,ts,[true,false,true],rfl,SqL.of hAt.ins,hAt.att,tsne,Zms hAt.per,fun t ht hmin'=>?_⟩
  obtain⟨n,et,hleast⟩:=ZpX hAt.per hAne (Qo (f:=fun t:Addr×List Key=>t.2) ht) (fun u hu=>by
   obtain⟨t',ht',rfl⟩:=Qx.mp hu
   exact hmin' t' ht')
  have et':t.2=kt ss (done.length:Int) n:=et
  have hnA:=hleast.1
  have hn:=hAt.mem n (Qj _ hnA)
  have hcl:=hAt.hc
  refine⟨_,rfl,.inl ⟨rfl,_,SqL.of hAt.ins⟩,_,rfl,D,ts,t,rfl,rfl,hAt.ins,hAt.att,ht,by omega,fun i hi heq=>?_⟩
  have ttup:=hAt.att t ht
  rw[et']at ttup
  have ttup1:(upd H4 D (.lst (Zaw (ts.eraseIdx i)))) t.1=some (.tup [.int (done.length:Int),.str (ss.getD n.toNat ""),.int n]):=Za3 hAt.ins _ _ _ ttup
  have ins1:(upd H4 D (.lst (Zaw (ts.eraseIdx i)))) D=some (.lst (Zaw (ts.eraseIdx i))):=Zc
  have att1:AtT (upd H4 D (.lst (Zaw (ts.eraseIdx i)))) (ts.eraseIdx i):=fun u hu=>Za3 hAt.ins _ _ _ (hAt.att u (List.mem_of_mem_eraseIdx hu))
  have run1:(upd H4 D (.lst (Zaw (ts.eraseIdx i)))) ru=some (.lst (ls.map V.ref)):=by rw[Zd hAt.ne.symm];exact hAt.run
  have rd1:Rd (upd H4 D (.lst (Zaw (ts.eraseIdx i)))) ls (Zb9 gone done):=Rd.mono (fun l hl' u hu=>by rw[Zd (fun z:l=D=>hAt.nil (z ▸ hl'))];exact hu) hAt.rd
  have sm1:Zu H (upd H4 D (.lst (Zaw (ts.eraseIdx i)))):=fun b o hb=>by rw[Zd (Zb hb hAt.i0)];exact hAt.sm b o hb
  have per1:((ts.eraseIdx i).map (·.2)).Perm (ZaH ss (done.length:Int) (A.erase n) B):=by
   refine Zmh hAt.per hnA ?_
   have:=(ZfB ts i hi).symm.map (fun t:Addr×List Key=>t.2)
   rw[Qn,heq,et']at this
   exact this
  have hel:(A.erase n).length+1=A.length:=by
   have:=Q6 hnA
   have:0<A.length:=QY hnA
   omega
  have htl1:(ts.eraseIdx i).length≤60:=by
   have:=per1.length_eq
   unfold ZaH at this
   rw[Qa,Qf,Qa,Qa]at this
   omega
  generalize upd H4 D (.lst (Zaw (ts.eraseIdx i)))=H5 at ttup1 ins1 att1 run1 rd1 sm1 ⊢
  generalize ts.eraseIdx i=ts1 at ins1 att1 per1 htl1 ⊢
  refine⟨_,rfl,t.1,_,rfl,SqT.of ttup1,rfl,_,_,rfl,_,_,rfl,_,_,rfl,rfl,?_⟩
  have hlsl:ls.length=(Zb9 gone done).length:=hAt.rd.len
  have hls60:ls.length≤60:=by have:=(ZdH _ (ZjS (gone:=gone) hAt.nem)).1;rw[ZbD]at this;omega
  have hll:(((ls.map V.ref).length:Nat):Int)=(ls.length:Int):=by rw[Qa]
  refine⟨_,rfl,_,rfl,ru,_,rfl,.inl (SqL.of run1),rfl,_,rfl,?_⟩
  by_cases hg:gone=[]
  ·have hlen2:ls.length=done.length:=by rw[hlsl,hg];unfold Zb9;rw[if_pos rfl]
   refine Zfn (by rw[hll,hlen2]) ?_
   refine⟨_,rfl,.inl ⟨rfl,_,SqL.of run1⟩,(by show 0≤sizeLine;decide),fun nl hnl=>⟨ru,_,_,rfl,rfl,Zi hnl _ _ _ run1,(by rw[Qa];exact ZJ (by omega)),?_⟩⟩
   have snl:=Zi hnl (.lst [])
   have nrn:ru≠nl:=Zb run1 hnl
   have nDn:D≠nl:=Zb ins1 hnl
   have hnll:nl ∉ ls:=rd1.out hnl
   have ins2:(upd (upd H5 nl (.lst [])) ru (.lst (ls.map V.ref++[.ref nl]))) D=some (.lst (Zaw ts1)):=by rw[Zd hAt.ne];exact snl _ _ ins1
   have att2:AtT (upd (upd H5 nl (.lst [])) ru (.lst (ls.map V.ref++[.ref nl]))) ts1:=fun u hu=>Za3 (snl _ _ run1) _ _ _ (snl _ _ (att1 u hu))
   have run2:(upd (upd H5 nl (.lst [])) ru (.lst (ls.map V.ref++[.ref nl]))) ru=some (.lst ((ls++[nl]).map V.ref)):=by rw[Zc,Qg];rfl
   have rd2:Rd (upd (upd H5 nl (.lst [])) ru (.lst (ls.map V.ref++[.ref nl]))) ls done:=by
    have:Zb9 gone done=done:=by unfold Zb9;rw[if_pos hg]
    rw[this]at rd1
    exact Rd.mono (fun l hl' u hu=>by rw[Zd (fun z:l=ru=>hAt.rul (z ▸ hl'))];exact snl _ _ hu) rd1
   have hl2:(upd (upd H5 nl (.lst [])) ru (.lst (ls.map V.ref++[.ref nl]))) nl=some (.lst (gone.map V.int)):=by rw[Zd nrn.symm,hg];exact Zc
   have sm2:Zu H (upd (upd H5 nl (.lst [])) ru (.lst (ls.map V.ref++[.ref nl]))):=fun b o hb=>by rw[Zd (Zb hb hAt.r0)];exact snl _ _ (sm1 b o hb)
   have rul2:ru ∉ ls++[nl]:=fun hm=>by
    rcases Qe.mp hm with hm|hm
    ·exact hAt.rul hm
    ·exact nrn (Qc.mp hm)
   have nil2:D ∉ ls++[nl]:=fun hm=>by
    rcases Qe.mp hm with hm|hm
    ·exact hAt.nil hm
    ·exact nDn (Qc.mp hm)
   have nd2:(ls++[nl]).Nodup:=by
    rw[List.nodup_append]
    exact⟨hAt.nd,by simp,fun x hx y hy e=>hnll (by rw[← Qc.mp hy,← e];exact hx)⟩
   have fr2:∀l∈ls++[nl],H l=none:=fun l hl'=>by
    rcases Qe.mp hl' with hl'|hl'
    ·exact hAt.fr l hl'
    ·rw[Qc.mp hl'];exact sm1.free hnl
   generalize upd (upd H5 nl (.lst [])) ru (.lst (ls.map V.ref++[.ref nl]))=H6 at ins2 att2 run2 rd2 hl2 sm2 ⊢
   have hms:ls.length=done.length:=hlen2
   have hnd:=QW.mp nd2
   have hlms:nl ∉ ls:=fun h=>hnd.2.2 nl h nl (by simp) rfl
   have nrl:ru≠nl:=fun z=>rul2 (by rw[z];simp)
   have nDl:D≠nl:=fun z=>nil2 (by rw[z];simp)
   have hat3:atI ((ls++[nl]).map V.ref) (done.length:Int)=some (.ref nl):=Z6 (by rw[Qk,QN (by omega),show done.length-ls.length=0 by omega];rfl)
   refine⟨_,rfl,_,rfl,ru,_,_,_,rfl,rfl,SqL.of run2,hat3,ZmF hl2,_,rfl,nl,_,_,rfl,rfl,hl2,(by rw[Qa];exact ZJ (by omega)),?_⟩
   have ins3:(upd H6 nl (.lst (gone.map V.int++[.int n]))) D=some (.lst (Zaw ts1)):=by rw[Zd nDl];exact ins2
   have att3:AtT (upd H6 nl (.lst (gone.map V.int++[.int n]))) ts1:=fun u hu=>Za3 hl2 _ _ _ (att2 u hu)
   have run3:(upd H6 nl (.lst (gone.map V.int++[.int n]))) ru=some (.lst ((ls++[nl]).map V.ref)):=by rw[Zd nrl];exact run2
   have rd3:Rd (upd H6 nl (.lst (gone.map V.int++[.int n]))) (ls++[nl]) (done++[gone++[n]]):=by
    refine Rd.app (Rd.mono (fun l hl' u hu=>?_) rd2) ⟨?_,trivial⟩
    ·rw[Zd (fun z:l=nl=>hlms (z ▸ hl'))];exact hu
    ·rw[Zc,Qg];rfl
   have sm3:Zu H (upd H6 nl (.lst (gone.map V.int++[.int n]))):=fun b o hb=>by rw[Zd (Zb hb (fr2 nl (by simp)))];exact sm2 b o hb
   generalize upd H6 nl (.lst (gone.map V.int++[.int n]))=H7 at ins3 att3 run3 rd3 sm3 ⊢
   refine⟨_,rfl,_,rfl,a,_,rfl,.inl (sm3.seq hS),_,_,rfl,rfl,_,rfl,Za4 (fun d2=>?_) (fun d2=>?_)⟩
   ·have hcN:c<ss.length:=by have:=of_decide_eq_true d2;omega
    have hkc:atI (ss.map V.str) (c:Int)=some (.str (ss.getD (c:Int).toNat "")):=Zhq (by omega) (by omega)
    refine⟨_,rfl,.inl ⟨rfl,_,SqL.of ins3⟩,_,rfl,_,rfl,_,rfl,_,rfl,a,_,_,_,rfl,rfl,sm3.seq hS,hkc,(done.length:Int),ss.getD n.toNat "",ss.getD (c:Int).toNat "",rfl,ZcW hlen _,ZcW hlen _,fun hlt=>?_,fun hlt=>?_⟩
    ·refine⟨_,rfl,_,rfl,a,_,_,_,rfl,rfl,sm3.seq hS,hkc,_,rfl,(by show 3≤sizeLine;decide),fun tn htn=>⟨D,_,_,rfl,rfl,Zi htn _ _ _ ins3,(by unfold Zaw;rw[Qa];exact ZJ (by omega)),?_⟩⟩
     have stn:=Zi htn (.tup [.int (done.length:Int),.str (ss.getD (c:Int).toNat ""),.int (c:Int)])
     have nDt:D≠tn:=Zb ins3 htn
     have per4:((ts1++[(tn,kt ss (done.length:Int) (c:Int))]).map (·.2)).Perm (ZaH ss (done.length:Int) (A.erase n++[(c:Int)]) (B)):=by
      rw[Qg]
      unfold ZaH
      refine(per1.append_right _).trans ?_
      unfold ZaH
      rw[Qg,Q1,Q1]
      exact List.Perm.append_left _ List.perm_append_comm
     refine⟨_,rfl,_,_,rfl,rfl,?_⟩
     have hcc:((c:Int)+1)=((c+1:Nat):Int):=by omega
     simp only[hcc]
     refine⟨_,by simp only[List.length_append,List.length_singleton];omega,ts1++[(tn,kt ss (done.length:Int) (c:Int))],ls++[nl],A.erase n++[(c:Int)],B,c+1,gone++[n],done,_,_,_,_,rfl,⟨by rw[Zc];unfold Zaw;rw[Qg];rfl,fun u hu=>by
      rcases Qe.mp hu with hu|hu
      ·exact Za3 (stn _ _ ins3) _ _ _ (stn _ _ (att3 u hu))
      ·rw[Qc.mp hu,Zd nDt.symm];exact Zc,per4,by rw[Zd hAt.ne.symm];exact stn _ _ run3,by rw[Zcw];exact Rd.mono (fun l hl' u hu=>by rw[Zd (fun z:l=D=>nil2 (z ▸ hl'))];exact stn _ _ hu) rd3,rul2,nd2,fr2,hAt.ne,nil2,fun b o hb=>by rw[Zd (Zb hb hAt.i0)];exact stn _ _ (sm3 b o hb),hAt.i0,hAt.r0,by omega,fun z hz=>by
      have:z∈A++B∨z=(c:Int):=by
       simp only[List.mem_append,List.mem_singleton]at hz ⊢
       rcases hz with hz|hz
       ·rcases hz with hz|hz
        ·exact .inl (.inl (Qq hz))
        ·exact .inr hz
       ·exact .inl (.inr hz)
      rcases this with h|h
      ·have:=hAt.mem z h;omega
      ·omega,by rw[ZbD,Qf,Qm];simp only[List.length_append,List.length_singleton];omega,hAt.nem,fun _ _=>by simp,fun R hR=>hAt.res R (.stepA hleast hcN hlt hR)⟩,rfl⟩
    ·refine⟨_,rfl,_,rfl,a,_,_,_,rfl,rfl,sm3.seq hS,hkc,_,rfl,(by show 3≤sizeLine;decide),fun tn htn=>⟨D,_,_,rfl,rfl,Zi htn _ _ _ ins3,(by unfold Zaw;rw[Qa];exact ZJ (by omega)),?_⟩⟩
     have stn:=Zi htn (.tup [.int ((done.length:Int)+1),.str (ss.getD (c:Int).toNat ""),.int (c:Int)])
     have nDt:D≠tn:=Zb ins3 htn
     have per4:((ts1++[(tn,kt ss ((done.length:Int)+1) (c:Int))]).map (·.2)).Perm (ZaH ss (done.length:Int) (A.erase n) (B++[(c:Int)])):=by
      rw[Qg]
      unfold ZaH
      refine(per1.append_right _).trans ?_
      unfold ZaH
      rw[Qg,Q1]
      exact .refl _
     refine⟨_,rfl,_,_,rfl,rfl,?_⟩
     have hcc:((c:Int)+1)=((c+1:Nat):Int):=by omega
     simp only[hcc]
     refine⟨_,by simp only[List.length_append,List.length_singleton];omega,ts1++[(tn,kt ss ((done.length:Int)+1) (c:Int))],ls++[nl],A.erase n,B++[(c:Int)],c+1,gone++[n],done,_,_,_,_,rfl,⟨by rw[Zc];unfold Zaw;rw[Qg];rfl,fun u hu=>by
      rcases Qe.mp hu with hu|hu
      ·exact Za3 (stn _ _ ins3) _ _ _ (stn _ _ (att3 u hu))
      ·rw[Qc.mp hu,Zd nDt.symm];exact Zc,per4,by rw[Zd hAt.ne.symm];exact stn _ _ run3,by rw[Zcw];exact Rd.mono (fun l hl' u hu=>by rw[Zd (fun z:l=D=>nil2 (z ▸ hl'))];exact stn _ _ hu) rd3,rul2,nd2,fr2,hAt.ne,nil2,fun b o hb=>by rw[Zd (Zb hb hAt.i0)];exact stn _ _ (sm3 b o hb),hAt.i0,hAt.r0,by omega,fun z hz=>by
      have:z∈A++B∨z=(c:Int):=by
       simp only[List.mem_append,List.mem_singleton]at hz ⊢
       rcases hz with hz|hz
       ·exact .inl (.inl (Qq hz))
       ·rcases hz with hz|hz
        ·exact .inl (.inr hz)
        ·exact .inr hz
      rcases this with h|h
      ·have:=hAt.mem z h;omega
      ·omega,by rw[ZbD,Qf,Qm];simp only[List.length_append,List.length_singleton];omega,hAt.nem,fun _ _=>by simp,fun R hR=>hAt.res R (.stepB hleast hcN hlt hR)⟩,rfl⟩
   ·have hcN:¬ c<ss.length:=fun z=>d2 (decide_eq_true (by omega))
    refine⟨_,by omega,ts1,ls++[nl],A.erase n,B,c,gone++[n],done,_,_,_,_,rfl,⟨ins3,att3,per1,run3,by rw[Zcw];exact rd3,rul2,nd2,fr2,hAt.ne,nil2,sm3,hAt.i0,hAt.r0,by omega,fun z hz=>hAt.mem z (by
     rcases Qe.mp hz with hz|hz
     ·exact Qj _ (Qq hz)
     ·exact Ql _ hz),by rw[ZbD,Qf,Qm];omega,hAt.nem,fun _ _=>by simp,fun R hR=>hAt.res R (.stepN hleast hcN hR)⟩,rfl⟩
  ·have et2:Zb9 gone done=done++[gone]:=by unfold Zb9;rw[if_neg hg]
   have hlen2:ls.length=done.length+1:=by rw[hlsl,et2,Qf];rfl
   refine ZdY (fun z=>by have z':=V.int.inj z;rw[hll,hlen2]at z';omega) ?_
   rw[et2]at rd1
   obtain⟨ms,nl,rfl,rd2,hl2⟩:=rd1.split
   have ins2:=ins1
   have att2:=att1
   have run2:=run1
   have sm2:=sm1
   have rul2:=hAt.rul
   have nil2:=hAt.nil
   have nd2:=hAt.nd
   have fr2:=hAt.fr
   have hms:ms.length=done.length:=by rw[Qf,Qm]at hlen2;omega
   have hnd:=QW.mp nd2
   have hlms:nl ∉ ms:=fun h=>hnd.2.2 nl h nl (by simp) rfl
   have nrl:ru≠nl:=fun z=>rul2 (by rw[z];simp)
   have nDl:D≠nl:=fun z=>nil2 (by rw[z];simp)
   have hat3:atI ((ms++[nl]).map V.ref) (done.length:Int)=some (.ref nl):=Z6 (by rw[Qk,QN (by omega),show done.length-ms.length=0 by omega];rfl)
   refine⟨_,rfl,_,rfl,ru,_,_,_,rfl,rfl,SqL.of run2,hat3,ZmF hl2,_,rfl,nl,_,_,rfl,rfl,hl2,(by rw[Qa];exact ZJ (by omega)),?_⟩
   have ins3:(upd H5 nl (.lst (gone.map V.int++[.int n]))) D=some (.lst (Zaw ts1)):=by rw[Zd nDl];exact ins2
   have att3:AtT (upd H5 nl (.lst (gone.map V.int++[.int n]))) ts1:=fun u hu=>Za3 hl2 _ _ _ (att2 u hu)
   have run3:(upd H5 nl (.lst (gone.map V.int++[.int n]))) ru=some (.lst ((ms++[nl]).map V.ref)):=by rw[Zd nrl];exact run2
   have rd3:Rd (upd H5 nl (.lst (gone.map V.int++[.int n]))) (ms++[nl]) (done++[gone++[n]]):=by
    refine Rd.app (Rd.mono (fun l hl' u hu=>?_) rd2) ⟨?_,trivial⟩
    ·rw[Zd (fun z:l=nl=>hlms (z ▸ hl'))];exact hu
    ·rw[Zc,Qg];rfl
   have sm3:Zu H (upd H5 nl (.lst (gone.map V.int++[.int n]))):=fun b o hb=>by rw[Zd (Zb hb (fr2 nl (by simp)))];exact sm2 b o hb
   generalize upd H5 nl (.lst (gone.map V.int++[.int n]))=H7 at ins3 att3 run3 rd3 sm3 ⊢
   refine⟨_,rfl,_,rfl,a,_,rfl,.inl (sm3.seq hS),_,_,rfl,rfl,_,rfl,Za4 (fun d2=>?_) (fun d2=>?_)⟩
   ·have hcN:c<ss.length:=by have:=of_decide_eq_true d2;omega
    have hkc:atI (ss.map V.str) (c:Int)=some (.str (ss.getD (c:Int).toNat "")):=Zhq (by omega) (by omega)
    refine⟨_,rfl,.inl ⟨rfl,_,SqL.of ins3⟩,_,rfl,_,rfl,_,rfl,_,rfl,a,_,_,_,rfl,rfl,sm3.seq hS,hkc,(done.length:Int),ss.getD n.toNat "",ss.getD (c:Int).toNat "",rfl,ZcW hlen _,ZcW hlen _,fun hlt=>?_,fun hlt=>?_⟩
    ·refine⟨_,rfl,_,rfl,a,_,_,_,rfl,rfl,sm3.seq hS,hkc,_,rfl,(by show 3≤sizeLine;decide),fun tn htn=>⟨D,_,_,rfl,rfl,Zi htn _ _ _ ins3,(by unfold Zaw;rw[Qa];exact ZJ (by omega)),?_⟩⟩
     have stn:=Zi htn (.tup [.int (done.length:Int),.str (ss.getD (c:Int).toNat ""),.int (c:Int)])
     have nDt:D≠tn:=Zb ins3 htn
     have per4:((ts1++[(tn,kt ss (done.length:Int) (c:Int))]).map (·.2)).Perm (ZaH ss (done.length:Int) (A.erase n++[(c:Int)]) (B)):=by
      rw[Qg]
      unfold ZaH
      refine(per1.append_right _).trans ?_
      unfold ZaH
      rw[Qg,Q1,Q1]
      exact List.Perm.append_left _ List.perm_append_comm
     refine⟨_,rfl,_,_,rfl,rfl,?_⟩
     have hcc:((c:Int)+1)=((c+1:Nat):Int):=by omega
     simp only[hcc]
     refine⟨_,by simp only[List.length_append,List.length_singleton];omega,ts1++[(tn,kt ss (done.length:Int) (c:Int))],ms++[nl],A.erase n++[(c:Int)],B,c+1,gone++[n],done,_,_,_,_,rfl,⟨by rw[Zc];unfold Zaw;rw[Qg];rfl,fun u hu=>by
      rcases Qe.mp hu with hu|hu
      ·exact Za3 (stn _ _ ins3) _ _ _ (stn _ _ (att3 u hu))
      ·rw[Qc.mp hu,Zd nDt.symm];exact Zc,per4,by rw[Zd hAt.ne.symm];exact stn _ _ run3,by rw[Zcw];exact Rd.mono (fun l hl' u hu=>by rw[Zd (fun z:l=D=>nil2 (z ▸ hl'))];exact stn _ _ hu) rd3,rul2,nd2,fr2,hAt.ne,nil2,fun b o hb=>by rw[Zd (Zb hb hAt.i0)];exact stn _ _ (sm3 b o hb),hAt.i0,hAt.r0,by omega,fun z hz=>by
      have:z∈A++B∨z=(c:Int):=by
       simp only[List.mem_append,List.mem_singleton]at hz ⊢
       rcases hz with hz|hz
       ·rcases hz with hz|hz
        ·exact .inl (.inl (Qq hz))
        ·exact .inr hz
       ·exact .inl (.inr hz)
      rcases this with h|h
      ·have:=hAt.mem z h;omega
      ·omega,by rw[ZbD,Qf,Qm];simp only[List.length_append,List.length_singleton];omega,hAt.nem,fun _ _=>by simp,fun R hR=>hAt.res R (.stepA hleast hcN hlt hR)⟩,rfl⟩
    ·refine⟨_,rfl,_,rfl,a,_,_,_,rfl,rfl,sm3.seq hS,hkc,_,rfl,(by show 3≤sizeLine;decide),fun tn htn=>⟨D,_,_,rfl,rfl,Zi htn _ _ _ ins3,(by unfold Zaw;rw[Qa];exact ZJ (by omega)),?_⟩⟩
     have stn:=Zi htn (.tup [.int ((done.length:Int)+1),.str (ss.getD (c:Int).toNat ""),.int (c:Int)])
     have nDt:D≠tn:=Zb ins3 htn
     have per4:((ts1++[(tn,kt ss ((done.length:Int)+1) (c:Int))]).map (·.2)).Perm (ZaH ss (done.length:Int) (A.erase n) (B++[(c:Int)])):=by
      rw[Qg]
      unfold ZaH
      refine(per1.append_right _).trans ?_
      unfold ZaH
      rw[Qg,Q1]
      exact .refl _
     refine⟨_,rfl,_,_,rfl,rfl,?_⟩
     have hcc:((c:Int)+1)=((c+1:Nat):Int):=by omega
     simp only[hcc]
     refine⟨_,by simp only[List.length_append,List.length_singleton];omega,ts1++[(tn,kt ss ((done.length:Int)+1) (c:Int))],ms++[nl],A.erase n,B++[(c:Int)],c+1,gone++[n],done,_,_,_,_,rfl,⟨by rw[Zc];unfold Zaw;rw[Qg];rfl,fun u hu=>by
      rcases Qe.mp hu with hu|hu
      ·exact Za3 (stn _ _ ins3) _ _ _ (stn _ _ (att3 u hu))
      ·rw[Qc.mp hu,Zd nDt.symm];exact Zc,per4,by rw[Zd hAt.ne.symm];exact stn _ _ run3,by rw[Zcw];exact Rd.mono (fun l hl' u hu=>by rw[Zd (fun z:l=D=>nil2 (z ▸ hl'))];exact stn _ _ hu) rd3,rul2,nd2,fr2,hAt.ne,nil2,fun b o hb=>by rw[Zd (Zb hb hAt.i0)];exact stn _ _ (sm3 b o hb),hAt.i0,hAt.r0,by omega,fun z hz=>by
      have:z∈A++B∨z=(c:Int):=by
       simp only[List.mem_append,List.mem_singleton]at hz ⊢
       rcases hz with hz|hz
       ·exact .inl (.inl (Qq hz))
       ·rcases hz with hz|hz
        ·exact .inl (.inr hz)
        ·exact .inr hz
      rcases this with h|h
      ·have:=hAt.mem z h;omega
      ·omega,by rw[ZbD,Qf,Qm];simp only[List.length_append,List.length_singleton];omega,hAt.nem,fun _ _=>by simp,fun R hR=>hAt.res R (.stepB hleast hcN hlt hR)⟩,rfl⟩
   ·have hcN:¬ c<ss.length:=fun z=>d2 (decide_eq_true (by omega))
    refine⟨_,by omega,ts1,ms++[nl],A.erase n,B,c,gone++[n],done,_,_,_,_,rfl,⟨ins3,att3,per1,run3,by rw[Zcw];exact rd3,rul2,nd2,fr2,hAt.ne,nil2,sm3,hAt.i0,hAt.r0,by omega,fun z hz=>hAt.mem z (by
     rcases Qe.mp hz with hz|hz
     ·exact Qj _ (Qq hz)
     ·exact Ql _ hz),by rw[ZbD,Qf,Qm];omega,hAt.nem,fun _ _=>by simp,fun R hR=>hAt.res R (.stepN hleast hcN hR)⟩,rfl⟩
 ·have d':¬ (0:Int)<(((Zaw ts).length:Nat):Int):=fun z=>d (decide_eq_true z)
  have h0:ts.length=0:=by unfold Zaw at d';rw[Qa]at d';omega
  have hA0:A'=[]:=QX (by omega)
  have hB0:B'=[]:=QX (by omega)
  subst hA0 hB0
  have hcnt:=hAt'.cnt
  obtain⟨b1,b2⟩:=ZdH _ (ZjS (gone:=gone') hAt'.nem)
  refine⟨_,rfl,q ru ls (Zb9 gone' done') H4 hAt'.r0 hAt'.run hAt'.rul hAt'.fr hAt'.rd (hAt'.res _ ?_) (by omega) (fun d hd=>by have:=b2 d hd;omega) hAt'.sm⟩
  unfold Zb9
  cases gone' with
  | nil=>rw[if_pos rfl];exact .stop0
  | cons g gr=>rw[if_neg (by simp)];exact .stop
def Zrd(ss:List Str)(i:Nat):Bool:=decide (0<ZE (cds (ss.getD (i-1) "")) (cds (ss.getD i "")))
def ZpA(b:Nat→Bool)(m:Nat):List Nat:=((List.range m).map (·+1)).filter b
def pr:Nat→List Nat→List (List Int)
 | _,[]=>[]
 | a,x::r=>Z0 a (x-a)::pr x r
def Zpj(b:Nat→Bool):Nat→List (List Int)
 | 0=>[]
 | m+1=>pr 0 (ZpA b m++[m+1])
def spStr(K:PySem.W.Frag):Sp:=fun vs H Q _=>∃ (a:Addr) (ss:List Str),vs=[.ref a]∧SqL K H a (ss.map V.str)∧ss.length≤100∧(∀s∈ss,s.length≤1000) ∧
 ∀ (r:Addr) (ls:List Addr) (H':Hp),H r=none→H' r=some (.lst (ls.map V.ref))→r ∉ ls→(∀l∈ls,H l=none)→Rd H' ls (Zpj (Zrd ss) ss.length)→Zu H H'→Q (.ref r) H'
theorem ZgE{A:List Int}{n:Int}(h:n∈A):(A.erase n).length+1=A.length:=by
 have:=Q6 h
 have:=QY h
 omega
theorem ZnQ{ss:List Str}{room:Nat}(hr:1≤room){A B:List Int}{c:Nat}{gone:List Int}{done R:List (List Int)}(h:Res ss A B c gone done R):(c<ss.length→A.length+B.length=room)→(∀m:Int,0≤m→m<c→(∃d∈done,m∈d)∨m∈gone∨m∈A∨m∈B)→∀m:Int,0≤m→m<ss.length→∃d∈R,m∈d:=by
 induction h with
 | stop0 =>
  intro f g m h0 hm
  rename_i c _
  by_cases hc:c<ss.length
  ·have:=f hc;simp at this;omega
  ·rcases g m h0 (by omega) with h|h|h|h
   ·exact h
   ·cases h
   ·cases h
   ·cases h
 | stop =>
  intro f g m h0 hm
  rename_i c _ _ _
  by_cases hc:c<ss.length
  ·have:=f hc;simp at this;omega
  ·rcases g m h0 (by omega) with⟨d,h,h'⟩|h|h|h
   ·exact⟨d,Qj _ h,h'⟩
   ·exact⟨_,Ql _ (Qc.mpr rfl),h⟩
   ·cases h
   ·cases h
 | switch _ ih =>
  intro f g
  refine ih (by simpa using f) fun m h0 hm=>?_
  rcases g m h0 hm with⟨d,h,h'⟩|h|h|h
  ·exact .inl ⟨d,Qj _ h,h'⟩
  ·exact .inl ⟨_,Ql _ (Qc.mpr rfl),h⟩
  ·cases h
  ·exact .inr (.inr (.inl h))
 | @stepN A B c gone done R n l hc _ ih =>
  intro f g
  refine ih (fun z=>absurd z hc) fun m h0 hm=>?_
  rcases g m h0 hm with h|h|h|h
  ·exact .inl h
  ·exact .inr (.inl (Qj _ h))
  ·by_cases e:m=n
   ·exact .inr (.inl (Ql _ (by rw[e];simp)))
   ·exact .inr (.inr (.inl ((Qas e).mpr h)))
  ·exact .inr (.inr (.inr h))
 | @stepA A B c gone done R n l hc _ _ ih =>
  intro f g
  have:=ZgE l.1
  have f':=f hc
  refine ih (fun _=>by rw[Qf,Qm];omega) fun m h0 hm=>?_
  by_cases e:m=(c:Int)
  ·exact .inr (.inr (.inl (Ql _ (by rw[e];simp))))
  rcases g m h0 (by omega) with h|h|h|h
  ·exact .inl h
  ·exact .inr (.inl (Qj _ h))
  ·by_cases e:m=n
   ·exact .inr (.inl (Ql _ (by rw[e];simp)))
   ·exact .inr (.inr (.inl (Qj _ ((Qas e).mpr h))))
  ·exact .inr (.inr (.inr h))
 | @stepB A B c gone done R n l hc _ _ ih =>
  intro f g
  have:=ZgE l.1
  have f':=f hc
  refine ih (fun _=>by rw[Qf,Qm];omega) fun m h0 hm=>?_
  by_cases e:m=(c:Int)
  ·exact .inr (.inr (.inr (Ql _ (by rw[e];simp))))
  rcases g m h0 (by omega) with h|h|h|h
  ·exact .inl h
  ·exact .inr (.inl (Qj _ h))
  ·by_cases e:m=n
   ·exact .inr (.inl (Ql _ (by rw[e];simp)))
   ·exact .inr (.inr (.inl ((Qas e).mpr h)))
  ·exact .inr (.inr (.inr (Qj _ h)))
theorem Zkz{k:Nat}{m:Int}(h0:0≤m)(h:m<k):m∈first k:=by
 unfold first Z0
 exact List.mem_map.mpr ⟨m.toNat,Q5.mpr (by omega),by omega⟩
theorem Zle{ss:List Str}{room:Nat}(hr:1≤room){R:List (List Int)}(h:Res ss (first (min room ss.length)) [] (min room ss.length) [] [] R):∀m:Int,0≤m→m<ss.length→∃d∈R,m∈d :=
 ZnQ hr h (fun z=>by rw[Zcr];simp;omega) fun m h0 hm=>.inr (.inr (.inl (Zkz h0 hm)))
theorem Zld{ss:List Str}{a n x:Int}(h:ltK ss a n)(g:¬ ltK ss x n):ltK ss a x:=by
 unfold ltK at *
 rw[ZbQ]at *
 have h1:=ZaD (cds (ss.getD x.toNat "")) (cds (ss.getD n.toNat ""))
 have h2:=ZaD (cds (ss.getD a.toNat "")) (cds (ss.getD x.toNat ""))
 have h4:=ZaD (cds (ss.getD a.toNat "")) (cds (ss.getD n.toNat ""))
 have h3:=Zbz (cds (ss.getD n.toNat "")) (cds (ss.getD x.toNat "")) (cds (ss.getD a.toNat "")) (by omega)
 omega
theorem Zm8{ss:List Str}{A:List Int}{n x:Int}(h:Zdi ss A n)(hx:x∈A):¬ ltK ss x n:=fun z=>by
 have:=h.2 x hx
 unfold kk at this
 rw[Z5]at this
 by_cases e:(Sum.inr (ks ss x).1:Key)=Sum.inr (ks ss n).1
 ·have e':ss.getD x.toNat "" = ss.getD n.toNat "":=Sum.inr.inj e
  unfold ltK at z
  rw[e',ZbQ,Zcu]at z
  omega
 ·rw[if_neg e]at this
  exact of_decide_eq_false this z
theorem Ziv{ss:List Str}{a b:Int}(h:ltK ss a b):ss.getD a.toNat ""≠ss.getD b.toNat "":=fun e=>by
 unfold ltK at h
 rw[e,ZbQ,Zcu]at h
 omega
def ZhB(ss:List Str)(d e:List Int):Prop:=∀b∈d,∀a∈e,a<b→ss.getD a.toNat ""≠ss.getD b.toNat ""
theorem Zli{ss:List Str}{A B:List Int}{c:Nat}{gone:List Int}{done R:List (List Int)}(h:Res ss A B c gone done R):(∀n∈A++B,n<(c:Int))→(∀n∈gone,n<(c:Int))→(∀d∈done,∀n∈d,n<(c:Int))→(∀a∈B,∀x∈A,ltK ss a x)→ZhB ss gone B→(∀d∈done,ZhB ss d (gone++A++B))→done.Pairwise (ZhB ss)→R.Pairwise (ZhB ss):=by
 induction h with
 | stop0=>intro _ _ _ _ _ _ h;exact h
 | stop =>
  intro _ _ _ _ _ j2 j1
  refine Qat.mpr ⟨j1,Qal _ _,fun d hd e he=>?_⟩
  rw[Qc.mp he]
  have:=j2 d hd
  simpa using this
 | switch _ ih =>
  intro m1 m2 m3 j4 j3 j2 j1
  refine ih (by simpa using m1) (fun n h=>by cases h) (fun d hd=>?_) (fun a h=>by cases h) (fun b h=>by cases h) (fun d hd=>?_) (Qat.mpr ⟨j1,Qal _ _,fun d hd e he=>?_⟩)
  ·rcases Qe.mp hd with hd|hd
   ·exact m3 d hd
   ·rw[Qc.mp hd];exact m2
  ·rcases Qe.mp hd with hd|hd
   ·intro b hb a ha
    exact j2 d hd b hb a (by simp at ha ⊢;exact .inr ha)
   ·rw[Qc.mp hd]
    intro b hb a ha
    exact j3 b hb a (by simpa using ha)
  ·rw[Qc.mp he]
   intro b hb a ha
   exact j2 d hd b hb a (by simp;exact .inl ha)
 | @stepN A B c gone done R n l hc _ ih =>
  intro m1 m2 m3 j4 j3 j2 j1
  refine ih (fun x hx=>m1 x ?_) (fun x hx=>?_) m3 (fun a ha x hx=>j4 a ha x (Qq hx)) (fun b hb a ha hlt=>?_) (fun d hd b hb a ha=>j2 d hd b hb a ?_) j1
  ·rcases Qe.mp hx with h|h
   ·exact Qj _ (Qq h)
   ·exact Ql _ h
  ·rcases Qe.mp hx with h|h
   ·exact m2 x h
   ·rw[Qc.mp h];exact m1 n (Qj _ l.1)
  ·rcases Qe.mp hb with h|h
   ·exact j3 b h a ha hlt
   ·rw[Qc.mp h];exact Ziv (j4 a ha n l.1)
  ·simp only[List.mem_append,List.mem_singleton]at ha ⊢
   rcases ha with((h|h)|h)|h
   ·exact .inl (.inl h)
   ·exact .inl (.inr (h ▸ l.1))
   ·exact .inl (.inr (Qq h))
   ·exact .inr h
 | @stepA A B c gone done R n l hc hk _ ih =>
  intro m1 m2 m3 j4 j3 j2 j1
  have mA:∀x∈A,x<(c:Int):=fun x h=>m1 x (Qj _ h)
  have mB:∀x∈B,x<(c:Int):=fun x h=>m1 x (Ql _ h)
  refine ih (fun x hx=>?_) (fun x hx=>?_) (fun d hd x hx=>by have:=m3 d hd x hx;omega) (fun a ha x hx=>?_) (fun b hb a ha hlt=>?_) (fun d hd b hb a ha hlt=>?_) j1
  ·simp only[List.mem_append,List.mem_singleton]at hx
   rcases hx with(h|h)|h
   ·have:=mA x (Qq h);omega
   ·omega
   ·have:=mB x h;omega
  ·rcases Qe.mp hx with h|h
   ·have:=m2 x h;omega
   ·rw[Qc.mp h];have:=mA n l.1;omega
  ·rcases Qe.mp hx with h|h
   ·exact j4 a ha x (Qq h)
   ·rw[Qc.mp h];exact Zld (j4 a ha n l.1) hk
  ·rcases Qe.mp hb with h|h
   ·exact j3 b h a ha hlt
   ·rw[Qc.mp h];exact Ziv (j4 a ha n l.1)
  ·have hbc:=m3 d hd b hb
   have hac:a≠(c:Int):=fun z=>by omega
   refine j2 d hd b hb a ?_ hlt
   simp only[List.mem_append,List.mem_singleton]at ha ⊢
   rcases ha with((h|h)|h|h)|h
   ·exact .inl (.inl h)
   ·exact .inl (.inr (h ▸ l.1))
   ·exact .inl (.inr (Qq h))
   ·exact absurd h hac
   ·exact .inr h
 | @stepB A B c gone done R n l hc hk _ ih =>
  intro m1 m2 m3 j4 j3 j2 j1
  have mA:∀x∈A,x<(c:Int):=fun x h=>m1 x (Qj _ h)
  have mB:∀x∈B,x<(c:Int):=fun x h=>m1 x (Ql _ h)
  refine ih (fun x hx=>?_) (fun x hx=>?_) (fun d hd x hx=>by have:=m3 d hd x hx;omega) (fun a ha x hx=>?_) (fun b hb a ha hlt=>?_) (fun d hd b hb a ha hlt=>?_) j1
  ·simp only[List.mem_append,List.mem_singleton]at hx
   rcases hx with h|h|h
   ·have:=mA x (Qq h);omega
   ·have:=mB x h;omega
   ·omega
  ·rcases Qe.mp hx with h|h
   ·have:=m2 x h;omega
   ·rw[Qc.mp h];have:=mA n l.1;omega
  ·rcases Qe.mp ha with h|h
   ·exact j4 a h x (Qq hx)
   ·rw[Qc.mp h];exact Zld hk (Zm8 l (Qq hx))
  ·have hbc:b<(c:Int):=by
    rcases Qe.mp hb with h|h
    ·exact m2 b h
    ·rw[Qc.mp h];exact mA n l.1
   rcases Qe.mp ha with ha|ha
   ·rcases Qe.mp hb with h|h
    ·exact j3 b h a ha hlt
    ·rw[Qc.mp h];exact Ziv (j4 a ha n l.1)
   ·have:=Qc.mp ha;omega
  ·have hbc:=m3 d hd b hb
   have hac:a≠(c:Int):=fun z=>by omega
   refine j2 d hd b hb a ?_ hlt
   simp only[List.mem_append,List.mem_singleton]at ha ⊢
   rcases ha with((h|h)|h)|h|h
   ·exact .inl (.inl h)
   ·exact .inl (.inr (h ▸ l.1))
   ·exact .inl (.inr (Qq h))
   ·exact .inr h
   ·exact absurd h hac
theorem ZkZ{ss:List Str}{k:Nat}{R:List (List Int)}(h:Res ss (first k) [] k [] [] R):R.Pairwise (ZhB ss) :=
 Zli h (by rw[QI];exact fun n hn=>(Zcq hn).2) (fun n h=>by cases h) (fun d h=>by cases h) (fun a h=>by cases h) (fun b h=>by cases h) (fun d h=>by cases h) List.Pairwise.nil
def spIsRun(K:PySem.W.Frag):Sp:=fun vs H Q _=>∃ (a t:Addr) (ss:List Str) (ns:List Int),vs=[.ref a,.ref t]∧SqL K H a (ss.map V.str)∧H t=some (.lst (ns.map V.int))∧ns.length≤100∧(∀n∈ns,0≤n∧n<ss.length) ∧
 (ns≠[]∧Ris ss ns→∀H',Zu H H'→Q (.bl true) H')∧(¬ (ns≠[]∧Ris ss ns)→∀H',Zu H H'→Q (.bl false) H')
mutual
theorem Zjn(w:Nat):∀t:PT,tPl w t→1≤(tLv t).length
 | .leaf k,_=>Qh 1
 | .node l,h=>by
  have h1:2≤l.length:=h.1
  have:=ZcJ w l h.2.2
  show 1≤(Zay l).length
  omega
theorem ZcJ(w:Nat):∀l:List PT,Zcl w l→l.length≤(Zay l).length
 | [],_=>Qh 0
 | t::r,h=>by
  have h1:=Zjn w t h.1
  have h2:=ZcJ w r h.2
  show r.length+1≤(tLv t++Zay r).length
  rw[Qf]
  omega
end
def Zca(b e:Nat):List Int:=(List.range (e-b)).map fun i=>((b+i:Nat):Int)
theorem Zb4(b e:Nat):(Zca b e).length=e-b:=by unfold Zca;simp
theorem Zei{b e i:Nat}(h:i<e-b):(Zca b e)[i]? = some ((b+i:Nat):Int):=by
 unfold Zca
 rw[Qk,Qab h]
 rfl
theorem Zgq{b e k:Nat}(h:b+k≤e):(Zca b e).take k=Zca b (b+k):=by
 refine Q9 fun i=>?_
 rw[List.getElem?_take]
 by_cases hi:i<k
 ·rw[if_pos hi,Zei (by omega),Zei (by omega)]
 ·rw[if_neg hi,QD (by rw[Zb4];omega)]
theorem Zgr{b e k:Nat}(h:b+k≤e):(Zca b e).drop k=Zca (b+k) e:=by
 refine Q9 fun i=>?_
 rw[List.getElem?_drop]
 by_cases hi:k+i<e-b
 ·rw[Zei hi,Zei (by omega),Nat.add_assoc]
 ·rw[QD (by rw[Zb4];omega),QD (by rw[Zb4];omega)]
theorem ZmU{b m e:Nat}(h1:b≤m)(h2:m≤e):Zca b m++Zca m e=Zca b e:=by
 have a:=Zgq (b:=b) (e:=e) (k:=m-b) (by omega)
 have c:=Zgr (b:=b) (e:=e) (k:=m-b) (by omega)
 rw[show b+(m-b)=m by omega]at a c
 rw[← a,← c,List.take_append_drop]
def Nf(w b e:Nat)(ts:List PT):Prop:=Zay ts=Zca b e∧Zcl w ts
theorem Nf.cut{w b e:Nat}{t:PT}{r:List PT}(h:Nf w b e (t::r))(hr:1≤r.length):∃mid,b<mid∧mid<e∧Nf w b mid [t]∧Nf w mid e r:=by
 obtain⟨h1,h2,h3⟩:=h
 have p1:=Zjn w t h2
 have p2:=ZcJ w r h3
 have hl:(tLv t).length+(Zay r).length=e-b:=by
  have:=congrArg List.length h1
  rw[Zb4]at this
  rw[← this]
  show _=(tLv t++Zay r).length
  rw[Qf]
 have e1:tLv t++Zay r=Zca b e:=h1
 refine⟨b+(tLv t).length,by omega,by omega,⟨?_,h2,trivial⟩,⟨?_,h3⟩⟩
 ·rw[← Zgq (b:=b) (e:=e) (by omega),← e1,List.take_left]
  show tLv t++[]=_
  rw[QI]
 ·rw[← Zgr (b:=b) (e:=e) (by omega),← e1,List.drop_left]
theorem Nf.app{w b m e:Nat}{a c:List PT}(h1:Nf w b m a)(h2:Nf w m e c)(hb:b≤m)(he:m≤e):Nf w b e (a++c):=by
 refine⟨?_,(ZhZ w a c).mpr ⟨h1.2,h2.2⟩⟩
 rw[Zhw,h1.1,h2.1,ZmU hb he]
theorem Nf.len{w b e:Nat}{ts:List PT}(h:Nf w b e ts):ts.length≤e-b:=by
 have:=ZcJ w ts h.2
 rw[h.1,Zb4]at this
 exact this
mutual
theorem Zi1(ns:List Int):∀t:PT,tSz ns t=((tLv t).map fun k=>ns.getD k.toNat 0).sum
 | .leaf k=>by show _=([ns.getD k.toNat 0]:List Int).sum;simp[tSz]
 | .node l=>ZgS ns l
theorem ZgS(ns:List Int):∀l:List PT,Zd1 ns l=((Zay l).map fun k=>ns.getD k.toNat 0).sum
 | []=>rfl
 | t::r=>by show tSz ns t+Zd1 ns r=((tLv t++Zay r).map _).sum;rw[Qg,Qag,Zi1 ns t,ZgS ns r]
end
def seg(ns:List Int)(b e:Nat):Int:=((ns.drop b).take (e-b)).sum
theorem ZpF{ns:List Int}{b e:Nat}(h:e≤ns.length):((Zca b e).map fun k=>ns.getD k.toNat 0).sum=seg ns b e:=by
 unfold seg
 congr 1
 refine Q9 fun i=>?_
 rw[Qk,List.getElem?_take,List.getElem?_drop]
 by_cases hi:i<e-b
 ·rw[if_pos hi,Zei hi,Qb (by omega),Option.map_some,Q7,Qi,Qb (by omega)]
  rfl
 ·rw[if_neg hi,QD (by rw[Zb4];omega)]
  rfl
theorem Nf.size{ns:List Int}{w b e:Nat}{ts:List PT}(h:Nf w b e ts)(he:e≤ns.length):Zd1 ns ts=seg ns b e:=by
 rw[ZgS,h.1,ZpF he]
mutual
theorem Zo2{ns:List Int}(hn:∀v∈ns,0≤v):∀t:PT,0≤tSz ns t
 | .leaf k=>by
  show 0≤ns.getD k.toNat 0
  rw[Qi]
  cases h:ns[k.toNat]? with
  | none=>exact QaE 0
  | some v=>exact hn v (Qr h)
 | .node l=>Zg4 hn l
theorem Zg4{ns:List Int}(hn:∀v∈ns,0≤v):∀l:List PT,0≤Zd1 ns l
 | []=>QaE 0
 | t::r=>by
  have h1:=Zo2 hn t
  have h2:=Zg4 hn r
  show 0≤tSz ns t+Zd1 ns r
  omega
end
mutual
theorem ZoZ{ns:List Int}(hn:∀v∈ns,0≤v):∀t:PT,0≤tCo ns t
 | .leaf k=>QaE 0
 | .node l=>by
  have h1:=Ze9 hn l
  have h2:=Zg4 hn l
  show 0≤Zbp ns l+Zd1 ns l
  omega
theorem Ze9{ns:List Int}(hn:∀v∈ns,0≤v):∀l:List PT,0≤Zbp ns l
 | []=>QaE 0
 | t::r=>by
  have h1:=ZoZ hn t
  have h2:=Ze9 hn r
  show 0≤tCo ns t+Zbp ns r
  omega
end
structure Gr (ns:List Int) (w b e m:Nat) (p:Int) (ts:List PT):Prop where
 l1:1≤ts.length
 lm:ts.length≤m
 nf:Nf w b e ts
 co:Zbp ns ts=p
 le:∀us,1≤us.length→us.length≤m→Nf w b e us→p≤Zbp ns us
structure Gc (ns:List Int) (w b e m:Nat) (p:Int) (ts:List PT):Prop where
 l1:2≤ts.length
 lm:ts.length≤m
 nf:Nf w b e ts
 co:Zbp ns ts=p
 le:∀us,2≤us.length→us.length≤m→Nf w b e us→p≤Zbp ns us
theorem ZnH{ns:List Int}(hn:∀v∈ns,0≤v)(w b m:Nat)(h:1≤m):Gr ns w b (b+1) m 0 [.leaf (b:Int)]:=by
 refine⟨Qh 1,h,⟨?_,trivial,trivial⟩,rfl,fun us _ _ _=>Ze9 hn us⟩
 show [(b:Int)]=Zca b (b+1)
 unfold Zca
 rw[show b+1-b=1 by omega]
 rfl
theorem Zp0{ns:List Int}{w b e m mid:Nat}{p1 p2:Int}{t1 t2:List PT}(hm:2≤m)(hb:b<mid)(he:mid<e)(g1:Gr ns w b mid 1 p1 t1)(g2:Gr ns w mid e (m-1) p2 t2)
  (hle:∀k q1 q2 u1 u2,b<k→k<e→Gr ns w b k 1 q1 u1→Gr ns w k e (m-1) q2 u2→p1+p2≤q1+q2) (hex:∀k,b<k→k<e→∃q1 q2 u1 u2,Gr ns w b k 1 q1 u1∧Gr ns w k e (m-1) q2 u2):Gc ns w b e m (p1+p2) (t1++t2):=by
 have a1:=g1.l1
 have a2:=g1.lm
 have a3:=g2.l1
 have a4:=g2.lm
 refine⟨by rw[Qf];omega,by rw[Qf];omega,g1.nf.app g2.nf (by omega) (by omega),by rw[Zh2,g1.co,g2.co],fun us h2 hl hu=>?_⟩
 cases us with
 | nil=>simp at h2
 | cons t r =>
  simp only[List.length_cons]at h2 hl
  obtain⟨k,k1,k2,n1,n2⟩:=hu.cut (by omega)
  obtain⟨q1,q2,u1,u2,f1,f2⟩:=hex k k1 k2
  have c1:=f1.le [t] (by simp) (by simp) n1
  have c2:=f2.le r (by omega) (by omega) n2
  have c3:=hle k q1 q2 u1 u2 k1 k2 f1 f2
  have e1:Zbp ns [t]=tCo ns t:=by show tCo ns t+0=_;omega
  show _≤tCo ns t+Zbp ns r
  omega
theorem ZnS{ns:List Int}{w b e:Nat}{p:Int}{ts:List PT}(h:Gc ns w b e w p ts)(hbe:b+1<e)(he:e≤ns.length):Gr ns w b e 1 (p+seg ns b e) [.node ts]:=by
 have a1:=h.l1
 have a2:=h.lm
 refine⟨Qh 1,Qh 1,⟨?_,⟨a1,a2,h.nf.2⟩,trivial⟩,?_,fun us h1 h2 hu=>?_⟩
 ·show Zay ts++[]=_
  rw[QI,h.nf.1]
 ·show Zbp ns ts+Zd1 ns ts+0=_
  rw[h.co,h.nf.size he]
  omega
 ·cases us with
  | nil=>simp at h1
  | cons t r =>
   have:r=[]:=by simpa using h2
   subst this
   cases t with
   | leaf k =>
    have:=congrArg List.length hu.1
    rw[Zb4]at this
    have:1=e-b:=this
    omega
   | node l =>
    have hp:2≤l.length∧l.length≤w∧Zcl w l:=hu.2.1
    have hv:Zay l=Zca b e:=by
     have h9:Zay l++[]=Zca b e:=hu.1
     rw[QI]at h9
     exact h9
    have hl:Nf w b e l:=⟨hv,hp.2.2⟩
    have:=h.le l hp.1 hp.2.1 hl
    show _≤Zbp ns l+Zd1 ns l+0
    rw[hl.size he]
    omega
theorem Znt{ns:List Int}{w b e m:Nat}{p q:Int}{ts us:List PT}(hm:1≤m)(h:Gr ns w b e 1 p ts)(g:Gc ns w b e m q us):(q<p→Gr ns w b e m q us)∧(¬ q<p→Gr ns w b e m p ts):=by
 have a1:=h.l1
 have a2:=h.lm
 have a3:=g.l1
 have both:∀vs,1≤vs.length→vs.length≤m→Nf w b e vs→(vs.length=1∧p≤Zbp ns vs)∨q≤Zbp ns vs:=fun vs v1 v2 hv=>by
  by_cases h1:vs.length=1
  ·exact .inl ⟨h1,h.le vs (by omega) (by omega) hv⟩
  ·exact .inr (g.le vs (by omega) v2 hv)
 refine⟨fun hl=>⟨by omega,g.lm,g.nf,g.co,fun vs v1 v2 hv=>?_⟩,fun hl=>⟨h.l1,by omega,h.nf,h.co,fun vs v1 v2 hv=>?_⟩⟩
 ·rcases both vs v1 v2 hv with⟨_,z⟩|z<;>omega
 ·rcases both vs v1 v2 hv with⟨_,z⟩|z<;>omega
theorem Zpc{ns:List Int}{w b m:Nat}{p:Int}{ts:List PT}(h:Gr ns w b (b+1) 1 p ts)(hm:1≤m):Gr ns w b (b+1) m p ts:=by
 have a1:=h.l1
 have a2:=h.lm
 refine⟨h.l1,by omega,h.nf,h.co,fun us u1 u2 hu=>h.le us u1 ?_ hu⟩
 have:=hu.len
 omega
theorem Zdt{ns:List Int}{w b e:Nat}{p q:Int}{ts us:List PT}{m:Nat}(h:Gr ns w b e m p ts)(g:Gr ns w b e m q us):p=q:=by
 have a:=h.le us g.l1 g.lm g.nf
 have c:=g.le ts h.l1 h.lm h.nf
 rw[g.co]at a
 rw[h.co]at c
 omega
theorem Zmw(ts:ZcR):(Zaw ts).length=ts.length:=by unfold Zaw;rw[Qa]
theorem ZnO{x y:Int}{r s:List Key}(h:ZT (.inl x::r) (.inl y::s)=false):y≤x:=by
 rw[Z5]at h
 by_cases e:(Sum.inl x:Key)=.inl y
 ·injection e with e;omega
 ·rw[if_neg e]at h
  have:¬ x<y:=of_decide_eq_false h
  omega
def Kb(b e m:Nat):List Key:=[.inl (b:Int),.inl (e:Int),.inl (m:Int)]
theorem Zp3{b e m b' e' m':Nat}(h:Kb b e m=Kb b' e' m'):b=b'∧e=e'∧m=m':=by
 unfold Kb at h
 injection h with h1 h2
 injection h2 with h2 h3
 injection h3 with h3 _
 injection h1 with h1
 injection h2 with h2
 injection h3 with h3
 omega
def Zgc(H:Hp)(v:V)(p:Int)(ts:List PT):Prop:=∃ (a t:Addr) (xs:List V),v=.ref a∧H a=some (.tup [.int p,.ref t])∧H t=some (.tup xs)∧TVs H xs ts
theorem Zgc.mono{H H':Hp}{v:V}{p:Int}{ts:List PT}(h:Zgc H v p ts)(s:∀a xs,H a=some (.tup xs)→H' a=some (.tup xs)):Zgc H' v p ts:=by
 obtain⟨a,t,xs,e,h1,h2,h3⟩:=h
 exact⟨a,t,xs,e,s _ _ h1,s _ _ h2,h3.mono s⟩
def Has(ns:List Int)(w:Nat)(H:Hp)(kvs:List (List Key×V))(b e:Nat):Prop:=∀m,1≤m→m<w→∃v p ts,Zbi kvs (Kb b e m)=some v∧Zgc H v p ts∧Gr ns w b e m p ts
theorem Has.mono{ns:List Int}{w:Nat}{H H':Hp}{kvs:List (List Key×V)}{b e:Nat}(h:Has ns w H kvs b e)(s:∀a xs,H a=some (.tup xs)→H' a=some (.tup xs)):Has ns w H' kvs b e:=fun m h1 h2=>by
 obtain⟨v,p,ts,a,c,g⟩:=h m h1 h2
 exact⟨v,p,ts,a,c.mono s,g⟩
def ZlA(ns:List Int)(wy:Nat):Sp:=fun vs H Q _=>∃ (d:Addr) (kvs:List (List Key×V)) (b e m:Nat),vs=[.ref d,.int b,.int e,.int m]∧H d=some (.dT kvs)∧b+1<e∧e≤60∧2≤m∧m≤wy∧(∀k,b<k→k<e→Has ns wy H kvs b k∧Has ns wy H kvs k e) ∧
 ∀ (r:Addr) (p:Int) (ts:List PT) (H':Hp),Zgc H' (.ref r) p ts→Gc ns wy b e m p ts→Zu H H'→Q (.ref r) H'
def PS(ns:List Int)(wy b e m k:Nat)(s:Int):Prop:=∃q1 q2 u1 u2,Gr ns wy b k 1 q1 u1∧Gr ns wy k e (m-1) q2 u2∧s=q1+q2
theorem Zo1(T:Zaj K mg cRow cMerge)(ns:List Int)(wy:Nat):Df P w K mg base 1 "least_cut" ["groves", "begin", "end", "most"] (ZlA ns wy):=by
 refine T.t_least_cut.df Zc4 (fun vs H Q E h=>?_) (fun cdv f A outer s H vs Q E hr h=>?_)
 ·obtain⟨d,kvs,b,e,m,rfl,_⟩:=h
  rfl
 obtain⟨d,kvs,b,e,m,rfl,hd,hbe,he12,hm2,hmw,hall,q⟩:=h
 refine⟨_,#[Zf,#[ZaT,#[Zk,(Zqu K hr),(by rfl),T.b.n_min,boot_min,#[Za,#[ZbU,Zf1,#[ZdP,T.b.n_range,#[Za,#[ZG,Zal,#[pv,1,(Or.inr (Or.inl rfl))],#[Zh]],#[Za,#[pv,2,(Or.inr (Or.inl rfl))],#[Ze]]]],(fun _ _ _ _=>#[cg,6,Zf1]),(fun _ _ _ _=>(@Zbg _)),(fun _ _ _ _=>#[ZU,#[Za,#[ZG,Zal,#[Zz,(ixT K),#[Zz,(ixD hr),#[cv,0,Zf1],#[ZU,#[Za,#[cv,1,Zf1],#[Za,#[cw,6,Zf1],#[Za,#[Zh],#[Ze]]]]]],#[Zh]],#[Zz,(ixT K),#[Zz,(ixD hr),#[cv,0,Zf1],#[ZU,#[Za,#[cw,6,Zf1],#[Za,#[cv,2,Zf1],#[Za,#[ZG,ZcT,#[cv,3,Zf1],#[Zh]],#[Ze]]]]]],#[Zh]]],#[Za,#[cw,6,Zf1],#[Ze]]]])],#[Ze]]],#[gT,K,2,#[Zv,#[Zx,4,Zc4.nd],#[Zv,#[Zx,5,Zc4.nd],(@ZaL _)]]]],#[Zj,#[Zp,#[ZU,#[Za,‹4›,#[Za,#[ZG,Znp,#[Zz,(ixT K),#[Zz,(ixD hr),#[pv,0,(Or.inr (Or.inl rfl))],#[ZU,#[Za,#[pv,1,(Or.inr (Or.inl rfl))],#[Za,‹5›,#[Za,#[Zh],#[Ze]]]]]],#[Zh]],#[Zz,(ixT K),#[Zz,(ixD hr),#[pv,0,(Or.inr (Or.inl rfl))],#[ZU,#[Za,‹5›,#[Za,#[pv,2,(Or.inr (Or.inl rfl))],#[Za,#[ZG,ZcT,#[pv,3,(Or.inr (Or.inl rfl))],#[Zh]],#[Ze]]]]]],#[Zh]]],#[Ze]]]]]]],?_⟩
 refine⟨_,rfl,_,_,rfl,rfl,_,rfl,_,_,rfl,⟨by omega,by omega,by omega,by omega⟩,fun D hD=>?_⟩
 rw[show ((e:Int)-((b:Int)+1)).toNat=e-(b+1) by omega]
 refine ZcX (fun i zs σ H2=>(∃v:Option V,σ=[some (.ref d),some (.int b),some (.int e),some (.int m),none,none,v])∧(∃tl:ZcR,zs=Zaw tl∧AtT H2 tl∧tl.length=i∧∀ (j:Nat) (t:Addr×List Key),tl[j]? = some t→∃s,t.2=[.inl s,.inl ((b+1+j:Nat):Int)]∧PS ns wy b e m (b+1+j) s)∧i≤e-(b+1)∧H2 D=some (.lst zs)∧Zu H H2) ?_ ?_ ?_
 ·exact⟨⟨none,rfl⟩,⟨[],rfl,(fun t h=>by cases h),rfl,fun j t h=>by cases h⟩,Qv _,Zc,Zi hD _⟩
 ·rintro i zs σ H2 hi ⟨⟨v,rfl⟩,⟨tl,rfl,hat,htl,hk⟩,hi',hD2,s2⟩
  rw[show ((b:Int)+1+(i:Int))=((b+1+i:Nat):Int) by omega]
  obtain⟨A1,A2⟩:=hall (b+1+i) (by omega) (by omega)
  obtain⟨v1,p1,t1,l1,⟨a1,y1,x1,rfl,ha1,hy1,tv1⟩,g1⟩:=A1 1 (by omega) (by omega)
  obtain⟨v2,p2,t2,l2,⟨a2,y2,x2,rfl,ha2,hy2,tv2⟩,g2⟩:=A2 (m-1) (by omega) (by omega)
  refine⟨_,rfl,_,rfl,_,rfl,(by show 3≤sizeLine;decide),fun k1 hk1=>?_⟩
  have s3:=s2.trans (Zi hk1 (.tup ((Kb b (b+1+i) 1).map kV)))
  have hD3:=Zi hk1 (.tup ((Kb b (b+1+i) 1).map kV)) _ _ hD2
  have hat3:=AtT.mono hat (Zi hk1 (.tup ((Kb b (b+1+i) 1).map kV)))
  have f3:(upd H2 k1 (.tup ((Kb b (b+1+i) 1).map kV))) k1=some (.tup ((Kb b (b+1+i) 1).map kV)):=Zc
  change Zg2 _ _ (upd H2 k1 (.tup ((Kb b (b+1+i) 1).map kV))) _
  generalize upd H2 k1 (.tup ((Kb b (b+1+i) 1).map kV))=H3 at s3 hD3 hat3 f3 ⊢
  refine⟨d,kvs,k1,Kb b (b+1+i) 1,_,rfl,rfl,s3 _ _ hd,f3,l1,a1,_,_,_,rfl,rfl,SqT.of (s3 _ _ ha1),rfl,?_⟩
  refine⟨_,rfl,_,rfl,_,rfl,_,rfl,_,_,rfl,rfl,(by show 3≤sizeLine;decide),fun k2 hk2=>?_⟩
  have s4:=s3.trans (Zi hk2 (.tup ((Kb (b+1+i) e (m-1)).map kV)))
  have hD4:=Zi hk2 (.tup ((Kb (b+1+i) e (m-1)).map kV)) _ _ hD3
  have hat4:=AtT.mono hat3 (Zi hk2 (.tup ((Kb (b+1+i) e (m-1)).map kV)))
  have f4:(upd H3 k2 (.tup ((Kb (b+1+i) e (m-1)).map kV))) k2=some (.tup ((Kb (b+1+i) e (m-1)).map kV)):=Zc
  change Zg2 _ _ (upd H3 k2 (.tup [V.int ((b+1+i:Nat):Int),V.int (e:Int),V.int ((m:Int)-1)])) _
  rw[show ((m:Int)-1)=((m-1:Nat):Int) by omega]
  change Zg2 _ _ (upd H3 k2 (.tup ((Kb (b+1+i) e (m-1)).map kV))) _
  generalize upd H3 k2 (.tup ((Kb (b+1+i) e (m-1)).map kV))=H4 at s4 hD4 hat4 f4 ⊢
  refine⟨d,kvs,k2,Kb (b+1+i) e (m-1),_,rfl,rfl,s4 _ _ hd,f4,l2,a2,_,_,_,rfl,rfl,SqT.of (s4 _ _ ha2),rfl,_,_,rfl,rfl,_,rfl,(by show 2≤sizeLine;decide),fun n hn=>?_⟩
  have sn:=Zi hn (.tup [.int (p1+p2),.int ((b+1+i:Nat):Int)])
  have hD5:=sn _ _ hD4
  have nDn:D≠n:=Zb hD4 hn
  refine⟨hD5,(by rw[Zmw,htl];exact ZJ (by omega)),⟨_,rfl⟩,⟨tl++[(n,[.inl (p1+p2),.inl ((b+1+i:Nat):Int)])],by unfold Zaw;rw[Qg];rfl,fun t ht=>?_,by rw[Qf,Qm];omega,fun j t hj=>?_⟩,by omega,Zc,fun b' o hb=>?_⟩
  ·rcases Qe.mp ht with ht|ht
   ·exact Za3 hD5 _ _ _ (sn _ _ (hat4 t ht))
   ·rw[Qc.mp ht,Zd nDn.symm];exact Zc
  ·by_cases hjl:j<tl.length
   ·rw[QU hjl]at hj
    exact hk j t hj
   ·have hj2:=(Qd.mp hj).1
    rw[Qf,Qm]at hj2
    have ej:j=i:=by omega
    subst ej
    rw[QN (by omega),htl,Nat.sub_self]at hj
    cases hj
    exact⟨p1+p2,rfl,p1,p2,t1,t2,g1,g2,rfl⟩
  ·rw[Zd (Zb hb hD)];exact sn _ _ (s4 b' o hb)
 rintro zs σ H2 ⟨⟨v,rfl⟩,⟨tl,rfl,hat,htl,hk⟩,_,hD2,s2⟩
 have hsh:∀t∈tl,Za7 t.2=[true,true]:=fun t ht=>by
  obtain⟨j,hj⟩:=List.mem_iff_getElem?.mp ht
  obtain⟨s,e1,_⟩:=hk j t hj
  rw[e1];rfl
 refine⟨D,tl,[true,true],rfl,SqL.of hD2,hat,(fun z=>by rw[z]at htl;simp at htl;omega),hsh,fun t ht hmin=>?_⟩
 obtain⟨j,hj⟩:=List.mem_iff_getElem?.mp ht
 have hjl:=(Qd.mp hj).1
 obtain⟨sm,et,q1,q2,u1,u2,g1,g2,es⟩:=hk j t hj
 have htt:=hat t ht
 rw[et]at htt
 refine⟨t.1,_,rfl,SqT.of htt,rfl,_,_,rfl,_,_,rfl,rfl,?_⟩
 have hmid1:b<b+1+j:=by omega
 have hmid2:b+1+j<e:=by omega
 obtain⟨A1,A2⟩:=hall (b+1+j) hmid1 hmid2
 obtain⟨v1,p1,t1,l1,⟨a1,y1,x1,rfl,ha1,hy1,tv1⟩,g1'⟩:=A1 1 (by omega) (by omega)
 obtain⟨v2,p2,t2,l2,⟨a2,y2,x2,rfl,ha2,hy2,tv2⟩,g2'⟩:=A2 (m-1) (by omega) (by omega)
 have e1:=Zdt g1 g1'
 have e2:=Zdt g2 g2'
 have hcut:Gc ns wy b e m (p1+p2) (t1++t2):=by
  refine Zp0 hm2 hmid1 hmid2 g1' g2' (fun k r1 r2 w1 w2 k1 k2 f1 f2=>?_) (fun k k1 k2=>?_)
  ·have hkl:k-(b+1)<tl.length:=by omega
   obtain⟨s',e3,r1',r2',w1',w2',f1',f2',es'⟩:=hk (k-(b+1)) _ (Qb hkl)
   have hm':=hmin _ (Q0 hkl)
   rw[e3,et]at hm'
   have:=ZnO hm'
   rw[show b+1+(k-(b+1))=k by omega]at f1' f2'
   have e4:=Zdt f1 f1'
   have e5:=Zdt f2 f2'
   omega
  ·obtain⟨B1,B2⟩:=hall k k1 k2
   obtain⟨_,r1,w1,_,_,f1⟩:=B1 1 (by omega) (by omega)
   obtain⟨_,r2,w2,_,_,f2⟩:=B2 (m-1) (by omega) (by omega)
   exact⟨r1,r2,w1,w2,f1,f2⟩
 refine⟨_,rfl,_,rfl,_,rfl,_,rfl,(by show 3≤sizeLine;decide),fun k1 hk1=>?_⟩
 have s3:=s2.trans (Zi hk1 (.tup ((Kb b (b+1+j) 1).map kV)))
 have f3:(upd H2 k1 (.tup ((Kb b (b+1+j) 1).map kV))) k1=some (.tup ((Kb b (b+1+j) 1).map kV)):=Zc
 change Zg2 _ _ (upd H2 k1 (.tup ((Kb b (b+1+j) 1).map kV))) _
 generalize upd H2 k1 (.tup ((Kb b (b+1+j) 1).map kV))=H3 at s3 f3 ⊢
 refine⟨d,kvs,k1,Kb b (b+1+j) 1,_,rfl,rfl,s3 _ _ hd,f3,l1,a1,_,_,_,rfl,rfl,SqT.of (s3 _ _ ha1),rfl,?_⟩
 refine⟨_,rfl,_,rfl,_,rfl,_,rfl,_,_,rfl,rfl,(by show 3≤sizeLine;decide),fun k2 hk2=>?_⟩
 have s4:=s3.trans (Zi hk2 (.tup ((Kb (b+1+j) e (m-1)).map kV)))
 have f4:(upd H3 k2 (.tup ((Kb (b+1+j) e (m-1)).map kV))) k2=some (.tup ((Kb (b+1+j) e (m-1)).map kV)):=Zc
 change Zg2 _ _ (upd H3 k2 (.tup [V.int ((b+1+j:Nat):Int),V.int (e:Int),V.int ((m:Int)-1)])) _
 rw[show ((m:Int)-1)=((m-1:Nat):Int) by omega]
 change Zg2 _ _ (upd H3 k2 (.tup ((Kb (b+1+j) e (m-1)).map kV))) _
 generalize upd H3 k2 (.tup ((Kb (b+1+j) e (m-1)).map kV))=H4 at s4 f4 ⊢
 have tv1':TVs H4 x1 t1:=tv1.mono fun a xs e=>s4 _ _ e
 have tv2':TVs H4 x2 t2:=tv2.mono fun a xs e=>s4 _ _ e
 have n1:=tv1.len
 have n2:=tv2.len
 have c1:=g1'.l1
 have c2:=g2'.l1
 have c3:=g1'.lm
 have c4:=g2'.nf.len
 refine⟨d,kvs,k2,Kb (b+1+j) e (m-1),_,rfl,rfl,s4 _ _ hd,f4,l2,a2,_,_,_,rfl,rfl,SqT.of (s4 _ _ ha2),rfl,y1,y2,x1,x2,rfl,rfl,SqT.of (s4 _ _ hy1),SqT.of (s4 _ _ hy2),(fun z=>by rw[z]at n1;simp at n1;omega),Nat.le_of_lt (ZJ (by omega)),(fun z=>by rw[z]at n2;simp at n2;omega),fun _ tt htt'=>?_⟩
 have s5:=s4.trans (Zi htt' (.tup (x1++x2)))
 have f5:(upd H4 tt (.tup (x1++x2))) tt=some (.tup (x1++x2)):=Zc
 have tv5:TVs (upd H4 tt (.tup (x1++x2))) (x1++x2) (t1++t2):=(tv1'.app tv2').mono fun a xs e=>Zi htt' _ _ _ e
 generalize upd H4 tt (.tup (x1++x2))=H5 at s5 f5 tv5 ⊢
 refine⟨(by show 2≤sizeLine;decide),fun r hr0=>?_⟩
 have esum:sm=p1+p2:=by omega
 rw[esum]
 have s6:=Zi hr0 (.tup [.int (p1+p2),.ref tt])
 exact q r (p1+p2) (t1++t2) _ ⟨r,tt,x1++x2,rfl,Zc,s6 _ _ f5,tv5.mono fun a xs e=>s6 _ _ e⟩ hcut (s5.trans s6)
def ZjO(K:PySem.W.Frag)(ns:List Int)(wy:Nat):Sp:=fun vs H Q _=>∃ (d a:Addr) (kvs:List (List Key×V)) (b e:Nat),vs=[.ref d,.ref a,.int wy,.int b,.int e]∧H d=some (.dT kvs)∧SqL K H a (ns.map V.int)∧b<e∧e≤ns.length∧ns.length≤60∧(∀v∈ns,0≤v∧v≤1000000000)∧2≤wy∧(∀k,b<k→k<e→Has ns wy H kvs b k∧Has ns wy H kvs k e) ∧
 ∀ (r:Addr) (p:Int) (ts:List PT) (H':Hp),Zgc H' (.ref r) p ts→Gr ns wy b e 1 p ts→Zu H H'→Q (.ref r) H'
theorem Zmg(T:Zaj K mg cRow cMerge)(ns:List Int)(wy:Nat)(f_least_cut:Df P w K mg base 1 "least_cut" ["groves", "begin", "end", "most"] (ZlA ns wy)):Df P w K mg base 2 "least_tree" ["groves", "sizes", "ways", "begin", "end"] (ZjO K ns wy):=by
 refine T.t_least_tree.df Zci (fun vs H Q E h=>?_) (fun cdv f A outer s H vs Q E hr h=>?_)
 ·obtain⟨d,a,kvs,b,e,rfl,_⟩:=h
  rfl
 obtain⟨d,a,kvs,b,e,rfl,hd,hS,hbe,hen,hn12,hns,w2,hall,q⟩:=h
 refine⟨_,#[Zf,#[Zae,#[Zn,Zbn,#[ZG,ZcT,‹4›,‹3›],#[Zh],(Zt _)],#[Zj,#[Zp,#[ZU,#[Za,#[Zh],#[Za,#[ZU,#[Za,‹3›,#[Ze]]],#[Ze]]]]]],#[ZF]],#[Zf,#[ZaT,#[ZA,f_least_cut,hr,#[Za,‹0›,#[Za,‹3›,#[Za,‹4›,#[Za,‹2›,#[Ze]]]]],(by rfl)],#[gT,K,2,#[Zv,#[Zx,5,Zci.nd],#[Zv,#[Zx,6,Zci.nd],(@ZaL _)]]]],#[Zj,#[Zp,#[ZU,#[Za,#[ZG,Zal,‹5›,#[Zk,(Zqb K),(by rfl),T.b.n_sum,boot_sum,#[Za,#[ZcB,(slL K),‹1›,(@Zcb _ _ _ ‹3›),(@Zcb _ _ _ ‹4›)],#[Ze]]]],#[Za,#[ZU,#[Za,‹6›,#[Ze]]],#[Ze]]]]]]]],?_⟩
 have hnn:∀v∈ns,0≤v:=fun v hv=>(hns v hv).1
 refine⟨_,rfl,_,rfl,_,_,rfl,rfl,rfl,_,rfl,Za4 (fun d0=>?_) (fun d0=>?_)⟩
 ·have d':=V.int.inj (of_decide_eq_true d0)
  have ee:e=b+1:=by omega
  subst ee
  refine⟨_,rfl,(by show 1≤sizeLine;decide),fun t1 ht1=>⟨(by show 2≤sizeLine;decide),fun r hr0=>?_⟩⟩
  have s2:=Zi hr0 (.tup [.int 0,.ref t1])
  exact q r 0 [.leaf (b:Int)] _ ⟨r,t1,_,rfl,Zc,s2 _ _ Zc,.cons (.leaf _) .nil⟩ (ZnH hnn wy b 1 (Qh 1)) ((Zi ht1 _).trans s2)
 ·have hne:¬ e=b+1:=fun z=>d0 (decide_eq_true (show V.int ((e:Int)-(b:Int))=V.int 1 from by rw[show ((e:Int)-(b:Int))=1 by omega]))
  refine⟨_,rfl,_,rfl,_,rfl,_,rfl,d,kvs,b,e,wy,rfl,hd,by omega,by omega,w2,Qh _,hall,fun r p ts H1 hC hG s1=>?_⟩
  obtain⟨r',t,xs,er,h1,h2,h3⟩:=hC
  cases er
  refine⟨r,_,rfl,SqT.of h1,rfl,_,_,rfl,_,_,rfl,rfl,?_⟩
  refine⟨_,rfl,_,rfl,_,rfl,_,rfl,_,rfl,_,rfl,a,_,rfl,s1.seq hS,fun sl hsl=>?_⟩
  rw[Zlz (ns.map V.int) b e (by rw[Qa];omega) (by rw[Qa];exact hen),← List.map_drop,← QaN]
  have s2:=Zi hsl (.lst (((ns.drop b).take (e-b)).map V.int))
  have f2:(upd H1 sl (.lst (((ns.drop b).take (e-b)).map V.int))) sl=some (.lst (((ns.drop b).take (e-b)).map V.int)):=Zc
  generalize upd H1 sl (.lst (((ns.drop b).take (e-b)).map V.int))=H2 at s2 f2 ⊢
  refine⟨sl,(ns.drop b).take (e-b),rfl,SqL.of f2,by rw[QA,QV];omega,fun v hv=>?_,_,_,rfl,rfl,_,rfl,(by show 1≤sizeLine;decide),fun t2 ht2=>⟨(by show 2≤sizeLine;decide),fun r2 hr2=>?_⟩⟩
  ·have:=hns v (Qaj (Q8 hv))
   omega
  have s3:=Zi ht2 (.tup [.ref t])
  have s4:=Zi hr2 (.tup [.int (p+((ns.drop b).take (e-b)).sum),.ref t2])
  have s14:=(s2.trans s3).trans s4
  exact q r2 (p+seg ns b e) [.node ts] _ ⟨r2,t2,_,rfl,Zc,s4 _ _ Zc,.cons (.node (s14 _ _ h2) (h3.mono fun a xs e=>s14 _ _ e)) .nil⟩ (ZnS hG (by omega) hen) (s1.trans s14)
def ZjF(ns:List Int)(wy:Nat):Sp:=fun vs H Q _=>∃ (d al:Addr) (kvs:List (List Key×V)) (b e m:Nat) (p:Int) (ts:List PT),vs=[.ref d,.ref al,.int b,.int e,.int m]∧H d=some (.dT kvs)∧b<e∧e≤60∧1≤m∧m<wy∧Zgc H (.ref al) p ts∧Gr ns wy b e 1 p ts∧(∀k,b<k→k<e→Has ns wy H kvs b k∧Has ns wy H kvs k e) ∧
 ∀ (r:Addr) (p:Int) (ts:List PT) (H':Hp),Zgc H' (.ref r) p ts→Gr ns wy b e m p ts→Zu H H'→Q (.ref r) H'
theorem ZmO(T:Zaj K mg cRow cMerge)(ns:List Int)(wy:Nat)(f_least_cut:Df P w K mg base 1 "least_cut" ["groves", "begin", "end", "most"] (ZlA ns wy)):Df P w K mg base 2 "least_grove" ["groves", "alone", "begin", "end", "most"] (ZjF ns wy):=by
 refine T.t_least_grove.df Zdb (fun vs H Q E h=>?_) (fun cdv f A outer s H vs Q E hr h=>?_)
 ·obtain⟨d,al,kvs,b,e,m,p,ts,rfl,_⟩:=h
  rfl
 obtain⟨d,al,kvs,b,e,m,p,ts,rfl,hd,hbe,he12,m1,mw,hC,hG,hall,q⟩:=h
 refine⟨_,#[Zf,#[Zae,(@PW.pt _ _ _ (@ZlO _ _ _ _ _ _ _ #[Zn,Zbn,#[ZG,ZcT,‹3›,‹2›],#[Zh],(Zt _)] (@ZiQ _ _ _ _ #[Zn,Zbn,‹4›,#[Zh],(Zt _)]))),#[Zj,#[Zp,‹1›]],#[ZF]],#[Zf,#[Zw,5,Zdb.nd,(Or.inl rfl),#[ZA,f_least_cut,hr,#[Za,‹0›,#[Za,‹2›,#[Za,‹3›,#[Za,‹4›,#[Ze]]]]],(by rfl)]],#[Zj,#[Zp,#[Zbb,#[Zn,ZdU,#[Zz,(ixT K),‹5›,#[Zh]],#[Zz,(ixT K),‹1›,#[Zh]],(Zt _)],‹5›,‹1›]]]]],?_⟩
 refine⟨_,rfl,_,rfl,_,_,rfl,rfl,rfl,_,rfl,Za4 (fun d0=>ZkL ⟨_,rfl,?_⟩) (fun d0=>⟨_,rfl,rfl,_,rfl,Za4 (fun d1=>⟨_,rfl,?_⟩) (fun d1=>?_)⟩)⟩
 ·have d':=V.int.inj (of_decide_eq_true d0)
  have ee:e=b+1:=by omega
  subst ee
  exact q al p ts H hC (Zpc hG m1) (Zu.refl H)
 ·have d':=V.int.inj (of_decide_eq_true d1)
  have em:m=1:=by omega
  subst em
  exact q al p ts H hC hG (Zu.refl H)
 ·have hne:¬ e=b+1:=fun z=>d0 (decide_eq_true (show V.int ((e:Int)-(b:Int))=V.int 1 from by rw[show ((e:Int)-(b:Int))=1 by omega]))
  have hm1:¬ m=1:=fun z=>d1 (decide_eq_true (by rw[z];rfl))
  refine⟨_,rfl,_,rfl,_,rfl,_,rfl,d,kvs,b,e,m,rfl,hd,by omega,he12,by omega,by omega,hall,fun r p2 ts2 H1 hC2 hG2 s1=>?_⟩
  obtain⟨g1,g2⟩:=Znt m1 hG hG2
  obtain⟨r',t,xs,er,h1,h2,h3⟩:=id hC2
  cases er
  obtain⟨al',t',xs',ea,k1,k2,k3⟩:=id hC
  cases ea
  refine⟨_,rfl,r,_,_,_,rfl,rfl,SqT.of h1,rfl,_,rfl,al,_,_,_,rfl,rfl,SqT.of (s1 _ _ k1),rfl,_,_,rfl,rfl,_,rfl,Za4 (fun d2=>⟨_,rfl,?_⟩) (fun d2=>⟨_,rfl,?_⟩)⟩
  ·exact q r p2 ts2 H1 hC2 (g1 (of_decide_eq_true d2)) s1
  ·exact q al p ts H1 (hC.mono fun a xs e=>s1 _ _ e) (g2 fun z=>d2 (decide_eq_true z)) s1
theorem Zj6{H:Hp}{d:Addr}{kvs:List (List Key×V)}(h:H d=some (.dT kvs))(o:HO):∀a xs,H a=some (.tup xs)→(upd H d o) a=some (.tup xs):=fun a xs e=>by
 rw[Zd (Zjo e h (fun z=>nomatch z))];exact e
structure St (ns:List Int) (wy:Nat) (H0 H:Hp) (d:Addr) (kvs:List (List Key×V)) (i j:Nat):Prop where
 hd:H d=some (.dT kvs)
 has:∀b e,b<e→e≤ns.length→(e-b≤i∨(e-b=i+1∧b<j))→Has ns wy H kvs b e
 only:∀b e m,Zbi kvs (Kb b e m)≠none→e-b≤i∨(e-b=i+1∧b<j)
 len:kvs.length≤360*i+6*j
 sm:Zu H0 H
 d0:H0 d=none
def Zit(K:PySem.W.Frag)(ns:List Int)(wy:Nat):Sp:=fun vs H Q _=>∃ (a:Addr),vs=[.ref a,.int wy]∧SqL K H a (ns.map V.int)∧1≤ns.length∧ns.length≤60∧(∀v∈ns,0≤v∧v≤1000000000)∧2≤wy∧wy≤6 ∧
 ∀ (d:Addr) (kvs:List (List Key×V)) (H':Hp),H' d=some (.dT kvs)→(∀b e,b<e→e≤ns.length→Has ns wy H' kvs b e)→Zu H H'→Q (.ref d) H'
theorem Zkw(T:Zaj K mg cRow cMerge)(ns:List Int)(wy:Nat)(f_least_tree:Df P w K mg base 2 "least_tree" ["groves", "sizes", "ways", "begin", "end"] (ZjO K ns wy))(f_least_grove:Df P w K mg base 2 "least_grove" ["groves", "alone", "begin", "end", "most"] (ZjF ns wy)):Df P w K mg base 3 "least_groves" ["sizes", "ways"] (Zit K ns wy):=by
 refine T.t_least_groves.df Zac (fun vs H Q E h=>?_) (fun cdv f A outer s H vs Q E hr h=>?_)
 ·obtain⟨a,rfl,_⟩:=h
  rfl
 obtain⟨a,rfl,hS,n1,n12,hns,w2,w6,q⟩:=h
 refine⟨_,#[Zf,#[Zw,2,Zac.nd,(Or.inl rfl),(@Zhe _ _)],#[Zf,#[Zb8,PassesOwn.never,#[ZdP,T.b.n_range,#[Za,#[Zh],#[Za,#[ZG,Zal,#[Zk,(ZbH K),(by rfl),T.b.n_len,Qu,#[Za,‹0›,#[Ze]]],#[Zh]],#[Ze]]]],#[Zx,3,Zac.nd],#[Zj,#[Zb8,PassesOwn.never,#[ZbX,T.b.n_range,#[Za,#[ZG,Zal,#[ZG,ZcT,#[Zk,(ZbH K),(by rfl),T.b.n_len,Qu,#[Za,‹0›,#[Ze]]],‹3›],#[Zh]],#[Ze]]],#[Zx,4,Zac.nd],#[Zf,#[Zw,5,Zac.nd,(Or.inl rfl),#[ZG,Zal,‹4›,‹3›]],#[Zf,#[Zw,6,Zac.nd,(Or.inl rfl),#[ZA,f_least_tree,hr,#[Za,‹2›,#[Za,‹0›,#[Za,‹1›,#[Za,‹4›,#[Za,‹5›,#[Ze]]]]]],(by rfl)]],#[Zj,#[Zb8,PassesOwn.never,#[ZdP,T.b.n_range,#[Za,#[Zh],#[Za,‹1›,#[Ze]]]],#[Zx,7,Zac.nd],#[Zj,#[ZaT,#[ZA,f_least_grove,hr,#[Za,‹2›,#[Za,‹6›,#[Za,‹4›,#[Za,‹5›,#[Za,‹7›,#[Ze]]]]]],(by rfl)],#[Zdl,‹2›,#[ZU,#[Za,‹4›,#[Za,‹5›,#[Za,‹7›,#[Ze]]]]],(Zrq hr)]]]]]]]]]],#[Zj,#[Zp,‹2›]]]],?_⟩
 have hl:(((ns.map V.int).length:Nat):Int)=(ns.length:Int):=by rw[Qa]
 refine fun d hd0=>?_
 have st0:St ns wy H (upd H d (.dT [])) d [] 0 0:=⟨Zc,fun b e h1 h2 h3=>by omega,fun b e m h=>absurd rfl h,Qv _,Zi hd0 _,hd0⟩
 generalize upd H d (.dT [])=H1 at st0 ⊢
 refine⟨_,rfl,a,_,rfl,.inl (st0.sm.seq hS),_,_,rfl,rfl,_,_,rfl,⟨by omega,by omega,by omega,by omega⟩,?_⟩
 rw[show ((((ns.map V.int).length:Nat):Int)+1-1).toNat=ns.length by omega]
 refine ZbW (fun i σ H2=>∃ (kvs:List (List Key×V)) (v3 v4 v5 v6 v7:Option V),σ=[some (.ref a),some (.int wy),some (.ref d),v3,v4,v5,v6,v7]∧St ns wy H H2 d kvs i 0) ⟨[],_,_,_,_,_,rfl,st0⟩ ?_ ?_
 ·rintro i σ H2 hi ⟨kvs,v3,v4,v5,v6,v7,rfl,st2⟩
  rw[show ((1:Int)+(i:Int))=((1+i:Nat):Int) by omega]
  refine⟨_,rfl,a,_,rfl,.inl (st2.sm.seq hS),_,rfl,_,_,rfl,rfl,_,_,rfl,rfl,_,rfl,by omega,by omega,?_⟩
  rw[show ((((ns.map V.int).length:Nat):Int)-((1+i:Nat):Int)+1).toNat=ns.length-i by omega]
  refine ZbW (fun j σ H3=>∃ (kvs:List (List Key×V)) (v4 v5 v6 v7:Option V),σ=[some (.ref a),some (.int wy),some (.ref d),some (.int ((1+i:Nat):Int)),v4,v5,v6,v7]∧St ns wy H H3 d kvs i j) ⟨kvs,_,_,_,_,rfl,st2⟩ ?_ ?_
  ·rintro j σ H3 hj ⟨kvs,v4,v5,v6,v7,rfl,st3⟩
   rw[show ((0:Int)+(j:Int))=(j:Int) by omega]
   refine⟨_,rfl,_,rfl,_,_,rfl,rfl,?_⟩
   simp only[show ((j:Int)+((1+i:Nat):Int))=((j+1+i:Nat):Int) by omega]
   have fam:∀k,j<k→k<j+1+i→Has ns wy H3 kvs j k∧Has ns wy H3 kvs k (j+1+i):=fun k h1 h2=>⟨st3.has j k h1 (by omega) (.inl (by omega)),st3.has k (j+1+i) h2 (by omega) (.inl (by omega))⟩
   refine⟨_,rfl,_,rfl,_,rfl,_,rfl,_,rfl,d,a,kvs,j,j+1+i,rfl,st3.hd,st3.sm.seq hS,by omega,by omega,n12,hns,w2,fam,fun al p ts H4 hC hG s4=>?_⟩
   refine⟨_,rfl,_,_,rfl,⟨by omega,by omega,by omega,by omega⟩,?_⟩
   rw[show ((wy:Int)-1).toNat=wy-1 by omega]
   refine ZbW (fun l σ H5=>∃ (kvs:List (List Key×V)) (v7:Option V),σ=[some (.ref a),some (.int wy),some (.ref d),some (.int ((1+i:Nat):Int)),some (.int (j:Int)),some (.int ((j+1+i:Nat):Int)),some (.ref al),v7]∧H5 d=some (.dT kvs)∧(∀b e,b<e→e≤ns.length→(e-b≤i∨(e-b=i+1∧b<j))→Has ns wy H5 kvs b e)∧(∀m,1≤m→m≤l→∃v p ts,Zbi kvs (Kb j (j+1+i) m)=some v∧Zgc H5 v p ts∧Gr ns wy j (j+1+i) m p ts)∧(∀b e m,Zbi kvs (Kb b e m)≠none→(e-b≤i∨(e-b=i+1∧b<j))∨(b=j∧e=j+1+i∧m≤l))∧kvs.length≤360*i+6*j+l∧Zu H H5∧Zgc H5 (.ref al) p ts)
    ⟨kvs,_,rfl,s4 _ _ st3.hd,fun b e h1 h2 h3=>(st3.has b e h1 h2 h3).mono fun a xs e=>s4 _ _ e,fun m h1 h2=>by omega,fun b e m h=>.inl (st3.only b e m h),by have:=st3.len;omega,st3.sm.trans s4,hC⟩ ?_ ?_
   ·rintro l σ H5 hll ⟨kvs5,v7',rfl,hd5,has5,cur5,only5,len5,s5,hC5⟩
    rw[show ((1:Int)+(l:Int))=((1+l:Nat):Int) by omega]
    have fam5:∀k,j<k→k<j+1+i→Has ns wy H5 kvs5 j k∧Has ns wy H5 kvs5 k (j+1+i):=fun k h1 h2=>⟨has5 j k h1 (by omega) (.inl (by omega)),has5 k (j+1+i) h2 (by omega) (.inl (by omega))⟩
    refine⟨_,rfl,_,rfl,_,rfl,_,rfl,_,rfl,d,al,kvs5,j,j+1+i,1+l,p,ts,rfl,hd5,by omega,by omega,by omega,by omega,hC5,hG,fam5,fun r p6 ts6 H6 hC6 hG6 s6=>?_⟩
    have hd6:=s6 _ _ hd5
    refine⟨_,rfl,_,rfl,_,rfl,_,rfl,(by show 3≤sizeLine;decide),fun k1 hk1=>?_⟩
    have s7:=Zi hk1 (.tup ((Kb j (j+1+i) (1+l)).map kV))
    have f7:(upd H6 k1 (.tup ((Kb j (j+1+i) (1+l)).map kV))) k1=some (.tup ((Kb j (j+1+i) (1+l)).map kV)):=Zc
    change ZiS _ _ _ (upd H6 k1 (.tup ((Kb j (j+1+i) (1+l)).map kV))) _
    generalize upd H6 k1 (.tup ((Kb j (j+1+i) (1+l)).map kV))=H7 at s7 f7 ⊢
    have hd7:=s7 _ _ hd6
    have hnone:Zbi kvs5 (Kb j (j+1+i) (1+l))=none:=by
     cases hx:Zbi kvs5 (Kb j (j+1+i) (1+l)) with
     | none=>rfl
     | some v =>
      rcases only5 j (j+1+i) (1+l) (by rw[hx];simp) with h|h<;>omega
    have s57:=s6.trans s7
    have keepT:∀a xs,H5 a=some (.tup xs)→(upd H7 d (.dT (kvs5++[(Kb j (j+1+i) (1+l),.ref r)]))) a=some (.tup xs):=fun a xs e=>Zj6 hd7 _ _ _ (s57 _ _ e)
    have keepT6:∀a xs,H6 a=some (.tup xs)→(upd H7 d (.dT (kvs5++[(Kb j (j+1+i) (1+l),.ref r)]))) a=some (.tup xs):=fun a xs e=>Zj6 hd7 _ _ _ (s7 _ _ e)
    have old:∀k v,Zbi kvs5 k=some v→Zbi (kvs5++[(Kb j (j+1+i) (1+l),V.ref r)]) k=some v:=fun k v h=>by rw[Zew,h];rfl
    refine⟨d,kvs5,k1,Kb j (j+1+i) (1+l),rfl,rfl,hd7,f7,hnone,(by rw[sizeLine_eq];omega),?_⟩
    refine⟨_,_,rfl,Zc,fun b e h1 h2 h3 m m1 m2=>?_,fun m m1 m2=>?_,fun b e m h=>?_,by rw[Qf,Qm];omega,fun b o hb=>?_,hC5.mono keepT⟩
    ·obtain⟨v,p',ts',x1,x2,x3⟩:=has5 b e h1 h2 h3 m m1 m2
     exact⟨v,p',ts',old _ _ x1,x2.mono keepT,x3⟩
    ·by_cases hm:m≤l
     ·obtain⟨v,p',ts',x1,x2,x3⟩:=cur5 m m1 hm
      exact⟨v,p',ts',old _ _ x1,x2.mono keepT,x3⟩
     ·have em:m=1+l:=by omega
      subst em
      exact⟨.ref r,p6,ts6,by rw[Zew,hnone,if_pos rfl];rfl,hC6.mono keepT6,hG6⟩
    ·rw[Zew]at h
     by_cases hk:Kb j (j+1+i) (1+l)=Kb b e m
     ·obtain⟨x1,x2,x3⟩:=Zp3 hk
      exact .inr ⟨x1.symm,x2.symm,by omega⟩
     ·rw[if_neg hk]at h
      rcases only5 b e m (fun z=>h (by rw[z];rfl)) with h|h
      ·exact .inl h
      ·exact .inr ⟨h.1,h.2.1,by omega⟩
    ·rw[Zd (Zb hb st2.d0)];exact s57 _ _ (s5 b o hb)
   ·rintro σ H5 ⟨kvs5,v7',rfl,hd5,has5,cur5,only5,len5,s5,hC5⟩
    refine⟨kvs5,_,_,_,_,rfl,hd5,fun b e h1 h2 h3=>?_,fun b e m h=>?_,by omega,s5,st2.d0⟩
    ·by_cases hb:e-b≤i∨(e-b=i+1∧b<j)
     ·exact has5 b e h1 h2 hb
     ·have eb:b=j:=by omega
      have ee:e=j+1+i:=by omega
      subst eb ee
      exact fun m m1 m2=>cur5 m m1 (by omega)
    ·rcases only5 b e m h with h|h
     ·rcases h with h|h
      ·exact .inl h
      ·exact .inr ⟨h.1,by omega⟩
     ·exact .inr ⟨by omega,by omega⟩
  ·rintro σ H3 ⟨kvs,v4,v5,v6,v7,rfl,st3⟩
   refine⟨kvs,_,_,_,_,_,rfl,st3.hd,fun b e h1 h2 h3=>st3.has b e h1 h2 (by omega),fun b e m h=>?_,by have:=st3.len;omega,st3.sm,st3.d0⟩
   have:=st3.only b e m h
   omega
 ·rintro σ H2 ⟨kvs,v3,v4,v5,v6,v7,rfl,st2⟩
  exact⟨_,rfl,q d kvs H2 st2.hd (fun b e h1 h2=>st2.has b e h1 h2 (.inl (by omega))) st2.sm⟩
def Zlk(K:PySem.W.Frag):Sp:=fun vs H Q _=>∃ (a:Addr) (ns:List Int) (wy:Nat),vs=[.ref a,.int wy]∧SqL K H a (ns.map V.int)∧1≤ns.length∧ns.length≤60∧(∀v∈ns,0≤v∧v≤1000000000)∧2≤wy∧wy≤6 ∧
 ∀ (r:Addr) (x:V) (p:Int) (t:PT) (H':Hp),H r=none→H' r=some (.tup [.int p,x])→TV H' x t→Gr ns wy 0 ns.length 1 p [t]→Zu H H'→Q (.ref r) H'
theorem Zn8(T:Zaj K mg cRow cMerge)(f_least_groves':∀ns wy,Df P w K mg base 3 "least_groves" ["sizes", "ways"] (Zit K ns wy)):Df P w K mg base 4 "near_plan" ["sizes", "ways"] (Zlk K):=by
 refine T.t_near_plan.df ZcQ (fun vs H Q E h=>?_) (fun cdv f A outer s H vs Q E hr h=>?_)
 ·obtain⟨a,ns,wy,rfl,_⟩:=h
  rfl
 obtain⟨a,ns,wy,rfl,hS,n1,n12,hns,w2,w6,q⟩:=h
 have f_least_groves:=f_least_groves' ns wy
 refine⟨_,#[Zf,#[ZaT,#[Zz,(ixD hr),#[ZA,f_least_groves,hr,#[Za,‹0›,#[Za,‹1›,#[Ze]]],(by rfl)],#[ZU,#[Za,#[Zh],#[Za,#[Zk,(ZbH K),(by rfl),T.b.n_len,Qu,#[Za,‹0›,#[Ze]]],#[Za,#[Zh],#[Ze]]]]]],#[gT,K,2,#[Zv,#[Zx,2,ZcQ.nd],#[Zv,#[Zx,3,ZcQ.nd],(@ZaL _)]]]],#[Zj,#[Zp,#[ZU,#[Za,‹2›,#[Za,#[Zz,(ixT K),‹3›,#[Zh]],#[Ze]]]]]]],?_⟩
 have hl:(((ns.map V.int).length:Nat):Int)=(ns.length:Int):=by rw[Qa]
 refine⟨_,rfl,_,rfl,a,rfl,hS,n1,n12,hns,w2,w6,fun d kvs H1 hd hall s1=>?_⟩
 refine⟨_,rfl,a,_,rfl,.inl (s1.seq hS),(by show 3≤sizeLine;decide),fun k1 hk1=>?_⟩
 obtain⟨v,p,ts,hlk,⟨c,t,xs,rfl,hc,ht,tv⟩,hG⟩:=hall 0 ns.length (by omega) (Qh _) 1 (by omega) (by omega)
 have s2:=Zi hk1 (.tup ((Kb 0 ns.length 1).map kV))
 have f2:(upd H1 k1 (.tup ((Kb 0 ns.length 1).map kV))) k1=some (.tup ((Kb 0 ns.length 1).map kV)):=Zc
 rw[hl]
 change Zg2 _ _ (upd H1 k1 (.tup ((Kb 0 ns.length 1).map kV))) _
 generalize upd H1 k1 (.tup ((Kb 0 ns.length 1).map kV))=H2 at s2 f2 ⊢
 refine⟨d,kvs,k1,Kb 0 ns.length 1,_,rfl,rfl,s2 _ _ hd,f2,hlk,c,_,rfl,SqT.of (s2 _ _ hc),rfl,_,_,rfl,_,_,rfl,rfl,?_⟩
 have g1:=hG.l1
 have g2:=hG.lm
 have s12:=s1.trans s2
 cases tv with
 | nil=>simp at g1
 | @cons x u xs us hx hxs =>
  have:us=[]:=QX (by simp at g2;rw[g2];rfl)
  subst this
  refine⟨_,rfl,_,rfl,t,_,_,_,rfl,rfl,SqT.of (s2 _ _ ht),(Z6 (j:=0) rfl),(by show 2≤sizeLine;decide),fun r hr0=>?_⟩
  have s3:=Zi hr0 (.tup [.int p,x])
  exact q r x p u _ (s12.free hr0) Zc (hx.mono fun a xs e=>s3 _ _ (s2 _ _ e)) hG (s12.trans s3)
def spSC(K:PySem.W.Frag)(n:Nat):Sp:=fun vs H Q _=>∃ (a:Addr) (ns:List Int) (x:V) (t:PT),vs=[.ref a,x]∧SqL K H a (ns.map V.int)∧TV H x t∧tOk ns.length t∧tDp t<n ∧
 ∀ (r:Addr) (H':Hp),H' r=some (.tup [.int (tSz ns t),.int (tCo ns t)])→Zu H H'→Q (.ref r) H'
theorem Zla{H H':Hp}(s:Zu H H'):∀a xs,H a=some (.tup xs)→H' a=some (.tup xs):=fun a xs h=>s a _ h
def spCostOf(K:PySem.W.Frag)(n:Nat):Sp:=fun vs H Q _=>∃ (a:Addr) (ns:List Int) (x:V) (t:PT),vs=[.ref a,x]∧SqL K H a (ns.map V.int)∧TV H x t∧tOk ns.length t∧tDp t<n∧∀H',Zu H H'→Q (.int (tCo ns t)) H'
def ZfK(P:List ZI):List Str:=P.flatMap fun x=>x.2.1.drop x.2.2
theorem ZjI{ss:List Str}{g:Nat}{z:Str}(h:ss[g]? = some z):ss.drop g=z::ss.drop (g+1):=by
 obtain⟨hlt,e⟩:=Qd.mp h
 rw[List.drop_eq_getElem_cons hlt,e]
theorem Ziq:∀ (P:List ZI),(ZaB P).Nodup→∀ {x:ZI} {z:Str},x∈P→x.2.1[x.2.2]? = some z→(z::ZfK (Zbl P x.1)).Perm (ZfK P)
 | [],_,_,_,h,_=>by cases h
 | y::P,nd,x,z,h,hz=>by
  unfold ZaB at nd
  rw[Qn,QZ]at nd
  unfold ZfK Zbl
  rw[Qn,QaI,QaI]
  rcases QG.mp h with rfl|h
  ·have e:P.map (Zai x.1)=P:=by
    conv=>rhs;rw[← List.map_id P]
    refine QH fun u hu=>?_
    unfold Zai
    rw[if_neg (fun z:u.1=x.1=>nd.1 (z ▸ Qo (f:=fun x:ZI=>x.1) hu))]
    rfl
   rw[e,ZjI hz]
   unfold Zai
   rw[if_pos rfl]
   exact Qam _
  ·have ih:=Ziq P nd.2 h hz
   unfold ZfK Zbl at ih
   have e:Zai x.1 y=y:=if_neg (fun z:y.1=x.1=>nd.1 (z ▸ Qo (f:=fun x:ZI=>x.1) h))
   rw[e]
   exact List.perm_middle.symm.trans (ih.append_left _)
theorem Zja{a b:Str}(h:ZE (cds a) (cds b)≤0):LeS a b:=fun z=>by
 have z':cds b<cds a:=z
 have:=(ZbQ _ _).mp z'
 have:=ZaD (cds a) (cds b)
 omega
theorem LeS.refl(a:Str):LeS a a:=Zja (by rw[Zcu];exact QaE _)
theorem LeS.anti{a b:Str}(h:LeS a b)(k:LeS b a):a=b:=by
 have h1:¬ ZE (cds b) (cds a)<0:=fun z=>h ((ZbQ _ _).mpr z)
 have h2:¬ ZE (cds a) (cds b)<0:=fun z=>k ((ZbQ _ _).mpr z)
 have:=ZaD (cds a) (cds b)
 have e:cds a=cds b:=Zcn _ _ (by omega)
 obtain⟨⟨a⟩⟩:=a
 obtain⟨⟨b⟩⟩:=b
 have e':a=b:=e
 rw[e']
def Zia(P:List ZI):Prop:=∀x∈P,sortedS x.2.1=true
theorem Zia.bump{P:List ZI}(h:Zia P)(n:Int):Zia (Zbl P n):=fun x hx=>by
 obtain⟨y,hy,rfl⟩:=Qx.mp hx
 unfold Zai
 split
 ·exact h y hy
 ·exact h y hy
theorem ZjU{P:List ZI}(h:ZaW P=0):ZfK P=[]:=by
 have e:(ZfK P).length=ZaW P:=by
  unfold ZfK ZaW
  rw[List.length_flatMap]
  congr 1
  refine QH fun x _=>?_
  rw[QV]
 exact QX (e.trans h)
def ZgC(P:List ZI)(x:ZI)(z:Str):Prop:=x∈P∧x.2.1[x.2.2]? = some z∧Win (hdP P) (ZaB P) (some x.1)
inductive TkW (P:List ZI):List Zaq→List ZI→Prop
 | nil:TkW P [] P
 | snoc {ts:List Zaq} {P1:List ZI} {x:ZI} {z:Str}:TkW P ts P1→ZgC P1 x z→TkW P (ts++[(x.1,x.2.2,z)]) (Zbl P1 x.1)
theorem Zcs.tk{P P':List ZI}{ts:List Zaq}{k q:Int}(h:Zcs P ts P' k q):TkW P ts P':=by
 induction h with
 | nil=>exact .nil
 | snoc h s ih=>exact .snoc ih ⟨s.1,s.2.1,s.2.2.1⟩
theorem ZgC.one{P:List ZI}(nd:(ZaB P).Nodup){x y:ZI}{z u:Str}(h:ZgC P x z)(g:ZgC P y u):x=y∧z=u:=by
 obtain⟨h1,h2,h3⟩:=h
 obtain⟨g1,g2,g3⟩:=g
 have e1:=Qp (h3.one g3)
 have e2:=Zc2 nd h1 g1 e1
 subst e2
 exact⟨rfl,Qp (h2.symm.trans g2)⟩
theorem TkW.num{P P':List ZI}{ts:List Zaq}(h:TkW P ts P'):ZaB P'=ZaB P:=by
 induction h with
 | nil=>rfl
 | snoc _ _ ih=>rw[Zgt,ih]
theorem TkW.one{P:List ZI}(nd:(ZaB P).Nodup){ts:List Zaq}{P1:List ZI}(h:TkW P ts P1):∀ {us:List Zaq} {P2:List ZI},TkW P us P2→ts.length=us.length→ts=us∧P1=P2:=by
 induction h with
 | nil =>
  intro us P2 g hl
  cases g with
  | nil=>exact⟨rfl,rfl⟩
  | snoc _ _=>rw[Qf,Qm]at hl;exact absurd hl (by simp)
 | snoc h s ih =>
  intro us P2 g hl
  cases g with
  | nil=>rw[Qf,Qm]at hl;exact absurd hl (by simp)
  | snoc g' s' =>
   rw[Qf,Qf,Qm,Qm]at hl
   obtain⟨e1,e2⟩:=ih g' (by omega)
   subst e1
   subst e2
   obtain⟨f1,f2⟩:=s.one (by rw[h.num];exact nd) s'
   subst f1
   subst f2
   exact⟨rfl,rfl⟩
theorem TkW.left{P P':List ZI}{ts:List Zaq}(h:TkW P ts P')(nd:(ZaB P).Nodup):ZaW P'+ts.length=ZaW P:=by
 induction h with
 | nil=>rfl
 | snoc h s ih =>
  have:=ZdJ _ (by rw[h.num];exact nd) s.1 (Qd.mp s.2.1).1
  rw[Qf,Qm]
  omega
theorem TkW.row{P P':List ZI}{ts:List Zaq}(h:TkW P ts P'):∀x∈P',∃y∈P,y.1=x.1∧y.2.1=x.2.1:=by
 induction h with
 | nil=>exact fun x hx=>⟨x,hx,rfl,rfl⟩
 | snoc h s ih =>
  intro x hx
  obtain⟨u,hu,rfl⟩:=Qx.mp hx
  obtain⟨y,hy,e1,e2⟩:=ih u hu
  refine⟨y,hy,?_,?_⟩
  ·unfold Zai;split<;>exact e1
  ·unfold Zai;split<;>exact e2
theorem TkW.at{P P':List ZI}{ts:List Zaq}(h:TkW P ts P'):∀u∈ts,∃y∈P,y.1=u.1∧y.2.1[u.2.1]? = some u.2.2:=by
 induction h with
 | nil=>exact fun u hu=>by cases hu
 | snoc h s ih =>
  intro u hu
  rcases Qe.mp hu with hu|hu
  ·exact ih u hu
  ·rw[Qc.mp hu]
   obtain⟨y,hy,e1,e2⟩:=h.row _ s.1
   exact⟨y,hy,e1,by rw[e2];exact s.2.1⟩
theorem ZgC.le{P:List ZI}(nd:(ZaB P).Nodup)(srt:Zia P){x:ZI}{z:Str}(h:ZgC P x z):∀y∈ZfK P,LeS z y:=fun y hy=>by
 obtain⟨hx,hz,W⟩:=h
 obtain⟨_,zc,hzc,hall⟩:=W
 rw[ZfI nd hx,hz]at hzc
 have hzc':cds z=zc:=Qp hzc
 subst hzc'
 obtain⟨u,hu,hyu⟩:=List.mem_flatMap.mp hy
 cases hh:u.2.1[u.2.2]? with
 | none=>rw[List.drop_eq_nil_of_le (List.getElem?_eq_none_iff.mp hh)]at hyu;cases hyu
 | some hd =>
  have hle:LeS hd y:=by
   have p:(u.2.1.drop u.2.2).Pairwise LeS:=((Zec _).mp (srt u hu)).sublist (List.drop_sublist _ _)
   rw[ZjI hh]at p hyu
   rcases QG.mp hyu with rfl|hyu
   ·exact LeS.refl _
   ·exact(List.pairwise_cons.mp p).1 y hyu
  have hd':=ZfI nd hu
  rw[hh]at hd'
  rcases hall u.1 (Qo (f:=fun x:ZI=>x.1) hu) _ hd' with e|b
  ·have e2:=Zc2 nd hu hx e
   subst e2
   have:=Qp (hz.symm.trans hh)
   rw[this];exact hle
  ·refine(Zja ?_).trans hle
   rcases b with b|⟨b,_⟩<;>omega
theorem TkW.srt{P P':List ZI}{ts:List Zaq}(h:TkW P ts P')(nd:(ZaB P).Nodup)(srt:Zia P):Zia P'∧(ts.map (·.2.2)++ZfK P').Perm (ZfK P)∧(ts.map (·.2.2)).Pairwise LeS∧∀a∈ts.map (·.2.2),∀b∈ZfK P',LeS a b:=by
 induction h with
 | nil=>exact⟨srt,Qam _,List.Pairwise.nil,fun a ha=>by cases ha⟩
 | snoc h s ih =>
  obtain⟨i1,i2,i3,i4⟩:=ih
  have nd1:=nd
  rw[← h.num]at nd1
  have pm:=Ziq _ nd1 s.1 s.2.1
  have le:=s.le nd1 i1
  refine⟨i1.bump _,?_,?_,fun a ha b hb=>?_⟩
  ·rw[Qg,Q1]
   exact(pm.append_left _).trans i2
  ·rw[Qg]
   refine Qat.mpr ⟨i3,Qal _ _,fun a ha b hb=>?_⟩
   have eb:=Qc.mp hb
   rw[eb]
   exact i4 a ha _ (pm.mem_iff.mp (Q2 ..))
  ·have hb':=pm.mem_iff.mp (Qw _ hb)
   rw[Qg]at ha
   rcases Qe.mp ha with ha|ha
   ·exact i4 a ha b hb'
   ·rw[Qc.mp ha]
    exact le b hb'
def Zbr(ss:List Str)(d:List Int):List Str:=d.map fun n=>ss.getD n.toNat ""
def Zdd(R:List (List Str)):List ZI:=(Z0 0 R.length).zip (R.map fun x=>(x,0))
theorem ZqD(rs:List (Addr×List Str)):Zf7 rs=Zdd (rs.map (·.2)):=by
 unfold Zf7 Zdd
 rw[Qa,QC]
 rfl
theorem ZhR(R:List (List Str)):ZaB (Zdd R)=Z0 0 R.length:=by
 unfold ZaB Zdd
 rw[List.map_fst_zip]
 unfold Z0
 rw[Qa,Qa,Qar]
 exact Qh _
theorem ZcS(R:List (List Str)):(ZaB (Zdd R)).Nodup:=by
 rw[ZhR]
 exact(Zfo _).imp fun h=>by omega
theorem ZhL(R:List (List Str))(i:Nat):(Zdd R)[i]? = (R[i]?).map fun x=>((i:Int),(x,0)):=by
 unfold Zdd Z0
 rw[List.zip_eq_zipWith,List.getElem?_zipWith,Qk,Qk]
 by_cases h:i<R.length
 ·rw[Qb h,Qab h]
  simp
 ·rw[QD (by omega:R.length≤i)]
  simp
theorem Zdc{R:List (List Str)}{x:ZI}(h:x∈Zdd R):∃i:Nat,x.1=(i:Int)∧R[i]? = some x.2.1∧x.2.2=0:=by
 obtain⟨i,hi⟩:=Qau h
 rw[ZhL]at hi
 cases hR:R[i]? with
 | none=>rw[hR]at hi;cases hi
 | some d=>rw[hR]at hi;cases hi;exact⟨i,rfl,hR,rfl⟩
theorem ZgF(R:List (List Str)):ZaW (Zdd R)=(R.map List.length).sum:=by
 unfold ZaW Zdd
 have e:((Z0 0 R.length).zip (R.map fun x=>(x,0))).map (fun x:ZI=>x.2.1.length-x.2.2)=((((Z0 0 R.length).zip (R.map fun x=>(x,0))).map (·.2))).map (fun y:List Str×Nat=>y.1.length-y.2):=by rw[QC];rfl
 rw[e,List.map_snd_zip (by rw[Qa,ZaF];exact Qh _),QC]
 rfl
theorem ZhE{R:List (List Str)}(h:∀d∈R,sortedS d=true):Zia (Zdd R):=fun x hx=>by
 obtain⟨i,_,hi,_⟩:=Zdc hx
 exact h _ (Qr hi)
def Zag(R:List (List Int))(u:Zaq):Int:=(R.getD u.1.toNat []).getD u.2.1 0
def Put(ss:List Str)(R:List (List Int))(out:List Int):Prop:=∃ (ts:List Zaq) (P':List ZI),TkW (Zdd (R.map (Zbr ss))) ts P'∧ts.length=(R.map List.length).sum∧out=ts.map (Zag R)
theorem Put.one{ss:List Str}{R:List (List Int)}{a b:List Int}(h:Put ss R a)(g:Put ss R b):a=b:=by
 obtain⟨ts,P1,h1,h2,h3⟩:=h
 obtain⟨us,P2,g1,g2,g3⟩:=g
 have:=(h1.one (ZcS _) g1 (by rw[h2,g2])).1
 rw[h3,g3,this]
theorem Zfy(ss:List Str)(R:List (List Int)):((R.map (Zbr ss)).map List.length).sum=(R.map List.length).sum:=by
 rw[QC]
 congr 1
 refine QH fun d _=>?_
 show (Zbr ss d).length=d.length
 unfold Zbr
 rw[Qa]
theorem ZcZ{ss:List Str}{R:List (List Int)}{u:Zaq}{P':List ZI}{ts:List Zaq}(h:TkW (Zdd (R.map (Zbr ss))) ts P')(hu:u∈ts):∃d,R[u.1.toNat]? = some d∧0≤u.1∧d[u.2.1]? = some (Zag R u)∧ss.getD (Zag R u).toNat "" = u.2.2:=by
 obtain⟨y,hy,e1,e2⟩:=h.at u hu
 obtain⟨i,hi,hR,_⟩:=Zdc hy
 rw[Qk]at hR
 cases hd:R[i]? with
 | none=>rw[hd]at hR;cases hR
 | some d =>
  rw[hd]at hR
  have hR':=Qp hR
  rw[← hR']at e2
  unfold Zbr at e2
  rw[Qk]at e2
  cases hn:d[u.2.1]? with
  | none=>rw[hn]at e2;cases e2
  | some n =>
   rw[hn]at e2
   have e2':=Qp e2
   have eu:u.1.toNat=i:=by rw[← e1,hi];rfl
   have ep:Zag R u=n:=by
    unfold Zag
    rw[eu,Qi,Qi,hd]
    show (d[u.2.1]?).getD 0=n
    rw[hn];rfl
   exact⟨d,by rw[eu];exact hd,by rw[← e1,hi];omega,by rw[ep];exact hn,by rw[ep];exact e2'⟩
theorem Put.ok{ss:List Str}{R:List (List Int)}{out:List Int}(h:Put ss R out)(hs:∀d∈R,sortedS (Zbr ss d)=true):out.length=(R.map List.length).sum∧(∀n∈out,∃d∈R,n∈d)∧sortedS (Zbr ss out)=true:=by
 obtain⟨ts,P1,h1,h2,rfl⟩:=h
 refine⟨by rw[Qa];exact h2,fun n hn=>?_,?_⟩
 ·obtain⟨u,hu,rfl⟩:=Qx.mp hn
  obtain⟨d,hd,_,hg,_⟩:=ZcZ h1 hu
  exact⟨d,Qr hd,Qr hg⟩
 ·have e:Zbr ss (ts.map (Zag R))=ts.map (·.2.2):=by
   unfold Zbr
   rw[QC]
   refine QH fun u hu=>?_
   obtain⟨d,_,_,_,e⟩:=ZcZ h1 hu
   exact e
  rw[e]
  have hR:∀d∈R.map (Zbr ss),sortedS d=true:=fun d hd=>by
   obtain⟨x,hx,rfl⟩:=Qx.mp hd
   exact hs x hx
  exact(Zec _).mpr (h1.srt (ZcS _) (ZhE hR)).2.2.1
mutual
inductive Zc1 (ss:List Str) (R:List (List Int)):PT→List Int→Prop where
 | leaf {i:Int}:Zc1 ss R (.leaf i) (R.getD i.toNat [])
 | node {l:List PT} {os:List (List Int)} {out:List Int}:Zao ss R l os→Put ss os out→Zc1 ss R (.node l) out
inductive Zao (ss:List Str) (R:List (List Int)):List PT→List (List Int)→Prop where
 | nil:Zao ss R [] []
 | cons {t:PT} {o:List Int} {l:List PT} {os:List (List Int)}:Zc1 ss R t o→Zao ss R l os→Zao ss R (t::l) (o::os)
end
mutual
theorem Zc1.one{ss:List Str}{R:List (List Int)}:∀ {t:PT} {a b:List Int},Zc1 ss R t a→Zc1 ss R t b→a=b
 | _,_,_,.leaf,.leaf=>rfl
 | _,_,_,.node h p,.node g q=>by
  have:=Zao.one h g
  subst this
  exact p.one q
theorem Zao.one{ss:List Str}{R:List (List Int)}:∀ {l:List PT} {a b:List (List Int)},Zao ss R l a→Zao ss R l b→a=b
 | _,_,_,.nil,.nil=>rfl
 | _,_,_,.cons h hs,.cons g gs=>by rw[Zc1.one h g,Zao.one hs gs]
end
theorem Zao.app{ss:List Str}{R:List (List Int)}:∀ {l m:List PT} {a b:List (List Int)},Zao ss R l a→Zao ss R m b→Zao ss R (l++m) (a++b)
 | _,_,_,_,.nil,g=>g
 | _,_,_,_,.cons h hs,g=>.cons h (hs.app g)
def wtR(R:List (List Int))(lv:List Int):Nat:=(lv.map fun i=>(R.getD i.toNat []).length).sum
theorem Zhl(R:List (List Int))(a b:List Int):wtR R (a++b)=wtR R a+wtR R b:=by unfold wtR;rw[Qg,Qag]
def ZgY(ss:List Str)(d:List Int):Prop:=(∀n∈d,0≤n∧n<(ss.length:Int))∧sortedS (Zbr ss d)=true
theorem Zpf(ss:List Str):ZgY ss []:=⟨fun n h=>(by cases h),rfl⟩
theorem Zrb{ss:List Str}{R:List (List Int)}(h:∀d∈R,ZgY ss d)(i:Nat):ZgY ss (R.getD i []):=by
 rw[Qi]
 cases hx:R[i]? with
 | none=>exact Zpf ss
 | some d=>exact h d (Qr hx)
mutual
theorem Zc1.ok{ss:List Str}{R:List (List Int)}(hR:∀d∈R,ZgY ss d):∀ {t:PT} {o:List Int},Zc1 ss R t o→ZgY ss o∧o.length=wtR R (tLv t)
 | .leaf i,_,.leaf=>⟨Zrb hR _,by show _=((([i]:List Int).map fun i=>(R.getD i.toNat []).length).sum);simp⟩
 | .node l,o,.node h p=>by
  obtain⟨a,b⟩:=Zao.ok hR h
  obtain⟨p1,p2,p3⟩:=p.ok fun d hd=>(a d hd).2
  refine⟨⟨fun n hn=>?_,p3⟩,by rw[p1,b];rfl⟩
  obtain⟨d,hd,hnd⟩:=p2 n hn
  exact(a d hd).1 n hnd
theorem Zao.ok{ss:List Str}{R:List (List Int)}(hR:∀d∈R,ZgY ss d):∀ {l:List PT} {os:List (List Int)},Zao ss R l os→(∀d∈os,ZgY ss d)∧(os.map List.length).sum=wtR R (Zay l)
 | [],_,.nil=>⟨fun d h=>(by cases h),rfl⟩
 | t::l,_,.cons h hs=>by
  obtain⟨a,b⟩:=Zc1.ok hR h
  obtain⟨c,d⟩:=Zao.ok hR hs
  refine⟨fun x hx=>?_,?_⟩
  ·rcases QG.mp hx with rfl|hx
   ·exact a
   ·exact c x hx
  ·rw[Qn,QT,b,d]
   show _=wtR R (tLv t++Zay l)
   rw[Zhl]
end
theorem ZlW{K:PySem.W.Frag}{a:Addr}{xs:List V}{k:Nat}{D:Addr}{σ:L2.St}{H1:Hp}{g:TG}{te:TE}{Q:VK}(Pv:Nat→List V→L2.St→Hp→Prop)(h0:Pv 0 [] (σ++List.replicate k none) (upd H1 D (.lst [])))
  (hl:∀i ys σ H,Pv i ys σ H→SqT K H a xs)
  (hs:∀i x ys σ H,xs[i]? = some x→Pv i ys σ H→g x σ H fun σ4 H4=>te σ4 H4 fun y H6=>H6 D=some (.lst ys)∧ys.length<sizeLine∧Pv (i+1) (ys++[y]) σ4 (upd H6 D (.lst (ys++[y]))))
  (hd:∀ys σ H,Pv xs.length ys σ H→Q (.ref D) H):Zhs (Itt K a) D k σ H1 g ZiP te Q:=by
 refine⟨fun i m ys σ H=>m=xs.length-i∧i≤xs.length∧Pv i ys σ H,⟨xs.length,by simp,Qv _,h0⟩,?_⟩
 rintro i m ys σ H ⟨rfl,hi,p⟩
 have q1:=hl i ys σ H p
 by_cases hlt:i<xs.length
 ·refine .inr ⟨⟨xs,xs[i],q1,Qb hlt⟩,Pv (i+1),fun ys' σ' H' p'=>⟨xs.length-(i+1),by omega,rfl,hlt,p'⟩,fun x H' y=>?_⟩
  obtain⟨rfl,e⟩:=y
  simp only[ZiP,↓reduceIte]
  exact hs i x ys σ _ (e xs q1) p
 ·have e:i=xs.length:=by omega
  exact .inl ⟨⟨xs,q1,by omega⟩,hd ys σ H (e ▸ p)⟩
theorem Zjv{ls:List Addr}{k:Int}{l:Addr}(h0:0≤k)(h:ls[k.toNat]? = some l):atI (ls.map V.ref) k=some (.ref l):=by
 have ek:k=((k.toNat:Nat):Int):=by omega
 rw[ek]
 exact Z6 (by rw[Qk,h];rfl)
theorem Zao.len{ss:List Str}{R:List (List Int)}:∀ {l:List PT} {os:List (List Int)},Zao ss R l os→os.length=l.length
 | _,_,.nil=>rfl
 | _,_,.cons _ h=>by rw[QE,QE,h.len]
theorem Zjx{w:Nat}:∀ {l:List PT} {i:Nat} {t:PT},Zcl w l→l[i]? = some t→tPl w t
 | [],i,t,_,h=>by simp at h
 | u::r,0,t,hp,h=>by simp at h;rw[← h];exact hp.1
 | u::r,i+1,t,hp,h=>Zjx hp.2 (by simpa using h)
theorem ZgZ:∀ {R:List (List Int)} {i:Nat} {d:List Int},R[i]? = some d→d.length≤(R.map List.length).sum
 | [],i,d,h=>by simp at h
 | u::r,0,d,h=>by simp at h;rw[← h,Qn,QT];omega
 | u::r,i+1,d,h=>by
  have:=ZgZ (R:=r) (i:=i) (d:=d) (by simpa using h)
  rw[Qn,QT];omega
theorem ZoG(R:List (List Int)):∀ {l:List PT} {i:Nat} {t:PT},l[i]? = some t→wtR R (tLv t)≤wtR R (Zay l)
 | [],i,t,h=>by simp at h
 | u::r,0,t,h=>by
  simp at h
  rw[← h]
  show _≤wtR R (tLv u++Zay r)
  rw[Zhl];omega
 | u::r,i+1,t,h=>by
  have:=ZoG R (l:=r) (i:=i) (t:=t) (by simpa using h)
  show _≤wtR R (tLv u++Zay r)
  rw[Zhl];omega
structure Zkr (H:Hp) (a r:Addr) (ss:List Str) (ls:List Addr) (R:List (List Int)):Prop where
 th:H a=some (.lst (ss.map V.str))
 s60:ss.length≤60
 key:∀s∈ss,s.length≤1000∧AZ s
 ru:H r=some (.lst (ls.map V.ref))
 rd:Rd H ls R
 rg:∀d∈R,ZgY ss d
theorem Zkr.same{H H':Hp}{a r:Addr}{ss:List Str}{ls:List Addr}{R:List (List Int)}(h:Zkr H a r ss ls R)(s:Zu H H'):Zkr H' a r ss ls R:=⟨s _ _ h.th,h.s60,h.key,s _ _ h.ru,Rd.mono (fun _ _ o ho=>s _ _ ho) h.rd,h.rg⟩
def Zqo(n:Nat):Sp:=fun vs H Q _=>∃ (a r:Addr) (ss:List Str) (ls:List Addr) (R:List (List Int)) (x:V) (t:PT),vs=[.ref a,.ref r,x]∧Zkr H a r ss ls R∧TV H x t∧tOk R.length t∧tPl 60 t∧wtR R (tLv t)≤100∧tDp t<n ∧
 ∀ (b:Addr) (out:List Int) (H':Hp),H b=none→H' b=some (.lst (out.map V.int))→Zc1 ss R t out→Zu H H'→Q (.ref b) H'
theorem ZoS(T:Zaj K mg cRow cMerge)(f_is_number:Df P w K mg base 1 "is_number" ["thing"] ZjY)(f_merged:Df P w K mg base 16 "merged" ["rows"] Zis):∀n:Nat,Df P w K mg base (n+17) "merged_by" ["things", "runs", "tree"] (Zqo n)
 | 0=>by
  refine T.t_merged_by.df ZbS (fun vs H Q E h=>?_) (fun cdv f A outer s H vs Q E hr h=>?_)
  ·obtain⟨a,r,ss,ls,R,x,t,rfl,_⟩:=h
   rfl
  obtain⟨a,r,ss,ls,R,x,t,rfl,hI,hT,hok,hpl,hwt,hdp,q⟩:=h
  exact absurd hdp (by omega)
 | n+1=>by
  have f_merged_by:=ZoS T f_is_number f_merged n
  refine T.t_merged_by.df ZbS (fun vs H Q E h=>?_) (fun cdv f A outer s H vs Q E hr h=>?_)
  ·obtain⟨a,r,ss,ls,R,x,t,rfl,_⟩:=h
   rfl
  obtain⟨a,r,ss,ls,R,x,t,rfl,hI,hT,hok,hpl,hwt,hdp,q⟩:=h
  refine⟨_,#[Zf,#[Zae,(@Zjb _ _ _ #[ZA,f_is_number,hr,#[Za,‹2›,#[Ze]],(by rfl)] (by intro _;rfl)),#[Zj,#[Zp,#[ZbY,(ZoJ K),T.b.n_list,boot_list,#[Za,#[Zz,(ixL K),#[pv,1,(Or.inr (Or.inl rfl))],‹2›],#[Ze]]]]],#[ZF]],#[Zf,#[Zw,3,ZbS.nd,(Or.inr rfl),#[ZbU,Zkm,(@iT _ K _ _ _ ‹2› (by rfl)),(fun _ _ _ _=>#[cg,5,Zkm]),(fun _ _ _ _=>(@Zbg _)),(fun _ _ _ _=>#[ZA,f_merged_by,hr,#[Za,#[cv,0,Zkm],#[Za,#[cv,1,Zkm],#[Za,#[cw,5,Zkm],#[Ze]]]],(Zcx Zkm rfl (by ac_rfl))])]],#[Zf,#[Zd3,4,ZbS.nd,Zp1,#[iL,K,#[pv,3,(Or.inr (Or.inl rfl))]],(fun _ _ _ _=>#[cg,5,Zp1]),(fun _ _ _ _=>(@Zbg _)),(fun _ _ _ _=>#[ZbU,Zou,#[iL,K,#[cw,5,Zp1]],(fun _ _ _ _=>#[cg,6,Zou]),(fun _ _ _ _=>(@Zbg _)),(fun _ _ _ _=>#[Zz,(ixL K),#[cv,0,Zou],#[cw,6,Zou]])])],#[Zj,#[Zp,#[ZbU,Zke,#[iL,K,#[ZA,f_merged,hr,#[Za,‹4›,#[Ze]],(by rfl)]],(fun _ _ _ _=>#[gT,K,2,#[Zv,#[cg,5,Zke],#[Zv,#[cg,6,Zke],(@ZaL _)]]]),(fun _ _ _ _=>(@Zbg _)),(fun _ _ _ _=>#[Zz,(ixL K),#[Zz,(ixL K),#[cv,3,Zke],#[cw,5,Zke]],#[cw,6,Zke]])]]]]]],?_⟩
  have hR60:R.length=ls.length:=hI.rd.len.symm
  cases hT with
  | leaf k =>
   refine⟨_,rfl,.inl ⟨k,rfl,_,rfl,ZkL ?_⟩⟩
   have hk:0≤k∧k<(R.length:Nat):=hok
   obtain⟨l,hl⟩:∃l,ls[k.toNat]? = some l:=⟨_,Qb (by omega)⟩
   obtain⟨d,hd,hld⟩:=hI.rd.at hl
   refine⟨_,rfl,_,rfl,r,_,_,_,rfl,rfl,SqL.of hI.ru,Zjv hk.1 hl,l,_,rfl,.inl (SqL.of hld),fun b hb=>?_⟩
   refine q b d _ hb Zc ?_ (Zi hb _)
   have e:R.getD k.toNat []=d:=by rw[Qi,hd];rfl
   rw[← e]
   exact .leaf
  | node htp hTs =>
   rename_i tp xs l
   refine⟨_,rfl,.inr ⟨tp,xs,rfl,htp,_,rfl,Zdk ?_⟩⟩
   have hxl:=hTs.len
   have hl60:l.length≤60:=hpl.2.1
   have hpls:Zcl 60 l:=hpl.2.2
   have hoks:ZkI R.length l:=hok
   have hwts:wtR R (Zay l)≤100:=hwt
   have hdps:ZeS l<n:=by have:ZeS l+1<n+1:=hdp;omega
   refine⟨_,rfl,tp,rfl,⟨_,SqT.of htp⟩,fun D hD=>?_⟩
   refine ZlW (K:=K) (a:=tp) (xs:=xs) (fun i zs σ H2=>(∃v:Option V,σ=[some (.ref a),some (.ref r),some (.ref tp),none,none,v])∧(∃ (bs:List Addr) (os:List (List Int)),zs=bs.map V.ref∧Rd H2 bs os∧Zao ss R (l.take i) os∧D ∉ bs)∧i≤xs.length∧H2 D=some (.lst zs)∧Zu H H2) ?_ (fun _ _ _ _ h=>SqT.of (h.2.2.2.2 _ _ htp)) ?_ ?_
   ·exact⟨⟨none,rfl⟩,⟨[],[],rfl,True.intro,.nil,fun h=>by cases h⟩,Qv _,Zc,Zi hD _⟩
   ·rintro i x zs σ H2 hx ⟨⟨v,rfl⟩,⟨bs,os,rfl,hrd,hpt,hDb⟩,hi,hD2,s2⟩
    obtain⟨t,ht,hTV⟩:=hTs.at hx
    have hil:i<xs.length:=(Qd.mp hx).1
    have hbl:bs.length=i:=by rw[hrd.len,hpt.len,QA];omega
    refine⟨_,rfl,_,rfl,_,rfl,a,r,ss,ls,R,x,t,rfl,hI.same s2,hTV.mono (Zla s2),Zjw _ _ _ _ hoks ht,Zjx hpls ht,QM (ZoG R ht) hwts,Qan (Zjp _ _ _ ht) hdps,fun b out H3 hb0 hb hp s3=>?_⟩
    have hD3:=s3 _ _ hD2
    have nbD:b≠D:=fun z=>by rw[z,hD2]at hb0;cases hb0
    refine⟨hD3,(by rw[Qa,hbl,sizeLine_eq];omega),⟨_,rfl⟩,⟨bs++[b],os++[out],by rw[Qg];rfl,?_,?_,?_⟩,hil,Zc,fun c o hc=>?_⟩
    ·refine Rd.app (Rd.mono (fun c hc o ho=>?_) hrd) ⟨by rw[Zd nbD];exact hb,True.intro⟩
     rw[Zd (fun z:c=D=>hDb (by rw[← z];exact hc))];exact s3 _ _ ho
    ·rw[QK,ht]
     exact hpt.app (.cons hp .nil)
    ·intro h
     rcases Qe.mp h with h|h
     ·exact hDb h
     ·exact nbD (Qc.mp h).symm
    ·rw[Zd (Zb hc hD)];exact s3 _ _ (s2 c o hc)
   rintro zs σ H2 ⟨⟨v,rfl⟩,⟨bs,os,rfl,hrd,hpt,_⟩,_,hD2,s2⟩
   rw[Qz (by omega)]at hpt
   obtain⟨hro,hso⟩:=Zao.ok hI.rg hpt
   have hos:os.length=l.length:=hpt.len
   have hbo:=hrd.len
   refine⟨_,rfl,D,rfl,⟨_,SqL.of hD2⟩,fun D2 hD20=>?_⟩
   refine ZbA (K:=K) (a:=D) (xs:=bs.map V.ref) (fun i zs σ H3=>(∃v:Option V,σ=[some (.ref a),some (.ref r),some (.ref tp),some (.ref D),none,v])∧(∃rs:List (Addr×List Str),zs=(rs.map fun x=>V.ref x.1)∧rs.map (·.2)=(os.take i).map (Zbr ss)∧∀x∈rs,x.1≠D2∧H3 x.1=some (.lst (x.2.map V.str)))∧i≤bs.length∧H3 D2=some (.lst zs)∧Zu H2 H3) ?_ (fun _ _ _ _ h=>SqL.of (h.2.2.2.2 _ _ hD2)) ?_ ?_
   ·exact⟨⟨none,rfl⟩,⟨[],rfl,rfl,fun x h=>by cases h⟩,Qv _,Zc,Zi hD20 _⟩
   ·rintro i y zs σ H3 hy ⟨⟨v,rfl⟩,⟨rs,rfl,hrs,hrs3⟩,hi,hD3,s3⟩
    rw[Qk]at hy
    cases hb:bs[i]? with
    | none=>rw[hb]at hy;cases hy
    | some b =>
    rw[hb]at hy
    cases hy
    have hil:i<bs.length:=(Qd.mp hb).1
    obtain⟨d,hd,hbd⟩:=hrd.at hb
    have hrl:rs.length=i:=by
     have:=congrArg List.length hrs
     rw[Qa,Qa,QA]at this
     omega
    have hdr:=(hro d (Qr hd)).1
    have hdl:d.length≤100:=QM (ZgZ hd) (by rw[hso];exact hwts)
    have hb3:=s3 _ _ hbd
    refine⟨_,rfl,b,rfl,⟨_,SqL.of hb3⟩,fun E0 hE=>?_⟩
    have nED:D2≠E0:=Zb hD3 hE
    refine ZbA (K:=K) (a:=b) (xs:=d.map V.int) (fun j ys σ H5=>(∃v:Option V,σ=[some (.ref a),some (.ref r),some (.ref tp),some (.ref D),none,some (.ref b),v])∧ys=((Zbr ss d).take j).map V.str∧j≤d.length∧H5 E0=some (.lst ys)∧Zu H3 H5) ?_ (fun _ _ _ _ h=>SqL.of (h.2.2.2.2 _ _ hb3)) ?_ ?_
    ·exact⟨⟨none,rfl⟩,rfl,Qv _,Zc,Zi hE _⟩
    ·rintro j y ys σ H5 hy ⟨⟨v',rfl⟩,rfl,hj,hE5,s5⟩
     rw[Qk]at hy
     cases hn:d[j]? with
     | none=>rw[hn]at hy;cases hy
     | some nn =>
     rw[hn]at hy
     cases hy
     have hjl:j<d.length:=(Qd.mp hn).1
     obtain⟨n0,n1⟩:=hdr nn (Qr hn)
     refine⟨_,rfl,_,rfl,a,_,_,_,rfl,rfl,SqL.of (s5 _ _ (s3 _ _ (s2 _ _ hI.th))),Zhq n0 n1,hE5,(by rw[Qa,QA,sizeLine_eq];omega),⟨_,rfl⟩,?_,hjl,Zc,fun c o hc=>?_⟩
     ·unfold Zbr
      rw[QK,Qk,hn,Qg];rfl
     ·rw[Zd (Zb hc hE)];exact s5 c o hc
    rintro ys σ H5 ⟨⟨v',rfl⟩,rfl,_,hE5,s5⟩
    rw[Qa,Qz (by unfold Zbr;rw[Qa];exact Qh _)]at hE5
    refine⟨s5 _ _ hD3,(by rw[Qa,hrl,sizeLine_eq];omega),⟨_,rfl⟩,⟨rs++[(E0,Zbr ss d)],by rw[Qg];rfl,?_,fun x hx=>?_⟩,hil,Zc,fun c o hc=>?_⟩
    ·rw[QK,hd,Qg,Qg,hrs];rfl
    ·rcases Qe.mp hx with hx|hx
     ·obtain⟨g1,g2⟩:=hrs3 x hx
      exact⟨g1,by rw[Zd g1];exact s5 _ _ g2⟩
     ·rw[Qc.mp hx]
      exact⟨nED.symm,by rw[Zd nED.symm];exact hE5⟩
    ·rw[Zd (Zb hc hD20)];exact s5 _ _ (s3 c o hc)
   rintro zs σ H3 ⟨⟨v,rfl⟩,⟨rs,rfl,hrs,hrs3⟩,_,hD3,s3⟩
   rw[Qa,Qz (by omega)]at hrs
   have hsrt:∀x∈rs,sortedS x.2=true:=fun x hx=>by
    have:x.2∈rs.map (·.2):=Qo (f:=fun x:Addr×List Str=>x.2) hx
    rw[hrs]at this
    obtain⟨d,hd,e⟩:=Qx.mp this
    rw[← e]
    exact(hro d hd).2
   have hrl:rs.length=os.length:=by have:=congrArg List.length hrs;rwa [Qa,Qa]at this
   have R3:Zcj H3 D2 rs:=⟨hD3,by omega,fun x hx=>by
    have:x.2∈rs.map (·.2):=Qo (f:=fun x:Addr×List Str=>x.2) hx
    rw[hrs]at this
    obtain⟨d,hd,e⟩:=Qx.mp this
    obtain⟨i,hi⟩:=Qau hd
    refine⟨(hrs3 x hx).2,?_,fun s hs=>?_⟩
    ·rw[← e]
     unfold Zbr
     rw[Qa]
     exact QM (ZgZ hi) (by rw[hso];exact hwts)
    ·rw[← e]at hs
     unfold Zbr at hs
     obtain⟨nn,hnn,rfl⟩:=Qx.mp hs
     obtain⟨n0,n1⟩:=(hro d hd).1 nn hnn
     rw[Qi,Qb (by omega)]
     exact hI.key _ (Q0 _)⟩
   refine⟨_,rfl,D2,rs,rfl,R3,hsrt,fun mt us P' k0 q0 H4 htk hln hmt hus _ _ s4=>?_⟩
   have htw:=htk.tk
   rw[ZqD,hrs]at htw
   have hln2:(us.map (·.2)).length=(os.map List.length).sum:=by
    rw[Qa,hln,← Zfy ss os,← hrs,QC];rfl
   have hD4:=s4 _ _ (s3 _ _ hD2)
   have s24:=s3.trans s4
   have hrd4:Rd H4 bs os:=Rd.mono (fun _ _ o ho=>s24 _ _ ho) hrd
   refine⟨mt,rfl,⟨_,SqL.of hmt⟩,fun O hO=>?_⟩
   refine ZbA (K:=K) (a:=mt) (xs:=us.map fun u=>V.ref u.1) (fun i zs σ H5=>(∃v1 v2:Option V,σ=[some (.ref a),some (.ref r),some (.ref tp),some (.ref D),some (.ref D2),v1,v2])∧zs=(((us.take i).map (·.2)).map (Zag os)).map V.int∧i≤us.length∧H5 O=some (.lst zs)∧Zu H4 H5) ?_ (fun _ _ _ _ h=>SqL.of (h.2.2.2.2 _ _ hmt)) ?_ ?_
   ·exact⟨⟨none,none,rfl⟩,rfl,Qv _,Zc,Zi hO _⟩
   ·rintro i y zs σ H5 hy ⟨⟨v1,v2,rfl⟩,rfl,hi,hO5,s5⟩
    rw[Qk]at hy
    cases hz:us[i]? with
    | none=>rw[hz]at hy;cases hy
    | some u =>
    rw[hz]at hy
    cases hy
    have hil:i<us.length:=(Qd.mp hz).1
    have hum:=Qr hz
    obtain⟨d,hd,hu0,hdg,_⟩:=ZcZ htw (Qo (f:=fun u:Addr×Zaq=>u.2) hum)
    obtain⟨b,hb⟩:∃b,bs[u.2.1.toNat]? = some b:=⟨_,Qb (by rw[hbo];exact(Qd.mp hd).1)⟩
    have hbd:=hrd4.get hb hd
    have hul:=Qa (as:=us) (fun u:Addr×Zaq=>u.2)
    refine⟨u.1,_,rfl,SqT.of (s5 _ _ (hus u hum)),rfl,_,_,rfl,_,_,rfl,rfl,?_⟩
    refine⟨_,rfl,_,rfl,D,_,_,_,rfl,rfl,SqL.of (s5 _ _ hD4),Zjv hu0 hb,_,rfl,b,_,_,_,rfl,rfl,SqL.of (s5 _ _ hbd),Z6 (by rw[Qk,hdg];rfl),hO5,(by rw[Qa,Qa,Qa,QA,sizeLine_eq];omega),⟨_,_,rfl⟩,?_,hil,Zc,fun c o hc=>?_⟩
    ·rw[QK,hz,Qg,Qg,Qg];rfl
    ·rw[Zd (Zb hc hO)];exact s5 c o hc
   rintro zs σ H5 ⟨⟨v1,v2,rfl⟩,rfl,_,hO5,s5⟩
   rw[Qa,Qz (Qh _)]at hO5
   have s05:=s2.trans (s24.trans s5)
   exact q O _ H5 ((s2.trans s24).free hO) hO5 (.node hpt ⟨_,_,htw,hln2,rfl⟩) s05
theorem Zo9{x y:Str}(h:cds x=cds y):x=y:=by
 obtain⟨x⟩:=x
 obtain⟨y⟩:=y
 have:x=y:=Array.ext' h
 rw[this]
theorem ZfW{ss:List Str}{g:List Int}{n:Int}(h:Ris ss g)(hl:∀x,g.getLast? = some x→ZT (kk (ks ss x)) (kk (ks ss n))=true):Ris ss (g++[n]):=fun p x y hx hy=>by
 have hpl:=(Qd.mp hy).1
 rw[Qf,Qm]at hpl
 rw[QU (by omega)]at hx
 by_cases e:p+1<g.length
 ·rw[QU e]at hy
  exact h p x y hx hy
 ·rw[QN (by omega),show p+1-g.length=0 by omega]at hy
  cases hy
  refine hl x ?_
  rw[List.getLast?_eq_getElem?,show g.length-1=p by omega]
  exact hx
theorem ZkW{ss:List Str}{n:Int}{c:Nat}(hn:n<c)(h:¬ ltK ss (c:Int) n):ZT (kk (ks ss n)) (kk (ks ss (c:Int)))=true:=by
 cases hb:ZT (kk (ks ss n)) (kk (ks ss (c:Int))) with
 | true=>rfl
 | false =>
  have h2:ZT (kk (ks ss (c:Int))) (kk (ks ss n))=false:=by
   unfold kk
   rw[Z5]
   by_cases e:(Sum.inr (ks ss (c:Int)).1:Key)=Sum.inr (ks ss n).1
   ·rw[if_pos e,Z5,if_neg (by intro z;have:=Sum.inl.inj z;show False;simp only[ks]at this;omega)]
    exact decide_eq_false (by show ¬ ((c:Int)<n);omega)
   ·rw[if_neg e]
    exact decide_eq_false h
  have:=ZiU (Zbv _ _ hb h2)
  have:=congrArg Prod.snd this
  simp only[ks]at this
  omega
def ZgW(ss:List Str)(d:List Int):Prop:=d≠[]∧Ris ss d∧∀n∈d,0≤n∧n<ss.length
theorem Zfp{ss:List Str}{A B:List Int}{n:Int}(hl:Zdi ss A n)(nd:(A++B).Nodup):∀a∈A.erase n,ZT (kk (ks ss n)) (kk (ks ss a))=true:=fun a ha=>by
 have hA:=(QW.mp nd).1
 have hne:a≠n:=((List.Nodup.mem_erase_iff hA).mp ha).1
 cases hb:ZT (kk (ks ss n)) (kk (ks ss a)) with
 | true=>rfl
 | false=>exact absurd (congrArg Prod.snd (ZiU (Zbv _ _ (hl.2 a (Qq ha)) hb))) hne
theorem ZfG{A B:List Int}{n:Int}(nd:(A++B).Nodup):(A.erase n++B).Nodup:=by
 have h:=QW.mp nd
 exact QW.mpr ⟨h.1.erase n,h.2.1,fun x hx y hy=>h.2.2 x (Qq hx) y hy⟩
theorem Zlg{ss:List Str}{A B:List Int}{c:Nat}{gone:List Int}{done R:List (List Int)}(h:Res ss A B c gone done R):(A++B).Nodup→(∀n∈A++B,0≤n∧n<(c:Int))→c≤ss.length→(∀d∈done,ZgW ss d)→Ris ss gone→(∀n∈gone,0≤n∧n<ss.length)→(∀x,gone.getLast? = some x→∀a∈A,ZT (kk (ks ss x)) (kk (ks ss a))=true)→(A=[]→B≠[]→gone≠[])→∀d∈R,ZgW ss d:=by
 induction h with
 | stop0=>intro _ _ _ hd _ _ _ _;exact hd
 | stop =>
  intro _ _ _ hd hr hm _ _ d hdm
  rcases Qe.mp hdm with h|h
  ·exact hd d h
  ·rw[Qc.mp h];exact⟨by simp,hr,hm⟩
 | switch _ ih =>
  intro nd mem hc hd hr hm _ go
  refine ih (by simpa using nd) (by simpa using mem) hc (fun d hdm=>?_) (fun p x y hx=>by simp at hx) (fun n hn=>by cases hn) (fun x hx=>by simp at hx) (fun z=>by cases z)
  rcases Qe.mp hdm with h|h
  ·exact hd d h
  ·rw[Qc.mp h];exact⟨go rfl (by simp),hr,hm⟩
 | stepN l hcN _ ih =>
  intro nd mem hc hd hr hm last go
  have hn:=mem _ (Qj _ l.1)
  refine ih (ZfG nd) (fun m hm'=>mem m ?_) hc hd (ZfW hr (fun x hx=>last x hx _ l.1)) (fun m hm'=>?_) (fun x hx=>?_) (fun _ _=>by simp)
  ·rcases Qe.mp hm' with h|h
   ·exact Qj _ (Qq h)
   ·exact Ql _ h
  ·rcases Qe.mp hm' with h|h
   ·exact hm m h
   ·rw[Qc.mp h];omega
  ·rw[List.getLast?_concat]at hx
   cases hx
   exact Zfp l nd
 | @stepA A B c gone done R n l hcN hlt _ ih =>
  intro nd mem hc hd hr hm last go
  have hn:=mem _ (Qj _ l.1)
  refine ih ?_ (fun m hm'=>?_) hcN hd (ZfW hr (fun x hx=>last x hx _ l.1)) (fun m hm'=>?_) (fun x hx=>?_) (fun _ _=>by simp)
  ·have e:=QW.mp (ZfG (n:=n) nd)
   refine QW.mpr ⟨QW.mpr ⟨e.1,by simp,fun x hx y hy=>?_⟩,e.2.1,fun x hx y hy=>?_⟩
   ·have:=mem x (Qj _ (Qq hx));rw[Qc.mp hy];omega
   ·rcases Qe.mp hx with hx|hx
    ·exact e.2.2 x hx y hy
    ·have:=mem y (Ql _ hy);rw[Qc.mp hx];omega
  ·have:m∈A++B∨m=(c:Int):=by
    simp only[List.mem_append,List.mem_singleton]at hm' ⊢
    rcases hm' with(h|h)|h
    ·exact .inl (.inl (Qq h))
    ·exact .inr h
    ·exact .inl (.inr h)
   rcases this with h|h
   ·have:=mem m h;omega
   ·omega
  ·rcases Qe.mp hm' with h|h
   ·exact hm m h
   ·rw[Qc.mp h];omega
  ·rw[List.getLast?_concat]at hx
   cases hx
   intro a ha
   rcases Qe.mp ha with ha|ha
   ·exact Zfp l nd a ha
   ·rw[Qc.mp ha];exact ZkW hn.2 hlt
 | @stepB A B c gone done R n l hcN hlt _ ih =>
  intro nd mem hc hd hr hm last go
  have hn:=mem _ (Qj _ l.1)
  refine ih ?_ (fun m hm'=>?_) hcN hd (ZfW hr (fun x hx=>last x hx _ l.1)) (fun m hm'=>?_) (fun x hx=>?_) (fun _ _=>by simp)
  ·have e:=QW.mp (ZfG (n:=n) nd)
   refine QW.mpr ⟨e.1,QW.mpr ⟨e.2.1,by simp,fun x hx y hy=>?_⟩,fun x hx y hy=>?_⟩
   ·have:=mem x (Ql _ hx);rw[Qc.mp hy];omega
   ·rcases Qe.mp hy with hy|hy
    ·exact e.2.2 x hx y hy
    ·have:=mem x (Qj _ (Qq hx));rw[Qc.mp hy];omega
  ·have:m∈A++B∨m=(c:Int):=by
    simp only[List.mem_append,List.mem_singleton]at hm' ⊢
    rcases hm' with h|h|h
    ·exact .inl (.inl (Qq h))
    ·exact .inl (.inr h)
    ·exact .inr h
   rcases this with h|h
   ·have:=mem m h;omega
   ·omega
  ·rcases Qe.mp hm' with h|h
   ·exact hm m h
   ·rw[Qc.mp h];omega
  ·rw[List.getLast?_concat]at hx
   cases hx
   exact Zfp l nd
theorem Zm0(n:Nat):(first n).Nodup:=by
 unfold first Z0
 refine List.Pairwise.map _ (fun a b h=>?_) List.nodup_range
 intro z
 exact h (by omega)
theorem ZeH{ss:List Str}{k:Nat}(hk:k≤ss.length){R:List (List Int)}(h:Res ss (first k) [] k [] [] R):∀d∈R,ZgW ss d :=
 Zlg h (by rw[QI];exact Zm0 k) (by rw[QI];exact fun n hn=>Zcq hn) hk (fun d h=>by cases h) (fun p x y hx=>by simp at hx) (fun n h=>by cases h) (fun x hx=>by simp at hx) (fun _ z=>absurd rfl z)
theorem Ris.far{ss:List Str}{ns:List Int}(h:Ris ss ns):∀ (d p:Nat) (x y:Int),ns[p]? = some x→ns[p+d+1]? = some y→ZT (kk (ks ss x)) (kk (ks ss y))=true
 | 0,p,x,y,hx,hy=>h p x y hx hy
 | d+1,p,x,y,hx,hy=>by
  have hl:p+d+1<ns.length:=by have:=(Qd.mp hy).1;omega
  have hz:=Qb hl
  exact Zbu _ _ _ (h.far d p x _ hx hz) (h (p+d+1) _ _ hz hy)
theorem Ris.pw{ss:List Str}{ns:List Int}(h:Ris ss ns):ns.Pairwise fun x y=>ZT (kk (ks ss x)) (kk (ks ss y))=true:=by
 refine List.pairwise_iff_getElem.mpr fun i j hi hj hij=>?_
 exact h.far (j-i-1) i _ _ (Qb hi) (by rw[show i+(j-i-1)+1=j by omega];exact Qb hj)
theorem Zog{ss:List Str}{x y:Int}(h:ZT (kk (ks ss x)) (kk (ks ss y))=true):LeS (ss.getD x.toNat "") (ss.getD y.toNat ""):=by
 by_cases e:ss.getD x.toNat "" = ss.getD y.toNat ""
 ·rw[e];exact LeS.refl _
 ·unfold kk at h
  rw[Z5,if_neg (show ¬ (Sum.inr (ks ss x).1:Key)=Sum.inr (ks ss y).1 from fun z=>e (Sum.inr.inj z))]at h
  have h':cds (ss.getD x.toNat "")<cds (ss.getD y.toNat ""):=of_decide_eq_true h
  have:=(ZbQ _ _).mp h'
  exact Zja (by omega)
theorem ZlT{ss:List Str}{d:List Int}(h:d.Pairwise fun x y=>ZT (kk (ks ss x)) (kk (ks ss y))=true):sortedS (Zbr ss d)=true:=(Zec _).mpr (List.pairwise_map.mpr (h.imp fun h=>Zog h))
theorem ZnM{ss:List Str}{A B:List Int}{c:Nat}{gone:List Int}{done R:List (List Int)}(h:Res ss A B c gone done R):c≤ss.length→(R.map List.length).sum≤(done.map List.length).sum+gone.length+A.length+B.length+(ss.length-c):=by
 induction h with
 | stop0=>intro _;omega
 | stop=>intro _;rw[Qg,Qag,Qn,Qai,QT,List.sum_nil];omega
 | switch _ ih =>
  intro hc
  have:=ih hc
  rw[Qg,Qag,Qn,Qai,QT,List.sum_nil,List.length_nil]at this
  rw[List.length_nil]
  omega
 | stepN l _ _ ih =>
  intro hc
  have:=ih hc
  rw[Qf,Qm,Q6 l.1]at this
  have:=QY l.1
  omega
 | stepA l hcl _ _ ih =>
  intro hc
  have:=ih (by omega)
  rw[Qf,Qf,Qm,Qm,Q6 l.1]at this
  have:=QY l.1
  omega
 | stepB l hcl _ _ ih =>
  intro hc
  have:=ih (by omega)
  rw[Qf,Qf,Qm,Qm,Q6 l.1]at this
  have:=QY l.1
  omega
theorem Zek{ss:List Str}{k:Nat}(hk:k≤ss.length){R:List (List Int)}(h:Res ss (first k) [] k [] [] R):(R.map List.length).sum≤ss.length:=by
 have:=ZnM h hk
 rw[Zcr,List.length_nil]at this
 simp at this
 omega
theorem Zhb:∀R:List (List Int),(∀d∈R,d≠[])→R.length≤(R.map List.length).sum
 | [],_=>Qh _
 | d::R,h=>by
  have:=Zhb R fun x hx=>h x (Qw _ hx)
  have:=List.length_pos_iff.mpr (h d (by simp))
  rw[Qn,QT,QE]
  omega
def LtT(u v:Zaq):Prop:=ZE (cds u.2.2) (cds v.2.2)<0∨(u.2.2=v.2.2∧(u.1<v.1∨(u.1=v.1∧u.2.1<v.2.1)))
theorem ZeQ{a b:Str}(h:LeS a b):ZE (cds a) (cds b)<0∨a=b:=by
 by_cases e:ZE (cds a) (cds b)<0
 ·exact .inl e
 ·refine .inr (h.anti fun z=>e ((ZbQ _ _).mp z))
theorem ZiI{ss:List Str}(h:sortedS ss=true){i j:Nat}(hij:i≤j){x y:Str}(hx:ss[i]? = some x)(hy:ss[j]? = some y):LeS x y:=by
 rcases Nat.lt_or_eq_of_le hij with hlt|rfl
 ·have p:=(Zec _).mp h
  obtain⟨h1,e1⟩:=Qd.mp hx
  obtain⟨h2,e2⟩:=Qd.mp hy
  rw[← e1,← e2]
  exact Qay.mp p i j h1 h2 hlt
 ·rw[Qp (hx.symm.trans hy)];exact LeS.refl _
theorem Zg1{a b c:Str}(h:ZE (cds a) (cds b)<0)(g:LeS b c):ZE (cds a) (cds c)<0:=by
 rcases ZeQ g with g|rfl
 ·have h1:=Zbz _ _ _ (Int.le_of_lt h) (Int.le_of_lt g)
  by_cases e:ZE (cds a) (cds c)=0
  ·have e2:=Zcn _ _ e
   rw[← e2]at g
   have:=ZaD (cds a) (cds b)
   omega
  ·omega
 ·exact h
theorem TkW.lt{P P':List ZI}{ts:List Zaq}(h:TkW P ts P')(nd:(ZaB P).Nodup)(srt:Zia P):ts.Pairwise LtT∧∀u∈ts,∀x∈P',∀ (k:Nat) (y:Str),x.2.2≤k→x.2.1[k]? = some y→LtT u (x.1,k,y):=by
 induction h with
 | nil=>exact⟨List.Pairwise.nil,fun u hu=>by cases hu⟩
 | snoc h s ih =>
  rename_i ts P1 x z
  obtain⟨i1,i2⟩:=ih
  have nd1:(ZaB P1).Nodup:=by rw[h.num];exact nd
  have srt1:=(h.srt nd srt).1
  obtain⟨hx,hz,W⟩:=s
  obtain⟨_,zc,hzc,hall⟩:=W
  rw[ZfI nd1 hx,hz]at hzc
  have hzc':cds z=zc:=Qp hzc
  subst hzc'
  refine⟨Qat.mpr ⟨i1,Qal _ _,fun u hu v hv=>?_⟩,fun u hu w hw k y hk hy=>?_⟩
  ·rw[Qc.mp hv]
   exact i2 u hu x hx x.2.2 z (Qh _) hz
  ·obtain⟨w0,hw0,rfl⟩:=Qx.mp hw
   have e1:(Zai x.1 w0).1=w0.1:=by unfold Zai;split<;>rfl
   have e2:(Zai x.1 w0).2.1=w0.2.1:=by unfold Zai;split<;>rfl
   have e3:w0.2.2≤(Zai x.1 w0).2.2:=by unfold Zai;split<;>simp
   rw[e2]at hy
   rw[e1]
   rcases Qe.mp hu with hu|hu
   ·exact i2 u hu w0 hw0 k y (QM e3 hk) hy
   ·rw[Qc.mp hu]
    by_cases hn:w0.1=x.1
    ·have:=Zc2 nd1 hw0 hx hn
     subst this
     have hk':w0.2.2+1≤k:=by
      have:(Zai w0.1 w0).2.2=w0.2.2+1:=by unfold Zai;rw[if_pos rfl]
      omega
     rcases ZeQ (ZiI (srt1 w0 hw0) (by omega) hz hy) with g|g
     ·exact .inl g
     ·exact .inr ⟨g,.inr ⟨rfl,hk'⟩⟩
    ·have hk':w0.2.2≤k:=QM e3 hk
     obtain⟨hkl,_⟩:=Qd.mp hy
     obtain⟨hd,hhd⟩:∃hd,w0.2.1[w0.2.2]? = some hd:=⟨_,Qb (by omega)⟩
     have hle:=ZiI (srt1 w0 hw0) hk' hhd hy
     have hd':=ZfI nd1 hw0
     rw[hhd]at hd'
     rcases hall w0.1 (Qo (f:=fun x:ZI=>x.1) hw0) _ hd' with e|b
     ·exact absurd e hn
     ·rcases b with b|⟨b,bl⟩
      ·exact .inl (Zg1 b hle)
      ·have ez:z=hd:=Zo9 (Zcn _ _ b)
       rw[ez]
       rcases ZeQ hle with g|g
       ·exact .inl g
       ·exact .inr ⟨g,.inl bl⟩
theorem TkW.cnt{R:List (List Str)}{ts:List Zaq}{P:List ZI}(h:TkW (Zdd R) ts P):∀x∈P,(ts.filter fun u=>decide (u.1=x.1)).map (·.2.1)=List.range x.2.2:=by
 induction h with
 | nil =>
  intro x hx
  obtain⟨_,_,_,e⟩:=Zdc hx
  rw[e];rfl
 | snoc h s ih =>
  rename_i ts P1 x z
  intro w hw
  have nd1:(ZaB P1).Nodup:=by rw[h.num];exact ZcS _
  obtain⟨w0,hw0,rfl⟩:=Qx.mp hw
  have e1:(Zai x.1 w0).1=w0.1:=by unfold Zai;split<;>rfl
  rw[e1,List.filter_append,Qg,ih w0 hw0]
  by_cases hn:w0.1=x.1
  ·have:=Zc2 nd1 hw0 s.1 hn
   subst this
   have e2:(Zai w0.1 w0).2.2=w0.2.2+1:=by unfold Zai;rw[if_pos rfl]
   rw[e2,QaB]
   simp
  ·have e2:(Zai x.1 w0).2.2=w0.2.2:=by unfold Zai;rw[if_neg hn]
   rw[e2]
   have:¬ x.1=w0.1:=fun z=>hn z.symm
   simp[this]
theorem Put.sub{ss:List Str}{R:List (List Int)}{out:List Int}(h:Put ss R out):∀d∈R,d.Sublist out:=fun d hd=>by
 obtain⟨ts,P,h1,h2,rfl⟩:=h
 obtain⟨i,hi⟩:=Qau hd
 have hl:=h1.left (ZcS _)
 rw[ZgF,Zfy]at hl
 have h0:ZaW P=0:=by omega
 have hnum:=h1.num
 obtain⟨x,hx,ex⟩:∃x∈P,x.1=(i:Int):=by
  have:(i:Int)∈ZaB P:=by
   rw[hnum,ZhR,Qa]
   unfold Z0
   exact List.mem_map.mpr ⟨i,Q5.mpr (Qd.mp hi).1,by omega⟩
  obtain⟨x,hx,e⟩:=Qx.mp this
  exact⟨x,hx,e⟩
 obtain⟨y,hy,e1,e2⟩:=h1.row x hx
 obtain⟨j,hj,hR,_⟩:=Zdc hy
 have hij:j=i:=by omega
 subst hij
 rw[Qk,hi]at hR
 have hxk:x.2.1=Zbr ss d:=by rw[← e2];exact(Qp hR).symm
 have hxl:x.2.1.length=d.length:=by rw[hxk];unfold Zbr;rw[Qa]
 have hge:d.length≤x.2.2:=by
  have:=List.flatMap_eq_nil_iff.mp (ZjU h0) x hx
  have:=List.drop_eq_nil_iff.mp this
  omega
 have hc:=h1.cnt x hx
 have hle:x.2.2≤d.length:=by
  by_cases hz:x.2.2=0
  ·omega
  ·have hm:x.2.2-1∈List.range x.2.2:=Q5.mpr (by omega)
   rw[← hc]at hm
   obtain⟨u,hu,eu⟩:=Qx.mp hm
   obtain⟨hu1,hu2⟩:=List.mem_filter.mp hu
   obtain⟨d',hd',_,hg,_⟩:=ZcZ h1 hu1
   have eu1:u.1=x.1:=of_decide_eq_true hu2
   have:u.1.toNat=j:=by rw[eu1,ex];rfl
   rw[this,hi]at hd'
   have:d=d':=Qp hd'
   subst this
   have:=(Qd.mp hg).1
   omega
 have he:x.2.2=d.length:=by omega
 have hsub:((ts.filter fun u=>decide (u.1=x.1)).map (Zag R)).Sublist (ts.map (Zag R)):=List.Sublist.map _ List.filter_sublist
 have heq:(ts.filter fun u=>decide (u.1=x.1)).map (Zag R)=d:=by
  have e3:(ts.filter fun u=>decide (u.1=x.1)).map (Zag R)=((ts.filter fun u=>decide (u.1=x.1)).map (·.2.1)).map fun g=>d.getD g 0:=by
   rw[QC]
   refine QH fun u hu=>?_
   have eu1:u.1=x.1:=of_decide_eq_true (List.mem_filter.mp hu).2
   unfold Zag
   have:u.1.toNat=j:=by rw[eu1,ex];rfl
   rw[this]
   show ((R.getD j []).getD u.2.1 0)=d.getD u.2.1 0
   rw[Qi (l:=R),hi];rfl
  rw[e3,hc,he]
  refine Q9 fun k=>?_
  rw[Qk]
  by_cases hk:k<d.length
  ·rw[Qab hk,Qb hk]
   simp[List.getD_eq_getElem?_getD,List.getElem?_eq_getElem hk]
  ·rw[QD (by rw[Qar];omega),QD (by omega)]
   rfl
 rw[heq]at hsub
 exact hsub
def Zf2(R:List (List Int))(P:List ZI):List Int:=P.flatMap fun x=>(R.getD x.1.toNat []).drop x.2.2
theorem ZgI(R:List (List Int)):∀ (P:List ZI),(ZaB P).Nodup→∀ {x:ZI} {n:Int},x∈P→(R.getD x.1.toNat [])[x.2.2]? = some n→(n::Zf2 R (Zbl P x.1)).Perm (Zf2 R P)
 | [],_,_,_,h,_=>by cases h
 | y::P,nd,x,n,h,hn=>by
  unfold ZaB at nd
  rw[Qn,QZ]at nd
  unfold Zf2 Zbl
  rw[Qn,QaI,QaI]
  rcases QG.mp h with rfl|h
  ·have e:P.map (Zai x.1)=P:=by
    conv=>rhs;rw[← List.map_id P]
    refine QH fun u hu=>?_
    unfold Zai
    rw[if_neg (fun z:u.1=x.1=>nd.1 (z ▸ Qo (f:=fun x:ZI=>x.1) hu))]
    rfl
   obtain⟨hlt,en⟩:=Qd.mp hn
   rw[e,List.drop_eq_getElem_cons hlt,en]
   unfold Zai
   rw[if_pos rfl]
   exact Qam _
  ·have ih:=ZgI R P nd.2 h hn
   unfold Zf2 Zbl at ih
   have e:Zai x.1 y=y:=if_neg (fun z:y.1=x.1=>nd.1 (z ▸ Qo (f:=fun x:ZI=>x.1) h))
   rw[e]
   exact List.perm_middle.symm.trans (ih.append_left _)
theorem Put.perm{ss:List Str}{R:List (List Int)}{out:List Int}(h:Put ss R out):out.Perm R.flatten:=by
 obtain⟨ts,P,h1,h2,rfl⟩:=h
 have key:∀ {ts:List Zaq} {P:List ZI},TkW (Zdd (R.map (Zbr ss))) ts P→(ts.map (Zag R)++Zf2 R P).Perm (Zf2 R (Zdd (R.map (Zbr ss)))):=by
  intro ts P h
  induction h with
  | nil=>exact Qam _
  | snoc h s ih =>
   rename_i ts P1 x z
   have nd1:(ZaB P1).Nodup:=by rw[h.num];exact ZcS _
   have hp:=ZcZ (TkW.snoc h s) (u:=(x.1,x.2.2,z)) (Ql _ (Qc.mpr rfl))
   obtain⟨d,hd,_,hg,_⟩:=hp
   have hR:(R.getD x.1.toNat [])[x.2.2]? = some (Zag R (x.1,x.2.2,z)):=by
    have:R.getD x.1.toNat []=d:=by rw[Qi];show (R[x.1.toNat]?).getD []=d;rw[hd];rfl
    rw[this];exact hg
   rw[Qg,Q1]
   exact((ZgI R P1 nd1 s.1 hR).append_left _).trans ih
 have hl:=h1.left (ZcS _)
 rw[ZgF,Zfy]at hl
 have h0:ZaW P=0:=by omega
 have hr0:Zf2 R P=[]:=by
  unfold Zf2
  refine List.flatMap_eq_nil_iff.mpr fun x hx=>?_
  have h3:=List.drop_eq_nil_iff.mp (List.flatMap_eq_nil_iff.mp (ZjU h0) x hx)
  obtain⟨y,hy,e1,e2⟩:=h1.row x hx
  obtain⟨j,hj,hR,_⟩:=Zdc hy
  rw[Qk]at hR
  cases hd:R[j]? with
  | none=>rw[hd]at hR;cases hR
  | some d =>
   rw[hd]at hR
   have e4:Zbr ss d=x.2.1:=by rw[← e2];exact Qp hR
   have e5:x.1.toNat=j:=by rw[← e1,hj];rfl
   refine List.drop_eq_nil_iff.mpr ?_
   rw[e5,Qi,hd]
   show d.length≤_
   rw[← e4]at h3
   unfold Zbr at h3
   rwa [Qa]at h3
 have hk:=key h1
 rw[hr0,QI]at hk
 refine hk.trans ?_
 have e:Zf2 R (Zdd (R.map (Zbr ss)))=R.flatten:=by
  unfold Zf2
  rw[List.flatMap_def]
  congr 1
  refine Q9 fun i=>?_
  rw[Qk,ZhL,Qk]
  cases hR:R[i]? with
  | none=>rfl
  | some d =>
   show some (((R.getD ((i:Int).toNat) []).drop 0))=some d
   rw[Q7,Qi,hR];rfl
 rw[e]
theorem Put.ris{ss:List Str}{R:List (List Int)}{out:List Int}(h:Put ss R out)(hr:∀d∈R,d.Pairwise fun x y=>ZT (kk (ks ss x)) (kk (ks ss y))=true)(ha:R.Pairwise fun d e=>∀b∈d,∀a∈e,ss.getD a.toNat "" = ss.getD b.toNat ""→b<a):out.Pairwise fun x y=>ZT (kk (ks ss x)) (kk (ks ss y))=true:=by
 obtain⟨ts,P,h1,h2,rfl⟩:=h
 have hs:∀d∈R.map (Zbr ss),sortedS d=true:=fun d hd=>by
  obtain⟨x,hx,rfl⟩:=Qx.mp hd
  exact ZlT (hr x hx)
 have hlt:=(h1.lt (ZcS _) (ZhE hs)).1
 refine List.pairwise_map.mpr ((List.pairwise_iff_forall_sublist.mpr fun {u v} huv=>?_))
 have hu:u∈ts:=huv.subset (by simp)
 have hv:v∈ts:=huv.subset (by simp)
 have huv':LtT u v:=List.pairwise_iff_forall_sublist.mp hlt huv
 obtain⟨d,hd,u0,ud,uk⟩:=ZcZ h1 hu
 obtain⟨e,he,v0,ve,vk⟩:=ZcZ h1 hv
 rcases huv' with g|⟨g1,g2⟩
 ·unfold kk
  rw[Z5,if_neg (show ¬ (Sum.inr (ks ss (Zag R u)).1:Key)=Sum.inr (ks ss (Zag R v)).1 from fun z=>by
   have z':ss.getD (Zag R u).toNat "" = ss.getD (Zag R v).toNat "":=Sum.inr.inj z
   rw[uk,vk]at z'
   rw[z',Zcu]at g
   omega)]
  refine decide_eq_true ?_
  show cds (ss.getD (Zag R u).toNat "")<cds (ss.getD (Zag R v).toNat "")
  rw[uk,vk]
  exact(ZbQ _ _).mpr g
 ·have ek:ss.getD (Zag R u).toNat "" = ss.getD (Zag R v).toNat "":=by rw[uk,vk,g1]
  have hnum:Zag R u<Zag R v:=by
   rcases g2 with g2|⟨g2,g3⟩
   ·have hij:u.1.toNat<v.1.toNat:=by omega
    obtain⟨l1,m1⟩:=Qd.mp hd
    obtain⟨l2,m2⟩:=Qd.mp he
    have:=Qay.mp ha _ _ l1 l2 hij
    rw[m1,m2]at this
    exact this _ (Qr ud) _ (Qr ve) ek.symm
   ·have e1:u.1.toNat=v.1.toNat:=by rw[g2]
    rw[e1,he]at hd
    have:e=d:=Qp hd
    subst this
    obtain⟨l1,m1⟩:=Qd.mp ud
    obtain⟨l2,m2⟩:=Qd.mp ve
    have hx:=Qay.mp (hr e (Qr he)) _ _ l1 l2 g3
    rw[m1,m2]at hx
    unfold kk at hx
    rw[Z5,if_pos (show (Sum.inr (ks ss (Zag R u)).1:Key)=Sum.inr (ks ss (Zag R v)).1 from congrArg Sum.inr ek),Z5]at hx
    split at hx
    ·cases hx
    ·exact of_decide_eq_true hx
  unfold kk
  rw[Z5,if_pos (show (Sum.inr (ks ss (Zag R u)).1:Key)=Sum.inr (ks ss (Zag R v)).1 from congrArg Sum.inr ek),Z5,if_neg (show ¬ (Sum.inl (ks ss (Zag R u)).2:Key)=Sum.inl (ks ss (Zag R v)).2 from fun z=>by
   have z':Zag R u=Zag R v:=Sum.inl.inj z
   omega)]
  exact decide_eq_true hnum
abbrev ZdS(ss:List Str)(d:List Int):Prop:=d.Pairwise fun x y=>ZT (kk (ks ss x)) (kk (ks ss y))=true
abbrev ApP(ss:List Str)(d e:List Int):Prop:=∀b∈d,∀a∈e,ss.getD a.toNat "" = ss.getD b.toNat ""→b<a
def lvR(R:List (List Int))(lv:List Int):List (List Int):=lv.map fun i=>R.getD i.toNat []
theorem Ze7(R:List (List Int))(a b:List Int):lvR R (a++b)=lvR R a++lvR R b:=by unfold lvR;rw[Qg]
mutual
theorem Zc1.srt{ss:List Str}{R:List (List Int)}(hr:∀d∈R,ZdS ss d):∀ {t:PT} {o:List Int},Zc1 ss R t o→(lvR R (tLv t)).Pairwise (ApP ss)→ZdS ss o∧o.Perm (lvR R (tLv t)).flatten
 | .leaf i,_,.leaf,_=>by
  refine⟨?_,?_⟩
  ·rw[Qi]
   cases hx:R[i.toNat]? with
   | none=>exact List.Pairwise.nil
   | some d=>exact hr d (Qr hx)
  ·show (R.getD i.toNat []).Perm ([R.getD i.toNat []].flatten)
   rw[List.flatten_cons,List.flatten_nil,QI]
 | .node l,o,.node h p,ha=>by
  obtain⟨a,b,c⟩:=Zao.srt hr h ha
  exact⟨p.ris a b,p.perm.trans c⟩
theorem Zao.srt{ss:List Str}{R:List (List Int)}(hr:∀d∈R,ZdS ss d):∀ {l:List PT} {os:List (List Int)},Zao ss R l os→(lvR R (Zay l)).Pairwise (ApP ss)→(∀o∈os,ZdS ss o)∧os.Pairwise (ApP ss)∧os.flatten.Perm (lvR R (Zay l)).flatten
 | [],_,.nil,_=>⟨fun o h=>(by cases h),List.Pairwise.nil,Qam _⟩
 | t::l,_,.cons (o:=o) (os:=os) h hs,ha=>by
  have ha':(lvR R (tLv t)++lvR R (Zay l)).Pairwise (ApP ss):=by rw[← Ze7];exact ha
  obtain⟨a1,a2,a3⟩:=List.pairwise_append.mp ha'
  obtain⟨p1,p2⟩:=Zc1.srt hr h a1
  obtain⟨q1,q2,q3⟩:=Zao.srt hr hs a2
  refine⟨fun x hx=>?_,List.pairwise_cons.mpr ⟨fun e he b hb x hx=>?_,q2⟩,?_⟩
  ·rcases QG.mp hx with rfl|hx
   ·exact p1
   ·exact q1 x hx
  ·obtain⟨d1,hd1,hb1⟩:=List.mem_flatten.mp (p2.mem_iff.mp hb)
   obtain⟨d2,hd2,hx2⟩:=List.mem_flatten.mp (q3.mem_iff.mp (List.mem_flatten.mpr ⟨e,he,hx⟩))
   exact a3 d1 hd1 d2 hd2 b hb1 x hx2
  ·show (o++os.flatten).Perm (lvR R (tLv t++Zay l)).flatten
   rw[Ze7,List.flatten_append]
   exact p2.append q3
end
mutual
theorem Zc1.any{ss:List Str}{R:List (List Int)}:∀ {t:PT} {o:List Int},Zc1 ss R t o→o.Perm (lvR R (tLv t)).flatten∧∀d∈lvR R (tLv t),d.Sublist o
 | .leaf i,_,.leaf=>by
  refine⟨?_,fun d hd=>?_⟩
  ·show (R.getD i.toNat []).Perm ([R.getD i.toNat []].flatten)
   rw[List.flatten_cons,List.flatten_nil,QI]
  ·have:d=R.getD i.toNat []:=Qc.mp hd
   rw[this];exact List.Sublist.refl _
 | .node l,o,.node h p=>by
  obtain⟨a,b⟩:=Zao.any h
  refine⟨p.perm.trans a,fun d hd=>?_⟩
  obtain⟨x,hx,hs⟩:=b d hd
  exact hs.trans (p.sub x hx)
theorem Zao.any{ss:List Str}{R:List (List Int)}:∀ {l:List PT} {os:List (List Int)},Zao ss R l os→os.flatten.Perm (lvR R (Zay l)).flatten∧∀d∈lvR R (Zay l),∃o∈os,d.Sublist o
 | [],_,.nil=>⟨Qam _,fun d h=>by cases h⟩
 | t::l,_,.cons (o:=o) (os:=os) h hs=>by
  obtain⟨p1,p2⟩:=Zc1.any h
  obtain⟨q1,q2⟩:=Zao.any hs
  refine⟨?_,fun d hd=>?_⟩
  ·show (o++os.flatten).Perm (lvR R (tLv t++Zay l)).flatten
   rw[Ze7,List.flatten_append]
   exact p1.append q1
  ·have hd':d∈lvR R (tLv t)++lvR R (Zay l):=by rw[← Ze7];exact hd
   rcases Qe.mp hd' with hd'|hd'
   ·exact⟨o,Q2 ..,p2 d hd'⟩
   ·obtain⟨x,hx,hs'⟩:=q2 d hd'
    exact⟨x,Qw _ hx,hs'⟩
end
theorem Zhj(R:List (List Int)):lvR R (Z0 0 R.length)=R:=by
 unfold lvR
 refine Q9 fun i=>?_
 unfold Z0
 rw[Qk,Qk]
 by_cases h:i<R.length
 ·rw[Qab h,Qb h]
  simp[List.getD_eq_getElem?_getD,List.getElem?_eq_getElem h]
 ·rw[QD (by rw[Qar];omega),QD (by omega)]
  rfl
theorem ZjJ{ss:List Str}{a b:List Int}(ha:ZdS ss a)(hb:ZdS ss b)(p:a.Perm b):a=b:=List.Perm.eq_of_pairwise (fun x y _ _ h1 h2=>by
 have:ZT (kk (ks ss x)) (kk (ks ss x))=true:=Zbu _ _ _ h1 h2
 have h0:=ZbF (kk (ks ss x))
 rw[h0]at this;cases this) ha hb p
structure Zj9 (ss:List Str) (R:List (List Int)):Prop where
 rg:∀d∈R,ZgY ss d
 lex:∀d∈R,ZdS ss d
 ap:R.Pairwise (ApP ss)
 pm:R.flatten.Perm (Z0 0 ss.length)
theorem Zed:∀R:List (List Int),R.flatten.length=(R.map List.length).sum
 | []=>rfl
 | d::R=>by rw[List.flatten_cons,Qf,Qn,QT,Zed R]
theorem Zma(n:Nat):(Z0 0 n).Nodup:=(Zfo n).imp fun h=>by omega
theorem Zi0{ss:List Str}{room:Nat}(hr:1≤room){R:List (List Int)}(h:Res ss (first (min room ss.length)) [] (min room ss.length) [] [] R):Zj9 ss R:=by
 have hg:=ZeH (Qae _ _) h
 have hs:=Zek (Qae _ _) h
 have ha:=Zle hr h
 have pm:R.flatten.Perm (Z0 0 ss.length):=(ZeX (Zma _) (fun x hx=>by
  unfold Z0 at hx
  obtain⟨m,hm,rfl⟩:=Qx.mp hx
  have:=Q5.mp hm
  obtain⟨d,hd,hmd⟩:=ha (0+(m:Int)) (by omega) (by omega)
  exact List.mem_flatten.mpr ⟨d,hd,hmd⟩) (by rw[Zed,ZaF];exact hs)).symm
 have nd:R.flatten.Nodup:=pm.nodup_iff.mpr (Zma _)
 have dj:=(List.pairwise_flatten.mp nd).2
 refine⟨fun d hd=>⟨(hg d hd).2.2,ZlT (hg d hd).2.1.pw⟩,fun d hd=>(hg d hd).2.1.pw,?_,pm⟩
 refine((ZkZ h).and dj).imp fun hh b hb a ha' hk=>?_
 obtain⟨h1,h2⟩:=hh
 have hne:b≠a:=h2 b hb a ha'
 by_cases hlt:a<b
 ·exact absurd hk (h1 b hb a ha' hlt)
 ·omega
mutual
theorem Zmt{n:Nat}:∀t:PT,(∀k∈tLv t,0≤k∧k<(n:Nat))→tOk n t
 | .leaf k,h=>h k (Qc.mpr rfl)
 | .node l,h=>Zj2 l h
theorem Zj2{n:Nat}:∀l:List PT,(∀k∈Zay l,0≤k∧k<(n:Nat))→ZkI n l
 | [],_=>trivial
 | t::r,h=>⟨Zmt t fun k hk=>h k (Qj _ hk),Zj2 r fun k hk=>h k (Ql _ hk)⟩
end
mutual
theorem Zmb{w:Nat}(hw:w≤60):∀t:PT,tPl w t→tPl 60 t
 | .leaf _,_=>trivial
 | .node l,h=>⟨h.1,QM h.2.1 hw,Zj7 hw l h.2.2⟩
theorem Zj7{w:Nat}(hw:w≤60):∀l:List PT,Zcl w l→Zcl 60 l
 | [],_=>trivial
 | t::r,h=>⟨Zmb hw t h.1,Zj7 hw r h.2⟩
end
mutual
theorem ZlY{w:Nat}:∀t:PT,tPl w t→tDp t+1≤(tLv t).length
 | .leaf _,_=>Qh _
 | .node l,h=>by
  have h2:2≤l.length:=h.1
  have:=ZjX l h.2.2 (by omega)
  show ZeS l+1+1≤(Zay l).length
  omega
theorem ZjX{w:Nat}:∀l:List PT,Zcl w l→1≤l.length→ZeS l+l.length≤(Zay l).length
 | [],_,h=>absurd h (by decide)
 | t::r,h,_=>by
  have h1:=ZlY t h.1
  have h2:=ZcJ w r h.2
  show max (tDp t) (ZeS r)+(r.length+1)≤(tLv t++Zay r).length
  rw[Qf]
  by_cases hr:r=[]
  ·subst hr
   have:ZeS []=0:=rfl
   simp only[List.length_nil]
   omega
  ·have h3:=ZjX r h.2 (List.length_pos_iff.mpr hr)
   omega
end
theorem Zg3(n:Nat):Zca 0 n=Z0 0 n:=by
 unfold Zca Z0
 rw[Nat.sub_zero]
 refine QH fun i _=>by omega
theorem ZlL{ss:List Str}{R:List (List Int)}(h:Zj9 ss R){ns:List Int}{wy:Nat}{p:Int}{t:PT}(hn:ns.length=R.length)(hw:wy≤6)(g:Gr ns wy 0 ns.length 1 p [t]) :
  tOk R.length t∧tPl 60 t∧wtR R (tLv t)=ss.length∧tDp t+1≤R.length∧tCo ns t=p∧∀out,Zc1 ss R t out→ZdS ss out∧out.Perm (Z0 0 ss.length):=by
 obtain⟨n1,n2⟩:=g.nf
 have lv:tLv t=Z0 0 R.length:=by
  have:tLv t++[]=Zca 0 ns.length:=n1
  rw[QI,Zg3,hn]at this
  exact this
 have pl:tPl wy t:=n2.1
 have dp:=ZlY t pl
 rw[lv,ZaF]at dp
 refine⟨Zmt t fun k hk=>?_,Zmb (by omega) t pl,?_,dp,?_,fun out ho=>?_⟩
 ·rw[lv]at hk
  unfold Z0 at hk
  obtain⟨m,hm,rfl⟩:=Qx.mp hk
  have:=Q5.mp hm
  omega
 ·rw[lv]
  have e:wtR R (Z0 0 R.length)=((lvR R (Z0 0 R.length)).map List.length).sum:=by unfold wtR lvR;rw[QC];rfl
  rw[e,Zhj,← Zed,h.pm.length_eq,ZaF]
 ·have:tCo ns t+0=p:=g.co
  omega
 ·have:=Zc1.srt h.lex ho (by rw[lv,Zhj];exact h.ap)
  rw[lv,Zhj]at this
  exact⟨this.1,this.2.trans h.pm⟩
def Zaz(R:List (List Int)):List Int:=R.map fun d=>(d.length:Int)
def Zcf(ss:List Str)(R:List (List Int))(wy:Nat)(p:Int):Prop:=(R=[]∧p=0)∨(R≠[]∧∃t,Gr (Zaz R) wy 0 (Zaz R).length 1 p [t])
theorem Zcf.one{ss:List Str}{R:List (List Int)}{wy:Nat}{p q:Int}(h:Zcf ss R wy p)(g:Zcf ss R wy q):p=q:=by
 rcases h with⟨h1,h2⟩|⟨h1,t,h2⟩
 ·rcases g with⟨_,g2⟩|⟨g1,_⟩
  ·rw[h2,g2]
  ·exact absurd h1 g1
 ·rcases g with⟨g1,_⟩|⟨_,u,g2⟩
  ·exact absurd g1 h1
  ·exact Zdt h2 g2
def Zl7(K:PySem.W.Frag):Sp:=fun vs H Q _=>∃ (a:Addr) (ss:List Str) (room wy:Nat),vs=[.ref a,.int room,.int wy]∧H a=some (.lst (ss.map V.str))∧ss.length≤60∧(∀s∈ss,s.length≤1000∧AZ s)∧1≤room∧room≤100∧2≤wy∧wy≤6 ∧
 ∀ (t b:Addr) (out:List Int) (p:Int) (R:List (List Int)) (H':Hp),H' t=some (.tup [.ref b,.int p])→H' b=some (.lst (out.map V.int))→ZdS ss out→out.Perm (Z0 0 ss.length)→Res ss (first (min room ss.length)) [] (min room ss.length) [] [] R→Zcf ss R wy p→Zu H H'→Q (.ref t) H'
theorem Zov(T:Zaj K mg cRow cMerge)(f_runs_of:Df P w K mg base 5 "runs_of" ["things", "room"] (ZiW K))(f_near_plan:Df P w K mg base 4 "near_plan" ["sizes", "ways"] (Zlk K))(f_merged_by:Df P w K mg base (61+17) "merged_by" ["things", "runs", "tree"] (Zqo 61)):Df P w K mg base 79 "sort_by" ["things", "room", "ways"] (Zl7 K):=by
 refine T.t_sort_by.df ZcY (fun vs H Q E h=>?_) (fun cdv f A outer s H vs Q E hr h=>?_)
 ·obtain⟨a,ss,room,wy,rfl,_⟩:=h
  rfl
 obtain⟨a,ss,room,wy,rfl,ha,h60,hk,r1,r2,w2,w6,q⟩:=h
 refine⟨_,#[Zf,#[Zw,3,ZcY.nd,(Or.inl rfl),#[ZA,f_runs_of,hr,#[Za,‹0›,#[Za,‹1›,#[Ze]]],(by rfl)]],#[Zf,#[Zae,#[Zn,Zbn,#[Zk,(ZbH K),(by rfl),T.b.n_len,Qu,#[Za,‹3›,#[Ze]]],#[Zh],(Zt _)],#[Zj,#[Zp,#[ZU,#[Za,#[Za9,#[Ze]],#[Za,#[Zh],#[Ze]]]]]],#[ZF]],#[Zf,#[ZaT,#[ZA,f_near_plan,hr,#[Za,#[ZbU,Zjl,#[iL,K,‹3›],(fun _ _ _ _=>#[cg,6,Zjl]),(fun _ _ _ _=>(@Zbg _)),(fun _ _ _ _=>#[Zk,(ZbH K),(Zcx Zjl rfl (by ac_rfl)),T.b.n_len,Qu,#[Za,#[cw,6,Zjl],#[Ze]]])],#[Za,‹2›,#[Ze]]],(by rfl)],#[gT,K,2,#[Zv,#[Zx,4,ZcY.nd],#[Zv,#[Zx,5,ZcY.nd],(@ZaL _)]]]],#[Zj,#[Zp,#[ZU,#[Za,#[ZA,f_merged_by,hr,#[Za,‹0›,#[Za,‹3›,#[Za,‹5›,#[Ze]]]],(by rfl)],#[Za,‹4›,#[Ze]]]]]]]]],?_⟩
 refine⟨_,rfl,_,rfl,a,ss,room,rfl,SqL.of ha,h60,fun s hs=>(hk s hs).1,r2,fun r ls R H1 hr0 hr1 hrl hls hrd hres _ _ s1=>?_⟩
 have nr:=Zi0 r1 hres
 have hln:(ls.map V.ref).length=R.length:=by rw[Qa];exact hrd.len
 have hRl:R.length≤60:=by
  have h1:=Zhb R fun d hd=>(ZeH (Qae _ _) hres d hd).1
  have h2:=Zek (Qae _ _) hres
  omega
 refine⟨_,rfl,r,_,rfl,.inl (SqL.of hr1),?_⟩
 refine⟨rfl,_,rfl,Za4 (fun d=>?_) (fun d=>?_)⟩
 ·have h0:R=[]:=by
   have:=V.int.inj (of_decide_eq_true d)
   exact QX (by omega)
  subst h0
  have hs0:ss.length=0:=by
   have:=nr.pm.length_eq
   rw[ZaF]at this
   exact this.symm
  refine⟨(by show 0≤sizeLine;decide),fun b hb=>⟨(by show 2≤sizeLine;decide),fun t ht=>?_⟩⟩
  have s2:=Zi hb (.lst [])
  have s3:=Zi ht (.tup [.ref b,.int 0])
  refine q t b [] 0 [] _ Zc (s3 _ _ Zc) List.Pairwise.nil ?_ hres (.inl ⟨rfl,rfl⟩) (s1.trans (s2.trans s3))
  rw[hs0];exact Qam _
 ·have hR1:R≠[]:=fun z=>d (decide_eq_true (by rw[hln,z];rfl))
  have hRp:=List.length_pos_iff.mpr hR1
  refine⟨_,rfl,r,rfl,⟨_,SqL.of hr1⟩,fun D hD=>?_⟩
  refine ZbA (K:=K) (a:=r) (xs:=ls.map V.ref) (fun i zs σ H2=>(∃v:Option V,σ=[some (.ref a),some (.int room),some (.int wy),some (.ref r),none,none,v])∧zs=(Zaz (R.take i)).map V.int∧i≤ls.length∧H2 D=some (.lst zs)∧Zu H1 H2) ?_ (fun _ _ _ _ h=>SqL.of (h.2.2.2.2 _ _ hr1)) ?_ ?_
  ·exact⟨⟨none,rfl⟩,rfl,Qv _,Zc,Zi hD _⟩
  ·rintro i y zs σ H2 hy ⟨⟨v,rfl⟩,rfl,hi,hD2,s2⟩
   rw[Qk]at hy
   cases hb:ls[i]? with
   | none=>rw[hb]at hy;cases hy
   | some b =>
   rw[hb]at hy
   cases hy
   have hil:i<ls.length:=(Qd.mp hb).1
   obtain⟨d',hd',hbd⟩:=hrd.at hb
   refine⟨_,rfl,b,_,rfl,.inl (SqL.of (s2 _ _ hbd)),hD2,(by unfold Zaz;rw[Qa,Qa,QA,sizeLine_eq];omega),⟨_,rfl⟩,?_,hil,Zc,fun x o hx=>?_⟩
   ·unfold Zaz
    rw[QK,hd',Qg,Qg,Qa];rfl
   ·rw[Zd (Zb hx hD)];exact s2 x o hx
  rintro zs σ H2 ⟨⟨v,rfl⟩,rfl,_,hD2,s2⟩
  rw[show (ls.map V.ref).length=R.length from hln,Qz (Qh _)]at hD2
  have hll:(Zaz R).length=R.length:=by unfold Zaz;rw[Qa]
  refine⟨_,rfl,D,Zaz R,wy,rfl,SqL.of hD2,by omega,by omega,fun v hv=>?_,w2,w6,fun t0 x p t H3 ht00 ht0 hTV hG s3=>?_⟩
  ·unfold Zaz at hv
   obtain⟨d',hd',rfl⟩:=Qx.mp hv
   obtain⟨i,hi⟩:=Qau hd'
   have h1:=ZgZ hi
   have h2:=Zek (Qae _ _) hres
   omega
  obtain⟨g1,g2,g3,g4,g5,g6⟩:=ZlL nr hll w6 hG
  have s13:=s2.trans s3
  have s03:=s1.trans s13
  have I3:Zkr H3 a r ss ls R:=⟨s03 _ _ ha,h60,hk,s13 _ _ hr1,Rd.mono (fun _ _ o ho=>s13 _ _ ho) hrd,nr.rg⟩
  refine⟨t0,_,rfl,SqT.of ht0,rfl,_,_,rfl,_,_,rfl,rfl,?_⟩
  refine⟨_,rfl,_,rfl,_,rfl,a,r,ss,ls,R,x,t,rfl,I3,hTV,g1,g2,by omega,by omega,fun b out H4 hb0 hb hp s4=>?_⟩
  obtain⟨k1,k2⟩:=g6 out hp
  refine⟨_,rfl,(by show 2≤sizeLine;decide),fun tt htt=>?_⟩
  have s5:=Zi htt (.tup [.ref b,.int p])
  exact q tt b out p R _ Zc (s5 _ _ hb) k1 k2 hres (.inr ⟨hR1,t,hG⟩) (s03.trans (s4.trans s5))
def spSrtd(K:PySem.W.Frag):Sp:=fun vs H Q _=>∃ (a t:Addr) (ss:List Str) (ns:List Int),vs=[.ref a,.ref t]∧H a=some (.lst (ss.map V.str))∧ss.length≤60∧H t=some (.lst (ns.map V.int))∧ZdS ss ns∧ns.Perm (Z0 0 ss.length)∧∀H',Zu H H'→Q (.bl true) H'
def spBy(K:PySem.W.Frag):Sp:=fun vs H Q _=>∃ (a r:Addr) (ss:List Str) (ls:List Addr) (R:List (List Int)) (wy:Nat),vs=[.ref a,.ref r,.int wy]∧Zkr H a r ss ls R∧Zj9 ss R∧1≤R.length∧R.length≤60∧2≤wy∧wy≤6 ∧
 ∀ (t b:Addr) (out:List Int) (p:Int) (H':Hp),H' t=some (.tup [.ref b,.int p])→H' b=some (.lst (out.map V.int))→ZdS ss out→out.Perm (Z0 0 ss.length)→Zcf ss R wy p→Zu H H'→Q (.ref t) H'
def ZbN(out:List Int)(p:Int):PyData:=.tuple [.list (out.map PyData.int),.int p]
theorem ZdM(out:List Int)(p:Int):SeqAt.shaped (ZbN out p)=true:=by
 have h1:=Zhy out
 unfold ZbN
 simp only[SeqAt.shaped,PyData.canLay0,PyData.canLayAll0,PyData.depth,PyData.depthAll,Zes out,Zd8 out]
 decide
theorem Zm9(out:List Int)(p:Int):(if true=true then !PyData.eqv (ZbN out p) (ZbN out p) else PyData.eqv (ZbN out p) (ZbN out p))=false:=by
 rw[if_pos rfl,SeqAt.eqv_refl _ (by unfold ZbN;simp[PyData.canLay0,PyData.canLayAll0,Zes out])];rfl
theorem Zjz{K:PySem.W.Frag}{H:Hp}{t b:Addr}{out:List Int}{p:Int}(ht:H t=some (.tup [.ref b,.int p]))(hb:H b=some (.lst (out.map V.int))):DV K H (.ref t) (ZbN out p):=.tup (SqT.of ht) (.cons (.lst (SqL.of hb) (ZjQ out)) (.cons (.int p) .nil))
def spRightS(K:PySem.W.Frag):Sp:=fun vs H Q _=>∃ (a du:Addr) (ss:List Str) (due:List Int) (room wy:Nat),vs=[.ref a,.int room,.int wy,.ref du]∧H a=some (.lst (ss.map V.str))∧ss.length≤60∧(∀s∈ss,s.length≤1000∧AZ s)∧H du=some (.lst (due.map V.int))∧ZdS ss due∧due.Perm (Z0 0 ss.length)∧1≤room∧room≤100∧2≤wy∧wy≤6∧∀H',Zu H H'→Q (.bl true) H'
theorem ZhX:∀ks:List Int,(Z0 0 ks.length).map (fun k=>ks.getD k.toNat 0)=ks:=fun ks=>by
 refine Q9 fun i=>?_
 unfold Z0
 rw[Qk,Qk]
 by_cases h:i<ks.length
 ·rw[Qab h,Qb h]
  simp[List.getD_eq_getElem?_getD,List.getElem?_eq_getElem h]
 ·rw[QD (by rw[Qar];omega),QD (by omega)]
  rfl
theorem ZjV:∀R:List (List Int),(R.map fun d=>(d.length:Int)).sum=(((R.map List.length).sum:Nat):Int)
 | []=>rfl
 | x::r=>by rw[Qn,Qn,QT,QT,ZjV r,Int.natCast_add]
theorem Zik{ss:List Str}{R:List (List Int)}(h:Zj9 ss R):(Zaz R).sum=(ss.length:Int):=by
 unfold Zaz
 rw[ZjV,← Zed,h.pm.length_eq,ZaF]
theorem Znl(R:List (List Int)):∀v∈Zaz R,0≤v:=fun v hv=>by
 obtain⟨d,_,rfl⟩:=Qx.mp hv
 omega
theorem Gr.lv{ns:List Int}{wy:Nat}{p:Int}{t:PT}(g:Gr ns wy 0 ns.length 1 p [t]):tLv t=Z0 0 ns.length∧tPl wy t∧tCo ns t=p:=by
 obtain⟨n1,n2⟩:=g.nf
 have lv:tLv t++[]=Zca 0 ns.length:=n1
 rw[QI,Zg3]at lv
 have co:tCo ns t+0=p:=g.co
 exact⟨lv,n2.1,by omega⟩
theorem Zcf.few{ss:List Str}{R:List (List Int)}{wy:Nat}{p:Int}(nr:Zj9 ss R)(h:Zcf ss R wy p):(R.length<2→p=0)∧(2≤R.length→(ss.length:Int)≤p):=by
 rcases h with⟨h1,h2⟩|⟨h1,t,g⟩
 ·exact⟨fun _=>h2,fun z=>by rw[h1]at z;exact absurd z (by decide)⟩
 ·obtain⟨lv,pl,co⟩:=g.lv
  have hll:(Zaz R).length=R.length:=by unfold Zaz;rw[Qa]
  rw[hll]at lv
  have hlen:(tLv t).length=R.length:=by rw[lv,ZaF]
  cases t with
  | leaf k =>
   have h1':R.length=1:=hlen.symm
   have c0:(0:Int)=p:=co
   exact⟨fun _=>c0.symm,fun z=>absurd z (by omega)⟩
  | node l =>
   have h2:2≤l.length:=pl.1
   have h3:=ZcJ wy l pl.2.2
   have hlen':(Zay l).length=R.length:=hlen
   refine⟨fun z=>absurd z (by omega),fun _=>?_⟩
   have hsz:Zd1 (Zaz R) l=(ss.length:Int):=by
    have:=Zi1 (Zaz R) (.node l)
    rw[lv,← hll,ZhX,Zik nr]at this
    exact this
   have hnn:=Ze9 (Znl R) l
   have c1:Zbp (Zaz R) l+Zd1 (Zaz R) l=p:=co
   omega
theorem ZhC(ns:List Int):∀ks:List Int,Zbp ns (ks.map PT.leaf)=0∧Zay (ks.map PT.leaf)=ks∧∀w,Zcl w (ks.map PT.leaf)
 | []=>⟨rfl,rfl,fun _=>trivial⟩
 | k::r=>by
  obtain⟨a,b,c⟩:=ZhC ns r
  refine⟨?_,?_,fun w=>⟨trivial,c w⟩⟩
  ·show (0:Int)+Zbp ns (r.map PT.leaf)=0
   omega
  ·show [k]++Zay (r.map PT.leaf)=k::r
   rw[b];rfl
theorem Zcf.flat{ss:List Str}{R:List (List Int)}{wy:Nat}{p:Int}(nr:Zj9 ss R)(h:Zcf ss R wy p)(h2:2≤R.length)(hw:R.length≤wy):p=(ss.length:Int):=by
 have hge:=(h.few nr).2 h2
 rcases h with⟨h1,_⟩|⟨h1,t,g⟩
 ·rw[h1]at h2;exact absurd h2 (by decide)
 ·have hll:(Zaz R).length=R.length:=by unfold Zaz;rw[Qa]
  obtain⟨a,b,c⟩:=ZhC (Zaz R) (Z0 0 R.length)
  have hnf:Nf wy 0 (Zaz R).length [.node ((Z0 0 R.length).map PT.leaf)]:=by
   refine⟨?_,⟨⟨by rw[Qa,ZaF];exact h2,by rw[Qa,ZaF];exact hw,c wy⟩,trivial⟩⟩
   show Zay ((Z0 0 R.length).map PT.leaf)++[]=_
   rw[QI,b,Zg3,hll]
  have hle:=g.le [.node ((Z0 0 R.length).map PT.leaf)] (Qh 1) (Qh 1) hnf
  have hsz:Zd1 (Zaz R) ((Z0 0 R.length).map PT.leaf)=(ss.length:Int):=by
   have:=Zi1 (Zaz R) (.node ((Z0 0 R.length).map PT.leaf))
   rw[show tLv (.node ((Z0 0 R.length).map PT.leaf))=Z0 0 R.length from b,← hll,ZhX,Zik nr]at this
   rw[hll]at this
   exact this
  have c1:Zbp (Zaz R) [.node ((Z0 0 R.length).map PT.leaf)]=(Zbp (Zaz R) ((Z0 0 R.length).map PT.leaf)+Zd1 (Zaz R) ((Z0 0 R.length).map PT.leaf))+0:=rfl
  rw[c1,a,hsz]at hle
  omega
mutual
theorem Zp7{w v:Nat}(h:w≤v):∀t:PT,tPl w t→tPl v t
 | .leaf _,_=>trivial
 | .node l,g=>⟨g.1,QM g.2.1 h,Zhp h l g.2.2⟩
theorem Zhp{w v:Nat}(h:w≤v):∀l:List PT,Zcl w l→Zcl v l
 | [],_=>trivial
 | t::r,g=>⟨Zp7 h t g.1,Zhp h r g.2⟩
end
theorem Zcf.more{ss:List Str}{R:List (List Int)}{wy vy:Nat}{p q:Int}(hwv:wy≤vy)(h:Zcf ss R wy p)(g:Zcf ss R vy q):q≤p:=by
 rcases h with⟨h1,h2⟩|⟨h1,t,h2⟩
 ·rcases g with⟨_,g2⟩|⟨g1,_⟩
  ·omega
  ·exact absurd h1 g1
 ·rcases g with⟨g1,_⟩|⟨_,u,g2⟩
  ·exact absurd g1 h1
  ·have:=g2.le [t] (Qh 1) (Qh 1) ⟨h2.nf.1,Zhp hwv _ h2.nf.2⟩
   rw[h2.co]at this
   exact this
theorem Zn9{ss:List Str}(hs:sortedS ss=true){A B:List Int}{c:Nat}{gone:List Int}{done R:List (List Int)}(h:Res ss A B c gone done R):(∀n∈A,0≤n∧n<(c:Int))→B=[]→done=[]→R.length≤1:=by
 induction h with
 | stop0=>intro _ _ hd;rw[hd];exact Qv _
 | stop=>intro _ _ hd;rw[hd];exact Qh _
 | switch _ _=>intro _ hB _;cases hB
 | stepN l _ _ ih=>intro hA hB hd;exact ih (fun n hn=>hA n (Qq hn)) hB hd
 | stepA l hc _ _ ih =>
  intro hA hB hd
  refine ih (fun n hn=>?_) hB hd
  rcases Qe.mp hn with hn|hn
  ·have:=hA n (Qq hn);omega
  ·rw[Qc.mp hn];omega
 | @stepB A B c gone done R n l hc hlt _ _ =>
  intro hA _ _
  exfalso
  obtain⟨n0,n1⟩:=hA n l.1
  have hn:n.toNat<ss.length:=by omega
  have:=ZiI hs (i:=n.toNat) (j:=c) (by omega) (Qb hn) (Qb hc)
  refine this ?_
  show cds ss[c]<cds ss[n.toNat]
  unfold ltK at hlt
  rw[Q7,Qi,Qi,Qb hn,Qb hc]at hlt
  exact hlt
theorem ZnK{ss:List Str}(hs:sortedS ss=true){k:Nat}{R:List (List Int)}(h:Res ss (first k) [] k [] [] R):R.length≤1:=Zn9 hs h (fun n hn=>Zcq hn) rfl rfl
theorem Zod(T:Zaj K mg cRow cMerge):Df P w K mg base 1 "_law_is_number" ["_law_thing"] ZjY:=by
 refine T.t_l_is_number.df ZfH (fun vs H Q E h=>?_) (fun cdv f A outer s H vs Q E hr h=>?_)
 ·rcases h with⟨_,rfl,_⟩|⟨_,_,rfl,_⟩<;>rfl
 refine⟨_,#[Zj,#[Zp,(@Ziy _ _ _ _ _ _ _ #[Zk,(Zoi K),(by rfl),T.b.n_isinstance,boot_isinstance,#[Za,‹0›,#[Za,#[Zj4,T.b.n_int,boot_int],#[Ze]]]] (@ZiH _ _ _ _ _ (@Zll _ _ _ _ #[Zk,(Zoi K),(by rfl),T.b.n_isinstance,boot_isinstance,#[Za,‹0›,#[Za,#[Zj4,T.b.n_bool,boot_bool],#[Ze]]]])))]],?_⟩
 rcases h with⟨i,rfl,q⟩|⟨a,xs,rfl,ha,q⟩
 ·exact⟨_,rfl,_, "int",_,_,rfl,.int i,ZgA K,_,rfl,ZkL ⟨_,rfl,_, "bool",_,_,rfl,.int i,Zie K,_,rfl,q⟩⟩
 ·exact⟨_,rfl,_, "int",_,_,rfl,.tup ha,ZgN K,_,rfl,Zdk q⟩
def Zru(K:PySem.W.Frag):Sp:=fun vs H Q _=>∃ (a:Addr) (ss:List Str) (room wy:Nat),vs=[.ref a,.int room,.int wy]∧H a=some (.lst (ss.map V.str))∧ss.length≤60∧(∀s∈ss,s.length≤1000∧AZ s)∧1≤room∧room≤100∧2≤wy∧wy≤5∧∀H',Zu H H'→Q (.bl true) H'
theorem ZqW(T:Zaj K mg cRow cMerge)(f_sort_by:Df P w K mg base 79 "sort_by" ["things", "room", "ways"] (Zl7 K))(f_runs_of:Df P w K mg base 5 "runs_of" ["things", "room"] (ZiW K))(f_l_is_number:Df P w K mg base 1 "_law_is_number" ["_law_thing"] ZjY):Df P w K mg base 80 "_law_cost_right" ["_law_things_here", "_law_room_here", "_law_ways"] (Zru K):=by
 refine T.t_l_cost_right.df ZbP (fun vs H Q E h=>?_) (fun cdv f A outer s H vs Q E hr h=>?_)
 ·obtain⟨a,ss,room,wy,rfl,_⟩:=h
  rfl
 obtain⟨a,ss,room,wy,rfl,ha,h60,hk,r1,r2,w2,w5,q⟩:=h
 refine⟨_,#[Zf,#[Zw,3,ZbP.nd,(Or.inl rfl),#[Zz,(ixT K),#[ZA,f_sort_by,hr,#[Za,‹0›,#[Za,‹1›,#[Za,‹2›,#[Ze]]]],(by rfl)],#[Zh]]],#[Zf,#[Zw,4,ZbP.nd,(Or.inl rfl),#[Zk,(ZbH K),(by rfl),T.b.n_len,Qu,#[Za,#[ZA,f_runs_of,hr,#[Za,‹0›,#[Za,‹1›,#[Ze]]],(by rfl)],#[Ze]]]],#[Zf,#[Zae,(@PW.pt _ _ _ (@ZlO _ _ _ _ _ _ _ (@Zln _ _ _ _ (@Zjb _ _ _ #[ZA,f_l_is_number,hr,#[Za,‹3›,#[Ze]],(by rfl)] (by intro _;rfl))) (@ZiQ _ _ _ _ #[Zn,ZlZ,#[ZdI,Zbn,‹3›,#[Zh]],#[ZdI,ZdU,‹4›,#[Zh]],(Zt _)]))),#[Zj,#[Zp,(@ZfU _ _ _ _)]],#[ZF]],#[Zf,#[Zae,(@PW.pt _ _ _ #[Zdo,#[Zn,ZeY,‹4›,#[Zh],(Zt _)],#[Zdo,#[Zn,ZoN,‹4›,‹2›,(Zt _)],(@ZdE _ _ _ _ #[Zn,ZlZ,‹3›,#[Zk,(ZbH K),(by rfl),T.b.n_len,Qu,#[Za,‹0›,#[Ze]]],(Zt _)])]]),#[Zj,#[Zp,(@ZfU _ _ _ _)]],#[ZF]],#[Zj,#[Zp,(@Ziy _ _ _ _ _ _ _ #[ZdI,ZmN,‹3›,#[ZG,ZdZ,#[Zk,(ZbH K),(by rfl),T.b.n_len,Qu,#[Za,‹0›,#[Ze]]],#[ZbY,ZgP,T.b.n_int,boot_int,#[Za,#[ZdI,ZeY,‹4›,#[Zh]],#[Ze]]]]] (@ZiH _ _ _ _ _ #[ZdI,ZoN,#[Zz,(ixT K),#[ZA,f_sort_by,hr,#[Za,‹0›,#[Za,‹1›,#[Za,#[ZG,Zal,‹2›,#[Zh]],#[Ze]]]],(by rfl)],#[Zh]],‹3›]))]]]]]],?_⟩
 refine⟨_,rfl,_,rfl,_,rfl,a,ss,room,wy,rfl,ha,h60,hk,r1,r2,w2,by omega,fun t b out p R H1 ht hb olex opm hres hC s1=>?_⟩
 refine⟨t,_,_,_,rfl,rfl,SqT.of ht,rfl,?_⟩
 refine⟨_,rfl,_,rfl,a,ss,room,rfl,SqL.of (s1 _ _ ha),h60,fun s hs=>(hk s hs).1,r2,fun r ls R' H2 hr0 hr2 hrl hls hrd hres' hR100 _ s2=>?_⟩
 have eR:R=R':=Zfb hres R' hres'
 subst eR
 have nr:=Zi0 r1 hres
 have hln:(((ls.map V.ref).length:Nat):Int)=(R.length:Int):=by rw[Qa];exact congrArg Nat.cast hrd.len
 have hRs:R.length≤ss.length:=by
  have h1:=Zhb R fun d hd=>(ZeH (Qae _ _) hres d hd).1
  have h2:=Zek (Qae _ _) hres
  omega
 obtain⟨f1,f2⟩:=hC.few nr
 refine⟨r,_,rfl,.inl (SqL.of hr2),?_⟩
 refine⟨_,rfl,.inl ⟨p,rfl,_,rfl,Zdk ?_⟩⟩
 refine⟨_,rfl,rfl,_,rfl,_,_,rfl,rfl,rfl,_,rfl,?_⟩
 have e1:(V.bl (decide (V.int p=V.int 0)))=V.bl (decide ((((ls.map V.ref).length:Nat):Int)<2)):=by
  congr 1
  rw[hln]
  by_cases h:R.length<2
  ·rw[decide_eq_true (by rw[f1 h]),decide_eq_true (by omega)]
  ·have:=f2 (by omega)
   rw[decide_eq_false (fun z=>by have:=V.int.inj z;omega),decide_eq_false (by omega)]
 rw[e1]
 refine Zjt rfl ?_
 have hss:(((ss.map V.str).length:Nat):Int)=(ss.length:Int):=by rw[Qa]
 refine⟨_,rfl,_,_,rfl,rfl,_,rfl,?_⟩
 refine Zj5 (decide ((((ls.map V.ref).length:Nat):Int)≤(wy:Int))&&!decide (V.int p=V.int (((ss.map V.str).length:Nat):Int))) (fun _ T' h1=>?_) (fun H3 s3=>?_)
 ·refine⟨_,rfl,_,rfl,_,_,rfl,rfl,_,rfl,?_⟩
  exact Zj5 _ (fun _ T2 h2=>⟨_,rfl,_,rfl,a,_,rfl,.inl (SqL.of (s2 _ _ (s1 _ _ ha))),rfl,_,rfl,h2 H2 (Zu.refl _)⟩) h1
 have e2:(decide ((1:Int)<(((ls.map V.ref).length:Nat):Int))&&(decide ((((ls.map V.ref).length:Nat):Int)≤(wy:Int))&&!decide (V.int p=V.int (((ss.map V.str).length:Nat):Int))))=false:=by
  by_cases h:2≤R.length
  ·by_cases h':R.length≤wy
   ·rw[decide_eq_true (show V.int p=V.int (((ss.map V.str).length:Nat):Int) by rw[hC.flat nr h h',hss])]
    simp
   ·rw[decide_eq_false (show ¬ (((ls.map V.ref).length:Nat):Int)≤(wy:Int) by omega)]
    simp
  ·rw[decide_eq_false (show ¬ (1:Int)<(((ls.map V.ref).length:Nat):Int) by omega)]
   simp
 rw[e2]
 refine Zdk ?_
 have s03:=s1.trans (s2.trans s3)
 have ha3:=s03 _ _ ha
 refine⟨_,rfl,_,rfl,a,_,rfl,.inl (SqL.of ha3),_,rfl,_,_,rfl,rfl,.inr ⟨_,rfl,_,_,rfl,rfl,.inl ⟨by omega,by omega⟩,_,_,rfl,rfl,_,rfl,?_⟩⟩
 have e3:(((ss.map V.str).length:Nat):Int)*(if decide ((1:Int)<(((ls.map V.ref).length:Nat):Int))=true then 1 else 0)≤p:=by
  rw[hss]
  by_cases h:2≤R.length
  ·rw[decide_eq_true (by omega),if_pos rfl]
   have:=f2 h
   omega
  ·rw[decide_eq_false (by omega),if_neg (by decide),f1 (by omega)]
   omega
 refine Zfn e3 ?_
 refine⟨_,rfl,_,rfl,_,rfl,_,_,rfl,rfl,a,ss,room,wy+1,by rw[Int.natCast_add];rfl,ha3,h60,hk,r1,r2,by omega,by omega,fun t' b' out' p' R2 H4 ht' hb' _ _ hres2 hC2 s4=>?_⟩
 have eR2:R=R2:=Zfb hres R2 hres2
 subst eR2
 refine⟨t',_,_,_,rfl,rfl,SqT.of ht',rfl,_,rfl,_,_,rfl,rfl,?_⟩
 show Q (V.bl (decide (p'≤p))) H4
 rw[decide_eq_true (hC.more (QaD wy) hC2)]
 exact q H4 (s03.trans s4)
theorem Zo8(xs:List V)(m:Nat):Zc9 xs none (some (m:Int))=xs.take m:=by
 unfold Zc9
 have e:HT.sIx xs.length xs.length (some (m:Int))=min m xs.length:=by
  unfold HT.sIx
  simp only
  rw[if_neg (by omega)]
  omega
 have e0:HT.sIx xs.length 0 none=0:=rfl
 rw[e,e0,List.drop_zero,Nat.sub_zero]
 by_cases h:m≤xs.length
 ·rw[Nat.min_eq_left h]
 ·rw[Nat.min_eq_right (by omega),Qz (Qh _),Qz (by omega)]
structure Zeg (ss ss':List Str):Prop where
 len:ss.length=ss'.length
 eq:∀i j,i<ss.length→j<ss.length→(ss.getD i "" = ss.getD j ""↔ss'.getD i "" = ss'.getD j "")
 lt:∀i j,i<ss.length→j<ss.length→(cds (ss.getD i "")<cds (ss.getD j "")↔cds (ss'.getD i "")<cds (ss'.getD j ""))
theorem Zeg.lex{ss ss':List Str}(h:Zeg ss ss'){n m:Int}(hn:0≤n∧n<ss.length)(hm:0≤m∧m<ss.length):ZT (kk (ks ss n)) (kk (ks ss m))=ZT (kk (ks ss' n)) (kk (ks ss' m)):=by
 show ZT [.inr (ss.getD n.toNat ""),.inl n] [.inr (ss.getD m.toNat ""),.inl m]=ZT [.inr (ss'.getD n.toNat ""),.inl n] [.inr (ss'.getD m.toNat ""),.inl m]
 rw[Z5 (.inr (ss.getD n.toNat "")),Z5 (.inr (ss'.getD n.toNat ""))]
 have e:=h.eq n.toNat m.toNat (by omega) (by omega)
 by_cases q:ss.getD n.toNat "" = ss.getD m.toNat ""
 ·rw[if_pos (congrArg Sum.inr q),if_pos (congrArg Sum.inr (e.mp q))]
 ·rw[if_neg (fun z=>q (Sum.inr.inj z)),if_neg (fun z=>q (e.mpr (Sum.inr.inj z)))]
  exact decide_eq_decide.mpr (h.lt n.toNat m.toNat (by omega) (by omega))
theorem Zeg.res{ss ss':List Str}(h:Zeg ss ss'){A B:List Int}{c:Nat}{gone:List Int}{done R:List (List Int)}(g:Res ss A B c gone done R):(∀n∈A++B,0≤n∧n<(c:Int))→c≤ss.length→Res ss' A B c gone done R:=by
 have least:∀ {A:List Int} {n:Int},(∀a∈A,0≤a∧a<(ss.length:Int))→Zdi ss A n→Zdi ss' A n:=fun hA l=>⟨l.1,fun m hm=>by rw[← h.lex (hA m hm) (hA _ l.1)];exact l.2 m hm⟩
 have lt:∀ {c:Nat} {n:Int},c<ss.length→0≤n∧n<(ss.length:Int)→(ltK ss (c:Int) n↔ltK ss' (c:Int) n):=fun hc hn=>h.lt _ _ (by omega) (by omega)
 have hl:=h.len
 induction g with
 | stop0=>intro _ _;exact .stop0
 | stop=>intro _ _;exact .stop
 | switch _ ih=>intro mem hc;exact .switch (ih (by simpa using mem) hc)
 | @stepN A B c gone done R n l hcN _ ih =>
  intro mem hc
  refine .stepN (least (fun a ha=>by have:=mem a (Qj _ ha);omega) l) (by omega) (ih (fun m hm=>mem m ?_) hc)
  rcases Qe.mp hm with hm|hm
  ·exact Qj _ (Qq hm)
  ·exact Ql _ hm
 | @stepA A B c gone done R n l hcN hlt _ ih =>
  intro mem hc
  have hn:=mem n (Qj _ l.1)
  refine .stepA (least (fun a ha=>by have:=mem a (Qj _ ha);omega) l) (by omega) (fun z=>hlt ((lt hcN (by omega)).mpr z)) (ih (fun m hm=>?_) hcN)
  have:m∈A++B∨m=(c:Int):=by
   simp only[List.mem_append,List.mem_singleton]at hm ⊢
   rcases hm with(h|h)|h
   ·exact .inl (.inl (Qq h))
   ·exact .inr h
   ·exact .inl (.inr h)
  rcases this with h|h
  ·have:=mem m h;omega
  ·omega
 | @stepB A B c gone done R n l hcN hlt _ ih =>
  intro mem hc
  have hn:=mem n (Qj _ l.1)
  refine .stepB (least (fun a ha=>by have:=mem a (Qj _ ha);omega) l) (by omega) ((lt hcN (by omega)).mp hlt) (ih (fun m hm=>?_) hcN)
  have:m∈A++B∨m=(c:Int):=by
   simp only[List.mem_append,List.mem_singleton]at hm ⊢
   rcases hm with h|h|h
   ·exact .inl (.inl (Qq h))
   ·exact .inl (.inr h)
   ·exact .inr h
  rcases this with h|h
  ·have:=mem m h;omega
  ·omega
theorem ZlG:∀p a b:List Nat,p++a<p++b↔a<b
 | [],a,b=>Iff.rfl
 | c::r,a,b=>by
  rw[List.cons_append,List.cons_append,List.cons_lt_cons_iff,ZlG r a b]
  constructor
  ·rintro(h|⟨_,h⟩)
   ·exact absurd h (Qak _)
   ·exact h
  ·intro h;exact .inr ⟨rfl,h⟩
theorem Zlm{ss:List Str}{w:Str→Str}{f:List Nat→List Nat}(hc:∀s∈ss,cds (w s)=f (cds s))(inj:∀a b,f a=f b→a=b)(lt:∀a b,f a<f b↔a<b):Zeg ss (ss.map w):=by
 have at1:∀i,i<ss.length→∃s,s∈ss∧ss.getD i "" = s∧(ss.map w).getD i "" = w s:=fun i hi=>by
  refine⟨ss[i],Q0 hi,?_,?_⟩
  ·rw[Qi,Qb hi];rfl
  ·rw[Qi,Qk,Qb hi];rfl
 refine⟨by rw[Qa],fun i j hi hj=>?_,fun i j hi hj=>?_⟩
 ·obtain⟨s,hs,e1,e2⟩:=at1 i hi
  obtain⟨u,hu,e3,e4⟩:=at1 j hj
  rw[e1,e2,e3,e4]
  constructor
  ·intro h;rw[h]
  ·intro h
   have:=congrArg cds h
   rw[hc s hs,hc u hu]at this
   exact Zoc (inj _ _ this)
 ·obtain⟨s,hs,e1,e2⟩:=at1 i hi
  obtain⟨u,hu,e3,e4⟩:=at1 j hj
  rw[e1,e2,e3,e4,hc s hs,hc u hu,lt]
theorem ZhU(a:Str)(ss:List Str):Zeg ss (ss.map (a++·)):=Zlm (f:=fun l=>cds a++l) (fun s _=>Zhu a s) (fun x y h=>List.append_cancel_left h) (fun x y=>ZlG _ x y)
theorem Zi8{ss zs:List Str}(h:Zeg ss zs){room:Nat}{R R':List (List Int)}(g:Res ss (first (min room ss.length)) [] (min room ss.length) [] [] R)(g':Res zs (first (min room zs.length)) [] (min room zs.length) [] [] R'):R=R':=by
 rw[← h.len]at g'
 refine Zfb (h.res g ?_ (by omega)) R' g'
 rw[QI]
 intro n hn
 have:=Zcq hn
 omega
theorem Zeg.lexP{ss zs:List Str}(h:Zeg ss zs){ns:List Int}(hm:∀n∈ns,0≤n∧n<ss.length)(g:ZdS zs ns):ZdS ss ns:=g.imp_of_mem fun {x y} hx hy hxy=>by rw[h.lex (hm x hx) (hm y hy)];exact hxy
def ZnI(H:Hp)(tp:Addr):Prop:=∃ (th t b:Addr) (ss:List Str) (room wy:Nat) (out:List Int) (p:Int) (R:List (List Int)),H tp=some (.tup [.ref th,.int room,.int wy,.ref t])∧H th=some (.lst (ss.map V.str))∧H t=some (.tup [.ref b,.int p])∧H b=some (.lst (out.map V.int))∧ss.length≤60∧(∀s∈ss,s.length≤1000∧AZ s)∧1≤room∧room≤100∧2≤wy∧wy≤6∧ZdS ss out∧out.Perm (Z0 0 ss.length)∧Res ss (first (min room ss.length)) [] (min room ss.length) [] [] R∧Zcf ss R wy p
theorem ZnI.same{H H':Hp}{tp:Addr}(h:ZnI H tp)(s:Zu H H'):ZnI H' tp:=by
 obtain⟨th,t,b,ss,room,wy,out,p,R,h1,h2,h3,h4,h5⟩:=h
 exact⟨th,t,b,ss,room,wy,out,p,R,s _ _ h1,s _ _ h2,s _ _ h3,s _ _ h4,h5⟩
def Zlu(H:Hp)(ah:Addr):Prop:=∃tps:List Addr,H ah=some (.lst (tps.map V.ref))∧tps.length≤1∧∀tp∈tps,ZnI H tp
theorem Zlu.same{H H':Hp}{ah:Addr}(h:Zlu H ah)(s:Zu H H'):Zlu H' ah:=by
 obtain⟨tps,h1,h2,h3⟩:=h
 exact⟨tps,s _ _ h1,h2,fun tp htp=>(h3 tp htp).same s⟩
theorem cds_len'(s:Str):(cds s).length=s.length:=by unfold cds;simp;rfl
def Znu:List Str:=["a", "knows", "zebrazebra", "b"]
theorem ZnA:∀s∈Znu,s.length≤12∧AZ s:=by unfold AZ cds;ac_rfl
def Zj0(K:PySem.W.Frag):Sp:=fun vs H Q _=>∃ (a:Addr) (ns:List Int),vs=[.ref a]∧SqL K H a (ns.map V.int)∧ns.length≤63∧∀H',Q (.bl true) H'
theorem Zps{f:Addr}{fd:FuncData}(F:Fun K "law" "law" Zcm f fd)(T:Zaj K mg cRow cMerge):ZdT P w K mg base CX0 90 f fd ["_law_script"] (Zj0 K):=by
 have f_l_mix:Df P w K mg base 1 "_law_mix" ["_law_cell", "_law_k"] Zmn:=ZoX T
 have f_l_left:Df P w K mg base 1 "_law_left" ["_law_script", "_law_k"] (Zlx K):=ZnX T
 have f_l_pick:Df P w K mg base 2 "_law_pick" ["_law_left_here", "_law_many"] Zez:=ZnP T f_l_mix
 have f_l_stems:Df P w K mg base 3 "_law_stems" ["_law_left_here"] ZgT:=Zlq T f_l_pick
 have f_l_key:Df P w K mg base 3 "_law_key" ["_law_left_here", "_law_stems_here"] ZlP:=Zpk T f_l_pick
 have f_alike_from:Df P w K mg base 1 "alike_from" ["one", "other", "far"] Zcd:=Zf4 T
 have f_alike:Df P w K mg base 2 "alike" ["one", "other"] Ze8:=ZmB T f_alike_from
 have f_order_at:Df P w K mg base 1 "order_at" ["one", "other", "at"] Zfd:=Zm5 T
 have f_liken:Df P w K mg base 3 "liken" ["one", "other"] Ze6:=ZmR T f_alike f_order_at
 have f_liken_from:Df P w K mg base 2 "liken_from" ["one", "other", "far"] Zdr:=ZfZ T f_alike_from f_order_at
 have f_first_break:Df P w K mg base 4 "first_break" ["keys"] (Zlv K):=ZlH T f_liken
 have f_refuse_break:Df P w K mg base 5 "refuse_break" ["number", "keys"] (ZfF K):=Zki T f_first_break
 have f_alikes:Df P w K mg base 3 "alikes" ["row"] (Zfl K):=ZkO T f_alike
 have f_halves:Df P w K mg base 1 "halves" ["numbers"] (Zeo K true):=ZkN T
 have f_Row_to_go:=Znj T (P:=P) (w:=w) (base:=base)
 have f_Row_head:=Zoo T f_Row_to_go
 have f_Row_init:=ZiO T f_alikes
 have f_Merge_meet:=ZnV T f_Row_head f_liken_from
 have f_Merge_play:=ZjM T f_Row_head f_halves f_Merge_meet 8
 have f_Merge_play_all:=ZhD T f_Merge_play
 have f_Merge_init:=Zf5 T f_refuse_break f_Row_init f_Merge_play_all
 have f_Merge_coming:=ZkB T f_Row_head
 have f_way_up:Df P w K mg base 2 "way_up" ["numbers", "n"] Zme:=Zo7 T f_halves
 have f_matches_up:=Zi2 T f_way_up
 have f_Merge_play_again:=Zk9 T f_Merge_meet
 have f_Merge_send_out:=Zon T f_Row_head f_matches_up f_Merge_play_again
 have f_Merge_take:=Znv T f_Merge_coming f_Merge_send_out
 have f_Merge_take_few:=Zpz T f_Merge_take
 have f_how_many:=Zin T (P:=P) (w:=w) (base:=base)
 have f_merged:=ZkG T f_Merge_init f_Merge_take_few f_how_many
 have f_is_number:=Zpe T (P:=P) (w:=w) (base:=base)
 have f_merged_by:=ZoS T f_is_number f_merged 61
 have f_l_things:Df P w K mg base 4 "_law_things" ["_law_left_here"] Zij:=ZkD T f_l_pick f_l_stems f_l_key
 have f_l_room:Df P w K mg base 3 "_law_room" ["_law_left_here"] Zls:=Zoe T f_l_pick
 have f_run_behind:=Zkg T f_liken
 have f_runs_of:=ZnN T f_run_behind
 have f_least_cut':=fun ns wy=>Zo1 T (P:=P) (w:=w) (base:=base) ns wy
 have f_least_tree':=fun ns wy=>Zmg T ns wy (f_least_cut' ns wy)
 have f_least_grove':=fun ns wy=>ZmO T ns wy (f_least_cut' ns wy)
 have f_least_groves':=fun ns wy=>Zkw T ns wy (f_least_tree' ns wy) (f_least_grove' ns wy)
 have f_near_plan:=Zn8 T f_least_groves'
 have f_sort_by:=Zov T f_runs_of f_near_plan f_merged_by
 have f_l_is_number:=Zod T (P:=P) (w:=w) (base:=base)
 have f_l_cost_right:=ZqW T f_sort_by f_runs_of f_l_is_number
 refine F.ok Zbo (fun vs H Q E h=>?_) (fun cdv A outer s H vs Q E hr h=>?_)
 ·obtain⟨a,ns,rfl,_⟩:=h
  rfl
 obtain⟨a,sc,rfl,hS,h63,q⟩:=h
 refine⟨_,#[Zf,#[Zw,1,Zbo.nd,(Or.inl rfl),#[Za9,#[Ze]]],#[Zf,#[Zb8,PassesOwn.never,#[ZbX,T.b.n_range,#[Za,#[ZG,Zal,#[Zh],#[Zk,(ZeD rfl),(by rfl),T.b.n_min,boot_min,#[Za,#[Zh],#[Za,#[Zk,(ZbH K),(by rfl),T.b.n_len,Qu,#[Za,‹0›,#[Ze]]],#[Ze]]]]],#[Ze]]],#[Zx,2,Zbo.nd],#[Zf,#[Zw,3,Zbo.nd,(Or.inl rfl),#[ZA,f_l_left,hr,#[Za,‹0›,#[Za,‹2›,#[Ze]]],(by rfl)]],#[Zf,#[Zw,4,Zbo.nd,(Or.inl rfl),#[ZcB,(slL K),#[ZA,f_l_things,hr,#[Za,‹3›,#[Ze]],(by rfl)],(@Zc3 _),(@Zcb _ _ _ #[Zh])]],#[Zf,(@ZpD _ _ 5 6 _ _ _ _ _ _ _ _ _ _ _ rfl Zbo.nd rfl rfl (by decide) rfl rfl #[Za,#[ZA,f_l_room,hr,#[Za,‹3›,#[Ze]],(by rfl)],#[Za,#[ZG,Zal,#[Zh],#[ZA,f_l_pick,hr,#[Za,‹3›,#[Za,#[Zh],#[Ze]]],(by rfl)]],#[Ze]]] rfl (by rfl)),#[Zf,#[Zae,(@Zln _ _ _ _ (@Zjb _ _ _ #[ZA,f_l_cost_right,hr,#[Za,‹4›,#[Za,‹5›,#[Za,‹6›,#[Ze]]]],(by rfl)] (by intro _;rfl))),#[Zj,#[Zp,(@ZfU _ _ _ _)]],#[ZF]],#[Zf,#[Zae,#[Zn,ZlZ,#[Zz,(ixT K),#[ZA,f_sort_by,hr,#[Za,#[Zk,(ZlV K),(by rfl),T.b.n_sorted,boot_sorted,#[Za,‹4›,#[Ze]]],#[Za,‹5›,#[Za,‹6›,#[Ze]]]],(by rfl)],#[Zh]],#[Zh],(Zt _)],#[Zj,#[Zp,(@ZfU _ _ _ _)]],#[ZF]],#[Zf,#[Zw,7,Zbo.nd,(Or.inr rfl),#[Zz,(ixL K),#[Za9,#[Za,#[ZaS],#[Za,#[ZaS],#[Za,#[ZaS],#[Za,#[ZaS],#[Ze]]]]]],#[ZA,f_l_pick,hr,#[Za,‹3›,#[Za,#[Zh],#[Ze]]],(by rfl)]]],#[Zf,#[Zw,8,Zbo.nd,(Or.inl rfl),#[ZA,f_sort_by,hr,#[Za,‹4›,#[Za,‹5›,#[Za,‹6›,#[Ze]]]],(by rfl)]],#[Zf,#[Zd3,9,Zbo.nd,Zji,#[iL,K,‹4›],(fun _ _ _ _=>#[cg,14,Zji]),(fun _ _ _ _=>(@Zbg _)),(fun _ _ _ _=>#[ZG,Zfi,#[cv,7,Zji],#[cw,14,Zji]])],#[Zf,#[Zae,#[Zn,(@neD _ K _ hr (by rfl)),#[ZA,f_sort_by,hr,#[Za,‹9›,#[Za,‹5›,#[Za,‹6›,#[Ze]]]],(by rfl)],‹8›,(Zt _)],#[Zj,#[Zp,(@ZfU _ _ _ _)]],#[ZF]],#[Zf,#[Zb8,PassesOwn.never,#[iL,K,‹1›],#[gT,K,4,#[Zv,#[Zx,10,Zbo.nd],#[Zv,#[Zx,11,Zbo.nd],#[Zv,#[Zx,12,Zbo.nd],#[Zv,#[Zx,13,Zbo.nd],(@ZaL _)]]]]],#[Zj,#[Zae,#[Zn,(@neD _ K _ hr (by rfl)),#[ZA,f_sort_by,hr,#[Za,‹10›,#[Za,‹11›,#[Za,‹12›,#[Ze]]]],(by rfl)],‹13›,(Zt _)],#[Zj,#[Zp,(@ZfU _ _ _ _)]],#[ZF]]]],#[Zj,#[Zw,1,Zbo.nd,(Or.inl rfl),#[Za9,#[Za,#[ZU,#[Za,‹4›,#[Za,‹5›,#[Za,‹6›,#[Za,‹8›,#[Ze]]]]]],#[Ze]]]]]]]]]]]]]]]],#[Zj,#[Zp,(@ZfU _ _ _ _)]]]],?_⟩
 clear f_l_cost_right f_l_is_number f_sort_by f_near_plan f_least_groves' f_least_grove' f_least_tree' f_least_cut' f_runs_of f_run_behind f_l_room f_l_things f_merged_by f_is_number f_merged f_how_many f_Merge_take_few f_Merge_take f_Merge_send_out f_Merge_play_again f_matches_up f_way_up f_Merge_coming f_Merge_init f_Merge_play_all f_Merge_play f_Merge_meet f_Row_init f_Row_head f_Row_to_go f_halves f_alikes f_refuse_break f_first_break f_liken_from f_liken f_order_at f_alike f_alike_from f_l_key f_l_stems f_l_pick f_l_left f_l_mix
 have hlen:(sc.map V.int).length=sc.length:=by rw[Qa]
 refine⟨(by show 0≤sizeLine;decide),fun ah0 hah0=>?_⟩
 have sah:=Zi hah0 (.lst [])
 have hA0:Zlu (upd H ah0 (.lst [])) ah0:=⟨[],Zc,Qv _,fun tp h=>by cases h⟩
 have hS1:=sah.seq hS
 generalize upd H ah0 (.lst [])=H1 at sah hA0 hS1 ⊢
 refine⟨_,rfl,a,_,rfl,.inl hS1,_,_,rfl,_,_,rfl,rfl,_,rfl,by split<;>omega,by split<;>omega,?_⟩
 refine ZbW (fun i σ H2=>∃ (ah:Addr) (v2 v3 v4 v5 v6 v7 v8 v9 v10 v11 v12 v13:Option V),σ=[some (.ref a),some (.ref ah),v2,v3,v4,v5,v6,v7,v8,v9,v10,v11,v12,v13]∧Zlu H2 ah∧Zu H1 H2) ⟨ah0,_,_,_,_,_,_,_,_,_,_,_,_,rfl,hA0,Zu.refl _⟩ ?_ ?_
 ·rintro ii σ H2 hi ⟨ah,v2,v3,v4,v5,v6,v7,v8,v9,v10,v11,v12,v13,rfl,hA2,s2⟩
  have hi8:(ii:Int)<65:=by split at hi<;>omega
  clear hi
  refine⟨_,rfl,_,rfl,a,sc,_,rfl,s2.seq hS1,h63,by omega,by omega,fun p H3 hp L3 s3=>?_⟩
  refine⟨_,rfl,p,0,rfl,L3,by decide,fun th0 ss0 c4 H4 hth0 hth h60' h28' L4 a1 a2 B4=>?_⟩
  have s24:Zu H2 H4:=fun b o hb=>B4 b o (s3 b o hb) (Zb hb hp)
  refine⟨_,rfl,th0,_,rfl,SqL.of hth,fun th hthn=>?_⟩
  have e:Zc9 (ss0.map V.str) none (some 30)=(ss0.take 30).map V.str:=by rw[show (30:Int)=((30:Nat):Int) from rfl,Zo8,QaN]
  rw[e]
  have s5:=Zi hthn (.lst ((ss0.take 30).map V.str))
  have hth5:(upd H4 th (.lst ((ss0.take 30).map V.str))) th=some (.lst ((ss0.take 30).map V.str)):=Zc
  have h28:∀s∈ss0.take 30,s.length≤28∧AZ s:=fun s hs=>h28' s (Q8 hs)
  have h30:(ss0.take 30).length≤30:=by rw[QA];omega
  have L5:=L4.same s5
  have s25:=s24.trans s5
  have nthp:th≠p:=fun z=>by obtain⟨o,ho⟩:=L4.here;rw[z,ho]at hthn;cases hthn
  generalize ss0.take 30=ss at hth5 h28 h30 s25 L5 ⊢
  generalize upd H4 th (.lst (ss.map V.str))=H5 at hth5 s25 L5 ⊢
  clear s24 s5 hthn hth B4 L4 hth0 h28' h60' e
  have hk:∀s∈ss,s.length≤1000∧AZ s:=fun s hs=>⟨by have:=(h28 s hs).1;omega,(h28 s hs).2⟩
  refine⟨_,rfl,p,c4,rfl,L5,by omega,fun rm c6 H6 rm1 rm2 L6 b1 b2 B6=>?_⟩
  refine⟨_,rfl,p,c6,_,rfl,L6,by omega,by decide,by decide,fun pk H7 pk0 pk1 L7 B7=>⟨_,_,rfl,rfl,?_⟩⟩
  have B57:=B6.trans B7
  have hth7:=B57 _ _ hth5 nthp
  have s27:Zu H2 H7:=fun b o hb=>B57 _ _ (s25 b o hb) (Zb hb hp)
  obtain⟨rn,rfl⟩:∃rn:Nat,rm=(rn:Int):=⟨rm.toNat,by omega⟩
  obtain⟨wn,hwn⟩:∃wn:Nat,2+pk=(wn:Int):=⟨(2+pk).toNat,by omega⟩
  simp only[hwn]
  refine⟨_,_,rfl,?_⟩
  refine⟨_,rfl,_,rfl,_,rfl,th,ss,rn,wn,rfl,hth7,by omega,hk,by omega,by omega,by omega,by omega,fun H8 s8=>⟨_,rfl,Zdk ?_⟩⟩
  have hth8:=s8 _ _ hth7
  refine⟨_,rfl,th,ss,rfl,SqL.of hth8,by omega,fun sd sr hsd hperm hsrt=>?_⟩
  have s9:=Zi hsd (.lst (sr.map V.str))
  have hsl:sr.length=ss.length:=hperm.length_eq
  refine⟨_,rfl,_,rfl,sd,sr,rn,wn,rfl,Zc,by omega,fun s hs=>hk s (hperm.mem_iff.mp hs),by omega,by omega,by omega,by omega,fun t1 b1 out1 p1 R1 H10 ht1 hb1 _ _ hres1 hC1 s10=>?_⟩
  have hp1:p1=0:=(hC1.few (Zi0 (by omega) hres1)).1 (by have:=ZnK hsrt hres1;omega)
  subst hp1
  refine⟨t1,_,_,_,rfl,rfl,SqT.of ht1,rfl,rfl,_,rfl,Zjt rfl ?_⟩
  have s810:=s9.trans s10
  have s710:=s8.trans s810
  have hth10:=s710 _ _ hth7
  have L10:=L7.same s710
  have s210:=s27.trans s710
  clear s9 s10 s810 ht1 hb1 hres1 hC1 s8 hth8 hth7 L7 s27 B57 B6 B7 L6 hth5 s25 L5
  refine⟨(by show 4≤sizeLine;decide),fun e4 he4=>?_⟩
  have s11:=Zi he4 (.lst (Znu.map V.str))
  have ne4p:e4≠p:=fun z=>by obtain⟨o,ho⟩:=L10.here;rw[z,ho]at he4;cases he4
  refine⟨_,rfl,p,c6+1,_,rfl,L10.same s11,by omega,by decide,by decide,fun pk2 H12 pk20 pk21 L12 B12=>?_⟩
  have he12:H12 e4=some (.lst (Znu.map V.str)):=B12 _ _ Zc ne4p
  obtain⟨z,hz,hat⟩:=ZgU (ss:=Znu) pk20 pk21
  obtain⟨z12,zaz⟩:=ZnA z hz
  refine⟨e4,_,_,_,rfl,rfl,SqL.of he12,hat,?_⟩
  have hth12:=B12 _ _ (s11 _ _ hth10) nthp
  have s212:Zu H2 H12:=fun b o hb=>B12 _ _ (s11 _ _ (s210 b o hb)) (Zb hb hp)
  refine⟨_,rfl,_,rfl,_,rfl,th,ss,rn,wn,rfl,hth12,by omega,hk,by omega,by omega,by omega,by omega,fun t b out pp R H13 ht hb olex opm hres hC s13=>?_⟩
  have hth13:=s13 _ _ hth12
  refine⟨_,rfl,th,rfl,⟨_,SqL.of hth13⟩,fun D hD=>?_⟩
  refine ZbA (K:=K) (a:=th) (xs:=ss.map V.str) (fun i zs σ H14=>(∃v:Option V,σ=[some (.ref a),some (.ref ah),some (.int (0+(ii:Int))),some (.ref p),some (.ref th),some (.int rn),some (.int wn),some (.str z),some (.ref t),v9,v10,v11,v12,v13,v])∧zs=((ss.take i).map (z++·)).map V.str∧i≤ss.length∧H14 D=some (.lst zs)∧Zu H13 H14) ?_ (fun _ _ _ _ h=>SqL.of (h.2.2.2.2 _ _ hth13)) ?_ ?_
  ·exact⟨⟨none,rfl⟩,rfl,Qv _,Zc,Zi hD _⟩
  ·rintro i y zs σ H14 hy ⟨⟨v,rfl⟩,rfl,hi,hD14,s14⟩
   rw[Qk]at hy
   cases hx:ss[i]? with
   | none=>rw[hx]at hy;cases hy
   | some x =>
   rw[hx]at hy
   cases hy
   have hil:i<ss.length:=(Qd.mp hx).1
   have hx28:=(h28 x (Qr hx)).1
   refine⟨_,rfl,_,rfl,_,_,rfl,rfl,Zcg (by omega),hD14,(by rw[Qa,Qa,QA,sizeLine_eq];omega),⟨_,rfl⟩,?_,hil,Zc,fun c o hc=>?_⟩
   ·rw[QK,hx,Qg,Qg];rfl
   ·rw[Zd (Zb hc hD)];exact s14 c o hc
  rintro zs σ H14 ⟨⟨v,rfl⟩,rfl,_,hD14,s14⟩
  rw[Qa,Qz (Qh _)]at hD14
  have hal:=ZhU z ss
  have hkz:∀s∈ss.map (z++·),s.length≤1000∧AZ s:=fun s hs=>by
   obtain⟨x,hx,rfl⟩:=Qx.mp hs
   refine⟨?_,zaz.app (h28 x hx).2⟩
   have:=(h28 x hx).1
   show (z++x).length≤1000
   rw[← cds_len',Zhu,Qf,cds_len',cds_len']
   omega
  have ht14:=s14 _ _ ht
  have hb14:=s14 _ _ hb
  refine⟨_,rfl,_,rfl,_,rfl,D,ss.map (z++·),rn,wn,rfl,hD14,by rw[Qa];omega,hkz,by omega,by omega,by omega,by omega,fun t2 b2 out2 p2 R2 H15 ht2 hb2 olex2 opm2 hres2 hC2 s15=>?_⟩
  have eR:R=R2:=Zi8 hal hres hres2
  subst eR
  have hlz:(ss.map (z++·)).length=ss.length:=Qa _
  have olex2':ZdS ss out2:=hal.lexP (fun n hn=>by
   have:=opm2.mem_iff.mp hn
   rw[hlz]at this
   unfold Z0 at this
   obtain⟨m,hm,rfl⟩:=Qx.mp this
   have:=Q5.mp hm
   omega) olex2
  have eo:out2=out:=ZjJ olex2' olex (by rw[hlz]at opm2;exact opm2.trans opm.symm)
  subst eo
  have ep:p2=pp:=Zcf.one (ss:=ss) (by rcases hC2 with h|h;exact .inl h;exact .inr h) hC
  subst ep
  refine⟨_,rfl,ZbN out2 p2,ZbN out2 p2,Zjz ht2 hb2,Zjz (s15 _ _ ht14) (s15 _ _ hb14),ZdM _ _,ZdM _ _,_,rfl,?_⟩
  rw[Zm9]
  refine Zdk ?_
  have s1315:=s14.trans s15
  have s215:=s212.trans (s13.trans s1315)
  have hA15:=hA2.same s215
  have hth15:=s1315 _ _ hth13
  have ht15:=s1315 _ _ ht
  have hb15:=s1315 _ _ hb
  obtain⟨tps,htp,htl,htps⟩:=hA15
  refine⟨_,rfl,ah,rfl,⟨_,SqL.of htp⟩,?_⟩
  refine ZfA (K:=K) (a:=ah) (xs:=tps.map V.ref) (fun i σ H16=>∃v10' v11' v12' v13':Option V,σ=[some (.ref a),some (.ref ah),some (.int (0+(ii:Int))),some (.ref p),some (.ref th),some (.int rn),some (.int wn),some (.str z),some (.ref t),some (.ref D),v10',v11',v12',v13']∧Zu H15 H16) ⟨_,_,_,_,rfl,Zu.refl _⟩ (fun _ _ _ _ h=>by obtain⟨_,_,_,_,_,h⟩:=h;exact SqL.of (h _ _ htp)) ?_ ?_
  ·rintro i x σ H16 hx ⟨v10',v11',v12',v13',rfl,s16⟩
   rw[Qk]at hx
   cases hy:tps[i]? with
   | none=>rw[hy]at hx;cases hx
   | some tp =>
   rw[hy]at hx
   cases hx
   obtain⟨th3,t3,b3,ss3,room3,wy3,out3,p3,R3,q1,q2,q3,q4,q5,q6,q7,q8,q9,q10,q11,q12,q13,q14⟩:=(htps tp (Qr hy)).same s16
   refine⟨tp,_,rfl,SqT.of q1,rfl,_,_,rfl,_,_,rfl,_,_,rfl,_,_,rfl,rfl,?_⟩
   refine⟨_,rfl,_,rfl,_,rfl,th3,ss3,room3,wy3,rfl,q2,q5,q6,q7,q8,q9,q10,fun t4 b4 out4 p4 R4 H17 ht4 hb4 olex4 opm4 hres4 hC4 s17=>?_⟩
   have eo4:out4=out3:=ZjJ olex4 q11 (opm4.trans q12.symm)
   subst eo4
   have eR4:R3=R4:=Zfb q13 R4 hres4
   subst eR4
   have ep4:p4=p3:=hC4.one q14
   subst ep4
   refine⟨_,rfl,ZbN out4 p4,ZbN out4 p4,Zjz ht4 hb4,Zjz (s17 _ _ q3) (s17 _ _ q4),ZdM _ _,ZdM _ _,_,rfl,?_⟩
   rw[Zm9]
   exact Zdk ⟨_,_,_,_,rfl,s16.trans s17⟩
  ·rintro σ H16 ⟨v10',v11',v12',v13',rfl,s16⟩
   refine⟨_,rfl,_,rfl,_,rfl,_,rfl,(by show 4≤sizeLine;decide),fun tq htq=>⟨(by show 1≤sizeLine;decide),fun an han=>?_⟩⟩
   have s17:=Zi htq (.tup [.ref th,.int rn,.int wn,.ref t])
   have s18:=Zi han (.lst [.ref tq])
   have s1518:=s16.trans (s17.trans s18)
   refine⟨an,_,_,_,_,_,_,_,_,_,_,_,_,rfl,⟨[tq],Zc,Qh _,fun tp htp'=>?_⟩,s2.trans (s215.trans s1518)⟩
   rw[Qc.mp htp']
   exact⟨th,t,b,ss,rn,wn,out2,p2,R,s18 _ _ Zc,s1518 _ _ hth15,s1518 _ _ ht15,s1518 _ _ hb15,by omega,hk,by omega,by omega,by omega,by omega,olex,opm,hres,hC⟩
 ·rintro σ H2 ⟨ah,v2,v3,v4,v5,v6,v7,v8,v9,v10,v11,v12,v13,rfl,_,s2⟩
  exact q H2
end
theorem ZQ{K:PySem.W.Frag}{h:Heap}{mg:Str→Option Value}{x:Str}{st:Stmt}{ps:List Str}{f:Addr}{od an:Option Addr}{sl:Array (Option Value)}{oc kV dc pm cd ct:Value}(X:K.In h)(G:h.Ns mainGlobals mg)
  (a:PySem.W.nsIn K mainGlobals x=some (some (.ref f))) (l:K.lookup f=some ⟨oc,od,.func (PySem.W.fnOf x x (Zq st) (Zm st) (Zg st) .none kV dc pm an cd ct),sl⟩) (c:PySem.W.codeIn K cd x=true) (k:PySem.W.keepIn K (.ref f)=true)
  (hb:∀ (kV doc pm:Value) (an:Option Addr) (cdv ct:Value) (us:List Value),us.length=ps.length→bindArgs (PySem.W.fnOf x x (Zq st) (Zm st) (Zg st) .none kV doc pm an cdv ct) ⟨us,[]⟩=pure (ps.zip us)):Top K mg x st ps :=
 ⟨_,_,ZY (st:=st) l c k,PySem.W.mg_of X G a,(ZY (st:=st) l c k).binds hb⟩
theorem ZdQ:∀us:List Value,us.length=1→∃a0,us=[a0]
 | [a0],_=>⟨a0,rfl⟩
theorem Zdf:∀us:List Value,us.length=2→∃a0 a1,us=[a0,a1]
 | [a0,a1],_=>⟨a0,a1,rfl⟩
theorem Zhz:∀us:List Value,us.length=3→∃a0 a1 a2,us=[a0,a1,a2]
 | [a0,a1,a2],_=>⟨a0,a1,a2,rfl⟩
theorem Zre:∀us:List Value,us.length=4→∃a0 a1 a2 a3,us=[a0,a1,a2,a3]
 | [a0,a1,a2,a3],_=>⟨a0,a1,a2,a3,rfl⟩
theorem all_mk{l:PySem.W.OpenLaw}{w:World}{K:PySem.W.Frag}{h:Heap}{mg:Str→Option Value}{fa:Addr}(X:K.In h)(G:h.Ns mainGlobals mg)(hfa:mg "law" = some (.ref fa))
  {cRow:Addr}
  {cMerge:Addr}
  (aCRow:#[Xns,K,"Row",cRow]) (pgRow:PySem.W.plainGet K cRow Str.empty=true) (hdRow:PySem.W.hasDictIn K cRow=true) (poRow:PySem.W.plainOver K cRow=true) (saRow:PySem.W.findIn K (.ref cRow) "__setattr__" = some (some (.builtin "object.__setattr__"))) (mkRow:PySem.W.makesIn K cRow=true) (kcRow:#[Xki,K,cRow])
  (nARow_all_keys:PySem.W.findIn K (.ref cRow) "all_keys" = some none)
  (nARow_fars:PySem.W.findIn K (.ref cRow) "fars" = some none)
  (nARow_gone:PySem.W.findIn K (.ref cRow) "gone" = some none)
  (aCMerge:#[Xns,K,"Merge",cMerge]) (pgMerge:PySem.W.plainGet K cMerge Str.empty=true) (hdMerge:PySem.W.hasDictIn K cMerge=true) (poMerge:PySem.W.plainOver K cMerge=true) (saMerge:PySem.W.findIn K (.ref cMerge) "__setattr__" = some (some (.builtin "object.__setattr__"))) (mkMerge:PySem.W.makesIn K cMerge=true) (kcMerge:#[Xki,K,cMerge])
  (nAMerge_best:PySem.W.findIn K (.ref cMerge) "best" = some none)
  (nAMerge_likened:PySem.W.findIn K (.ref cMerge) "likened" = some none)
  (nAMerge_looked:PySem.W.findIn K (.ref cMerge) "looked" = some none)
  (nAMerge_next_number:PySem.W.findIn K (.ref cMerge) "next_number" = some none)
  (nAMerge_rows:PySem.W.findIn K (.ref cMerge) "rows" = some none)
  (nAMerge_stays:PySem.W.findIn K (.ref cMerge) "stays" = some none)
  (a0:#[Xns,K,"is_number",f0]) (l0:#[Xlk,K,f0,oc0,od0,"is_number","is_number",Zbk,kV0,dc0,pm0,an0,cd0,ct0,sl0]) (c0:#[Xci,K,cd0,"is_number"]) (k0:#[Xki,K,f0])
  (a1:#[Xns,K,"near_plan",f1]) (l1:#[Xlk,K,f1,oc1,od1,"near_plan","near_plan",Zbj,kV1,dc1,pm1,an1,cd1,ct1,sl1]) (c1:#[Xci,K,cd1,"near_plan"]) (k1:#[Xki,K,f1])
  (a2:#[Xns,K,"least_groves",f2]) (l2:#[Xlk,K,f2,oc2,od2,"least_groves","least_groves",ZaP,kV2,dc2,pm2,an2,cd2,ct2,sl2]) (c2:#[Xci,K,cd2,"least_groves"]) (k2:#[Xki,K,f2])
  (a3:#[Xns,K,"least_tree",f3]) (l3:#[Xlk,K,f3,oc3,od3,"least_tree","least_tree",Zbf,kV3,dc3,pm3,an3,cd3,ct3,sl3]) (c3:#[Xci,K,cd3,"least_tree"]) (k3:#[Xki,K,f3])
  (a4:#[Xns,K,"least_grove",f4]) (l4:#[Xlk,K,f4,oc4,od4,"least_grove","least_grove",ZaY,kV4,dc4,pm4,an4,cd4,ct4,sl4]) (c4:#[Xci,K,cd4,"least_grove"]) (k4:#[Xki,K,f4])
  (a5:#[Xns,K,"least_cut",f5]) (l5:#[Xlk,K,f5,oc5,od5,"least_cut","least_cut",Za6,kV5,dc5,pm5,an5,cd5,ct5,sl5]) (c5:#[Xci,K,cd5,"least_cut"]) (k5:#[Xki,K,f5])
  (a6:#[Xns,K,"alike",f6]) (l6:#[Xlk,K,f6,oc6,od6,"alike","alike",Zdw,kV6,dc6,pm6,an6,cd6,ct6,sl6]) (c6:#[Xci,K,cd6,"alike"]) (k6:#[Xki,K,f6])
  (a7:#[Xns,K,"liken",f7]) (l7:#[Xlk,K,f7,oc7,od7,"liken","liken",Zde,kV7,dc7,pm7,an7,cd7,ct7,sl7]) (c7:#[Xci,K,cd7,"liken"]) (k7:#[Xki,K,f7])
  (a8:#[Xns,K,"liken_from",f8]) (l8:#[Xlk,K,f8,oc8,od8,"liken_from","liken_from",Zbc,kV8,dc8,pm8,an8,cd8,ct8,sl8]) (c8:#[Xci,K,cd8,"liken_from"]) (k8:#[Xki,K,f8])
  (a9:#[Xns,K,"alike_from",f9]) (l9:#[Xlk,K,f9,oc9,od9,"alike_from","alike_from",Zba,kV9,dc9,pm9,an9,cd9,ct9,sl9]) (c9:#[Xci,K,cd9,"alike_from"]) (k9:#[Xki,K,f9])
  (a10:#[Xns,K,"order_at",f10]) (l10:#[Xlk,K,f10,oc10,od10,"order_at","order_at",ZbJ,kV10,dc10,pm10,an10,cd10,ct10,sl10]) (c10:#[Xci,K,cd10,"order_at"]) (k10:#[Xki,K,f10])
  (a11:#[Xns,K,"runs_of",f11]) (l11:#[Xlk,K,f11,oc11,od11,"runs_of","runs_of",Zbt,kV11,dc11,pm11,an11,cd11,ct11,sl11]) (c11:#[Xci,K,cd11,"runs_of"]) (k11:#[Xki,K,f11])
  (a12:#[Xns,K,"run_behind",f12]) (l12:#[Xlk,K,f12,oc12,od12,"run_behind","run_behind",Zbd,kV12,dc12,pm12,an12,cd12,ct12,sl12]) (c12:#[Xci,K,cd12,"run_behind"]) (k12:#[Xki,K,f12])
  (a13:#[Xns,K,"halves",f13]) (l13:#[Xlk,K,f13,oc13,od13,"halves","halves",Zcz,kV13,dc13,pm13,an13,cd13,ct13,sl13]) (c13:#[Xci,K,cd13,"halves"]) (k13:#[Xki,K,f13])
  (a14:#[Xns,K,"way_up",f14]) (l14:#[Xlk,K,f14,oc14,od14,"way_up","way_up",ZcL,kV14,dc14,pm14,an14,cd14,ct14,sl14]) (c14:#[Xci,K,cd14,"way_up"]) (k14:#[Xki,K,f14])
  (a15:#[Xns,K,"first_break",f15]) (l15:#[Xlk,K,f15,oc15,od15,"first_break","first_break",ZaZ,kV15,dc15,pm15,an15,cd15,ct15,sl15]) (c15:#[Xci,K,cd15,"first_break"]) (k15:#[Xki,K,f15])
  (a16:#[Xns,K,"alikes",f16]) (l16:#[Xlk,K,f16,oc16,od16,"alikes","alikes",ZcG,kV16,dc16,pm16,an16,cd16,ct16,sl16]) (c16:#[Xci,K,cd16,"alikes"]) (k16:#[Xki,K,f16])
  (a17:#[Xns,K,"refuse_break",f17]) (l17:#[Xlk,K,f17,oc17,od17,"refuse_break","refuse_break",ZaO,kV17,dc17,pm17,an17,cd17,ct17,sl17]) (c17:#[Xci,K,cd17,"refuse_break"]) (k17:#[Xki,K,f17])
  (a18:#[Xns,K,"matches_up",f18]) (l18:#[Xlk,K,f18,oc18,od18,"matches_up","matches_up",Zbe,kV18,dc18,pm18,an18,cd18,ct18,sl18]) (c18:#[Xci,K,cd18,"matches_up"]) (k18:#[Xki,K,f18])
  (a19:#[Xns,K,"merged",f19]) (l19:#[Xlk,K,f19,oc19,od19,"merged","merged",ZbZ,kV19,dc19,pm19,an19,cd19,ct19,sl19]) (c19:#[Xci,K,cd19,"merged"]) (k19:#[Xki,K,f19])
  (a20:#[Xns,K,"how_many",f20]) (l20:#[Xlk,K,f20,oc20,od20,"how_many","how_many",Zbh,kV20,dc20,pm20,an20,cd20,ct20,sl20]) (c20:#[Xci,K,cd20,"how_many"]) (k20:#[Xki,K,f20])
  (a21:#[Xns,K,"merged_by",f21]) (l21:#[Xlk,K,f21,oc21,od21,"merged_by","merged_by",Zam,kV21,dc21,pm21,an21,cd21,ct21,sl21]) (c21:#[Xci,K,cd21,"merged_by"]) (k21:#[Xki,K,f21])
  (a22:#[Xns,K,"sort_by",f22]) (l22:#[Xlk,K,f22,oc22,od22,"sort_by","sort_by",Zbs,kV22,dc22,pm22,an22,cd22,ct22,sl22]) (c22:#[Xci,K,cd22,"sort_by"]) (k22:#[Xki,K,f22])
  (a23:#[Xns,K,"_law_mix",f23]) (l23:#[Xlk,K,f23,oc23,od23,"_law_mix","_law_mix",Zdj,kV23,dc23,pm23,an23,cd23,ct23,sl23]) (c23:#[Xci,K,cd23,"_law_mix"]) (k23:#[Xki,K,f23])
  (a24:#[Xns,K,"_law_left",f24]) (l24:#[Xlk,K,f24,oc24,od24,"_law_left","_law_left",Zcp,kV24,dc24,pm24,an24,cd24,ct24,sl24]) (c24:#[Xci,K,cd24,"_law_left"]) (k24:#[Xki,K,f24])
  (a25:#[Xns,K,"_law_pick",f25]) (l25:#[Xlk,K,f25,oc25,od25,"_law_pick","_law_pick",ZcE,kV25,dc25,pm25,an25,cd25,ct25,sl25]) (c25:#[Xci,K,cd25,"_law_pick"]) (k25:#[Xki,K,f25])
  (a26:#[Xns,K,"_law_stems",f26]) (l26:#[Xlk,K,f26,oc26,od26,"_law_stems","_law_stems",Zbw,kV26,dc26,pm26,an26,cd26,ct26,sl26]) (c26:#[Xci,K,cd26,"_law_stems"]) (k26:#[Xki,K,f26])
  (a27:#[Xns,K,"_law_key",f27]) (l27:#[Xlk,K,f27,oc27,od27,"_law_key","_law_key",ZcA,kV27,dc27,pm27,an27,cd27,ct27,sl27]) (c27:#[Xci,K,cd27,"_law_key"]) (k27:#[Xki,K,f27])
  (a28:#[Xns,K,"_law_things",f28]) (l28:#[Xlk,K,f28,oc28,od28,"_law_things","_law_things",ZbG,kV28,dc28,pm28,an28,cd28,ct28,sl28]) (c28:#[Xci,K,cd28,"_law_things"]) (k28:#[Xki,K,f28])
  (a29:#[Xns,K,"_law_room",f29]) (l29:#[Xlk,K,f29,oc29,od29,"_law_room","_law_room",Zco,kV29,dc29,pm29,an29,cd29,ct29,sl29]) (c29:#[Xci,K,cd29,"_law_room"]) (k29:#[Xki,K,f29])
  (a30:#[Xns,K,"_law_is_number",f30]) (l30:#[Xlk,K,f30,oc30,od30,"_law_is_number","_law_is_number",Za1,kV30,dc30,pm30,an30,cd30,ct30,sl30]) (c30:#[Xci,K,cd30,"_law_is_number"]) (k30:#[Xki,K,f30])
  (a31:#[Xns,K,"_law_cost_right",f31]) (l31:#[Xlk,K,f31,oc31,od31,"_law_cost_right","_law_cost_right",ZaN,kV31,dc31,pm31,an31,cd31,ct31,sl31]) (c31:#[Xci,K,cd31,"_law_cost_right"]) (k31:#[Xki,K,f31])
  (a32:#[Xns,K,"law",f32]) (l32:#[Xlk,K,f32,oc32,od32,"law","law",Zcm,kV32,dc32,pm32,an32,cd32,ct32,sl32]) (c32:#[Xci,K,cd32,"law"]) (k32:#[Xki,K,f32])
  (a33:#[Xfi,K,cRow,"__init__",f33]) (i33:#[Xif,K,f33]) (l33:#[Xlk,K,f33,oc33,od33,"__init__","Row.__init__",Za0,kV33,dc33,pm33,an33,cd33,ct33,sl33]) (c33:#[Xci,K,cd33,"Row.__init__"]) (k33:#[Xki,K,f33])
  (a34:#[Xfi,K,cRow,"to_go",f34]) (i34:#[Xif,K,f34]) (l34:#[Xlk,K,f34,oc34,od34,"to_go","Row.to_go",ZaK,kV34,dc34,pm34,an34,cd34,ct34,sl34]) (c34:#[Xci,K,cd34,"Row.to_go"]) (k34:#[Xki,K,f34])
  (a35:#[Xfi,K,cRow,"head",f35]) (i35:#[Xif,K,f35]) (l35:#[Xlk,K,f35,oc35,od35,"head","Row.head",ZaV,kV35,dc35,pm35,an35,cd35,ct35,sl35]) (c35:#[Xci,K,cd35,"Row.head"]) (k35:#[Xki,K,f35])
  (a36:#[Xfi,K,cMerge,"__init__",f36]) (i36:#[Xif,K,f36]) (l36:#[Xlk,K,f36,oc36,od36,"__init__","Merge.__init__",Zau,kV36,dc36,pm36,an36,cd36,ct36,sl36]) (c36:#[Xci,K,cd36,"Merge.__init__"]) (k36:#[Xki,K,f36])
  (a37:#[Xfi,K,cMerge,"coming",f37]) (i37:#[Xif,K,f37]) (l37:#[Xlk,K,f37,oc37,od37,"coming","Merge.coming",Zab,kV37,dc37,pm37,an37,cd37,ct37,sl37]) (c37:#[Xci,K,cd37,"Merge.coming"]) (k37:#[Xki,K,f37])
  (a38:#[Xfi,K,cMerge,"take",f38]) (i38:#[Xif,K,f38]) (l38:#[Xlk,K,f38,oc38,od38,"take","Merge.take",Zat,kV38,dc38,pm38,an38,cd38,ct38,sl38]) (c38:#[Xci,K,cd38,"Merge.take"]) (k38:#[Xki,K,f38])
  (a39:#[Xfi,K,cMerge,"take_few",f39]) (i39:#[Xif,K,f39]) (l39:#[Xlk,K,f39,oc39,od39,"take_few","Merge.take_few",ZV,kV39,dc39,pm39,an39,cd39,ct39,sl39]) (c39:#[Xci,K,cd39,"Merge.take_few"]) (k39:#[Xki,K,f39])
  (a40:#[Xfi,K,cMerge,"looks",f40]) (i40:#[Xif,K,f40]) (l40:#[Xlk,K,f40,oc40,od40,"looks","Merge.looks",ZaE,kV40,dc40,pm40,an40,cd40,ct40,sl40]) (c40:#[Xci,K,cd40,"Merge.looks"]) (k40:#[Xki,K,f40])
  (a41:#[Xfi,K,cMerge,"play_all",f41]) (i41:#[Xif,K,f41]) (l41:#[Xlk,K,f41,oc41,od41,"play_all","Merge.play_all",ZZ,kV41,dc41,pm41,an41,cd41,ct41,sl41]) (c41:#[Xci,K,cd41,"Merge.play_all"]) (k41:#[Xki,K,f41])
  (a42:#[Xfi,K,cMerge,"play",f42]) (i42:#[Xif,K,f42]) (l42:#[Xlk,K,f42,oc42,od42,"play","Merge.play",Zax,kV42,dc42,pm42,an42,cd42,ct42,sl42]) (c42:#[Xci,K,cd42,"Merge.play"]) (k42:#[Xki,K,f42])
  (a43:#[Xfi,K,cMerge,"send_out",f43]) (i43:#[Xif,K,f43]) (l43:#[Xlk,K,f43,oc43,od43,"send_out","Merge.send_out",ZW,kV43,dc43,pm43,an43,cd43,ct43,sl43]) (c43:#[Xci,K,cd43,"Merge.send_out"]) (k43:#[Xki,K,f43])
  (a44:#[Xfi,K,cMerge,"play_again",f44]) (i44:#[Xif,K,f44]) (l44:#[Xlk,K,f44,oc44,od44,"play_again","Merge.play_again",ZN,kV44,dc44,pm44,an44,cd44,ct44,sl44]) (c44:#[Xci,K,cd44,"Merge.play_again"]) (k44:#[Xki,K,f44])
  (a45:#[Xfi,K,cMerge,"meet",f45]) (i45:#[Xif,K,f45]) (l45:#[Xlk,K,f45,oc45,od45,"meet","Merge.meet",Zas,kV45,dc45,pm45,an45,cd45,ct45,sl45]) (c45:#[Xci,K,cd45,"Merge.meet"]) (k45:#[Xki,K,f45])
  (z0:PySem.W.nsIn K mainGlobals "abs" = some none) (z1:PySem.W.nsIn K mainGlobals "bool" = some none) (z2:PySem.W.nsIn K mainGlobals "enumerate" = some none) (z3:PySem.W.nsIn K mainGlobals "int" = some none) (z4:PySem.W.nsIn K mainGlobals "isinstance" = some none) (z5:PySem.W.nsIn K mainGlobals "len" = some none) (z6:PySem.W.nsIn K mainGlobals "list" = some none) (z7:PySem.W.nsIn K mainGlobals "max" = some none) (z8:PySem.W.nsIn K mainGlobals "min" = some none) (z9:PySem.W.nsIn K mainGlobals "range" = some none) (z10:PySem.W.nsIn K mainGlobals "sorted" = some none) (z11:PySem.W.nsIn K mainGlobals "sum" = some none) :
  ∃fd:FuncData,(∀ (s:Shared) (v:Value),BindsTo s fd ⟨[v],[]⟩ [("_law_script",v)])∧∀base:Heap,K.In base→base.Ns mainGlobals mg→ZdT l.prog w K mg base CX0 90 fa fd ["_law_script"] (Zj0 K):=by
 have e:=hfa.symm.trans (PySem.W.mg_of X G a32)
 cases e
 have T:Zaj K mg cRow cMerge:=⟨⟨QR X G z0,QR X G z1,QR X G z2,QR X G z3,QR X G z4,QR X G z5,QR X G z6,QR X G z7,QR X G z8,QR X G z9,QR X G z10,QR X G z11⟩,ZQ X G a0 l0 c0 k0 (fun _ _ _ _ _ _ us hl=>by obtain⟨_,rfl⟩:=ZdQ us hl;exact rfl),ZQ X G a1 l1 c1 k1 (fun _ _ _ _ _ _ us hl=>by obtain⟨_,_,rfl⟩:=Zdf us hl;exact rfl),ZQ X G a2 l2 c2 k2 (fun _ _ _ _ _ _ us hl=>by obtain⟨_,_,rfl⟩:=Zdf us hl;exact rfl),ZQ X G a3 l3 c3 k3 (fun _ _ _ _ _ _ us hl=>match us,hl with|[_,_,_,_,_],_=>rfl),ZQ X G a4 l4 c4 k4 (fun _ _ _ _ _ _ us hl=>match us,hl with|[_,_,_,_,_],_=>rfl),ZQ X G a5 l5 c5 k5 (fun _ _ _ _ _ _ us hl=>by obtain⟨_,_,_,_,rfl⟩:=Zre us hl;exact rfl),ZQ X G a6 l6 c6 k6 (fun _ _ _ _ _ _ us hl=>by obtain⟨_,_,rfl⟩:=Zdf us hl;exact rfl),ZQ X G a7 l7 c7 k7 (fun _ _ _ _ _ _ us hl=>by obtain⟨_,_,rfl⟩:=Zdf us hl;exact rfl),ZQ X G a8 l8 c8 k8 (fun _ _ _ _ _ _ us hl=>by obtain⟨_,_,_,rfl⟩:=Zhz us hl;exact rfl),ZQ X G a9 l9 c9 k9 (fun _ _ _ _ _ _ us hl=>by obtain⟨_,_,_,rfl⟩:=Zhz us hl;exact rfl),ZQ X G a10 l10 c10 k10 (fun _ _ _ _ _ _ us hl=>by obtain⟨_,_,_,rfl⟩:=Zhz us hl;exact rfl),ZQ X G a11 l11 c11 k11 (fun _ _ _ _ _ _ us hl=>by obtain⟨_,_,rfl⟩:=Zdf us hl;exact rfl),ZQ X G a12 l12 c12 k12 (fun _ _ _ _ _ _ us hl=>by obtain⟨_,_,_,rfl⟩:=Zhz us hl;exact rfl),ZQ X G a13 l13 c13 k13 (fun _ _ _ _ _ _ us hl=>by obtain⟨_,rfl⟩:=ZdQ us hl;exact rfl),ZQ X G a14 l14 c14 k14 (fun _ _ _ _ _ _ us hl=>by obtain⟨_,_,rfl⟩:=Zdf us hl;exact rfl),ZQ X G a15 l15 c15 k15 (fun _ _ _ _ _ _ us hl=>by obtain⟨_,rfl⟩:=ZdQ us hl;exact rfl),ZQ X G a16 l16 c16 k16 (fun _ _ _ _ _ _ us hl=>by obtain⟨_,rfl⟩:=ZdQ us hl;exact rfl),ZQ X G a17 l17 c17 k17 (fun _ _ _ _ _ _ us hl=>by obtain⟨_,_,rfl⟩:=Zdf us hl;exact rfl),ZQ X G a18 l18 c18 k18 (fun _ _ _ _ _ _ us hl=>by obtain⟨_,_,rfl⟩:=Zdf us hl;exact rfl),ZQ X G a19 l19 c19 k19 (fun _ _ _ _ _ _ us hl=>by obtain⟨_,rfl⟩:=ZdQ us hl;exact rfl),ZQ X G a20 l20 c20 k20 (fun _ _ _ _ _ _ us hl=>by obtain⟨_,rfl⟩:=ZdQ us hl;exact rfl),ZQ X G a21 l21 c21 k21 (fun _ _ _ _ _ _ us hl=>by obtain⟨_,_,_,rfl⟩:=Zhz us hl;exact rfl),ZQ X G a22 l22 c22 k22 (fun _ _ _ _ _ _ us hl=>by obtain⟨_,_,_,rfl⟩:=Zhz us hl;exact rfl),ZQ X G a23 l23 c23 k23 (fun _ _ _ _ _ _ us hl=>by obtain⟨_,_,rfl⟩:=Zdf us hl;exact rfl),ZQ X G a24 l24 c24 k24 (fun _ _ _ _ _ _ us hl=>by obtain⟨_,_,rfl⟩:=Zdf us hl;exact rfl),ZQ X G a25 l25 c25 k25 (fun _ _ _ _ _ _ us hl=>by obtain⟨_,_,rfl⟩:=Zdf us hl;exact rfl),ZQ X G a26 l26 c26 k26 (fun _ _ _ _ _ _ us hl=>by obtain⟨_,rfl⟩:=ZdQ us hl;exact rfl),ZQ X G a27 l27 c27 k27 (fun _ _ _ _ _ _ us hl=>by obtain⟨_,_,rfl⟩:=Zdf us hl;exact rfl),ZQ X G a28 l28 c28 k28 (fun _ _ _ _ _ _ us hl=>by obtain⟨_,rfl⟩:=ZdQ us hl;exact rfl),ZQ X G a29 l29 c29 k29 (fun _ _ _ _ _ _ us hl=>by obtain⟨_,rfl⟩:=ZdQ us hl;exact rfl),ZQ X G a30 l30 c30 k30 (fun _ _ _ _ _ _ us hl=>by obtain⟨_,rfl⟩:=ZdQ us hl;exact rfl),ZQ X G a31 l31 c31 k31 (fun _ _ _ _ _ _ us hl=>by obtain⟨_,_,_,rfl⟩:=Zhz us hl;exact rfl),⟨_,_,ZY (st:=Za0) l33 c33 k33,⟨mkRow,a33,i33,kcRow⟩,(ZY (st:=Za0) l33 c33 k33).binds (ps:=["self", "keys"]) (fun _ _ _ _ _ _ us hl=>by obtain⟨_,_,rfl⟩:=Zdf us hl;exact rfl),PySem.W.mg_of X G aCRow⟩,⟨_,_,ZY (st:=ZaK) l34 c34 k34,⟨a34,i34,k34⟩,(ZY (st:=ZaK) l34 c34 k34).binds (ps:=["self"]) (fun _ _ _ _ _ _ us hl=>by obtain⟨_,rfl⟩:=ZdQ us hl;exact rfl)⟩,⟨_,_,ZY (st:=ZaV) l35 c35 k35,⟨a35,i35,k35⟩,(ZY (st:=ZaV) l35 c35 k35).binds (ps:=["self"]) (fun _ _ _ _ _ _ us hl=>by obtain⟨_,rfl⟩:=ZdQ us hl;exact rfl)⟩,⟨_,_,ZY (st:=Zau) l36 c36 k36,⟨mkMerge,a36,i36,kcMerge⟩,(ZY (st:=Zau) l36 c36 k36).binds (ps:=["self", "rows"]) (fun _ _ _ _ _ _ us hl=>by obtain⟨_,_,rfl⟩:=Zdf us hl;exact rfl),PySem.W.mg_of X G aCMerge⟩,⟨_,_,ZY (st:=Zab) l37 c37 k37,⟨a37,i37,k37⟩,(ZY (st:=Zab) l37 c37 k37).binds (ps:=["self"]) (fun _ _ _ _ _ _ us hl=>by obtain⟨_,rfl⟩:=ZdQ us hl;exact rfl)⟩,⟨_,_,ZY (st:=Zat) l38 c38 k38,⟨a38,i38,k38⟩,(ZY (st:=Zat) l38 c38 k38).binds (ps:=["self"]) (fun _ _ _ _ _ _ us hl=>by obtain⟨_,rfl⟩:=ZdQ us hl;exact rfl)⟩,⟨_,_,ZY (st:=ZV) l39 c39 k39,⟨a39,i39,k39⟩,(ZY (st:=ZV) l39 c39 k39).binds (ps:=["self", "many"]) (fun _ _ _ _ _ _ us hl=>by obtain⟨_,_,rfl⟩:=Zdf us hl;exact rfl)⟩,⟨_,_,ZY (st:=ZaE) l40 c40 k40,⟨a40,i40,k40⟩,(ZY (st:=ZaE) l40 c40 k40).binds (ps:=["self"]) (fun _ _ _ _ _ _ us hl=>by obtain⟨_,rfl⟩:=ZdQ us hl;exact rfl)⟩,⟨_,_,ZY (st:=ZZ) l41 c41 k41,⟨a41,i41,k41⟩,(ZY (st:=ZZ) l41 c41 k41).binds (ps:=["self"]) (fun _ _ _ _ _ _ us hl=>by obtain⟨_,rfl⟩:=ZdQ us hl;exact rfl)⟩,⟨_,_,ZY (st:=Zax) l42 c42 k42,⟨a42,i42,k42⟩,(ZY (st:=Zax) l42 c42 k42).binds (ps:=["self", "numbers"]) (fun _ _ _ _ _ _ us hl=>by obtain⟨_,_,rfl⟩:=Zdf us hl;exact rfl)⟩,⟨_,_,ZY (st:=ZW) l43 c43 k43,⟨a43,i43,k43⟩,(ZY (st:=ZW) l43 c43 k43).binds (ps:=["self", "number"]) (fun _ _ _ _ _ _ us hl=>by obtain⟨_,_,rfl⟩:=Zdf us hl;exact rfl)⟩,⟨_,_,ZY (st:=ZN) l44 c44 k44,⟨a44,i44,k44⟩,(ZY (st:=ZN) l44 c44 k44).binds (ps:=["self", "meeting", "comer"]) (fun _ _ _ _ _ _ us hl=>by obtain⟨_,_,_,rfl⟩:=Zhz us hl;exact rfl)⟩,⟨_,_,ZY (st:=Zas) l45 c45 k45,⟨a45,i45,k45⟩,(ZY (st:=Zas) l45 c45 k45).binds (ps:=["self", "one", "other", "far"]) (fun _ _ _ _ _ _ us hl=>by obtain⟨_,_,_,_,rfl⟩:=Zre us hl;exact rfl)⟩,⟨pgRow,hdRow,poRow,saRow⟩,nARow_all_keys,nARow_fars,nARow_gone,⟨pgMerge,hdMerge,poMerge,saMerge⟩,nAMerge_best,nAMerge_likened,nAMerge_looked,nAMerge_next_number,nAMerge_rows,nAMerge_stays⟩
 exact⟨PySem.W.fnOf "law" "law" (Zq Zcm) (Zm Zcm) (Zg Zcm) .none kV32 dc32 pm32 an32 cd32 ct32,fun s v=>.of_eq rfl,fun base _ _=>Zps (ZY (st:=Zcm) l32 c32 k32) T⟩
theorem walk{l:PySem.W.OpenLaw}{q:Program}{loose:List Str}{XP:(Str→Option Value)→Heap→Prop}{YP:World→Heap→Prop}{d:DefRec}{K:Params→PySem.W.Frag}(hn:l.most=some 63)(hdf:d.params.defaults=[])
  (hY:∀ (w:World) (h:Heap),YP w h→(K w.params).In h)
  (F:∀ (w:World) (mg:Str→Option Value) (fa:Addr) (h:Heap),(K w.params).In h→h.Ns mainGlobals mg→mg d.name=some (.ref fa) →
   ∃fd:FuncData,(∀ (s:Shared) (u:Value),BindsTo s fd ⟨[u],[]⟩ [("_law_script",u)])∧∀base:Heap,(K w.params).In base→base.Ns mainGlobals mg→ZdT l.prog w (K w.params) mg base CX0 90 fa fd ["_law_script"] (Zj0 (K w.params))) :
  PySem.W.WalkO q loose XP YP l.row.toRowW d [] (fun f vs=>PySem.call f vs) :=
 L2.walk_of (n:=63) (k:=90) (x := "_law_script") (CX:=fun _=>CX0) (sp:=fun w=>Zj0 (K w.params)) hn (by decide) hdf ⟨rfl,by decide,by decide,rfl⟩ hY F (fun _ _ a ns hl _ hS=>⟨a,ns,rfl,hS,hl,fun _=>rfl⟩) fun _ _ _ _ _ z=>z
end My
open PySem PySem.W PyProof.Rows
namespace PySem.W.Fast
def tw9245532213407020514:=0
def tw16351655962000616771:=0
def tw13203376994163703812:=0
def tw12996869675724701030:=0
def tw18099865074534684679:=0
def tw11725657294301604359:=0
def tw10272610015014233481:=0
def tw10515333824816825036:=0
def tw17062652433779156494:=0
def tw1759192440070563119:=0
def tw8682226212402159568:=0
def tw12762150265877584400:=0
def tw4634121609756403728:=0
def tw13935295390274766673:=0
def tw2995006041114374930:=0
def tw1969254777540247924:=0
def tw6630066306145252662:=0
def tw3442152278381260632:=0
def tw10387401568486967481:=0
def tw9300129138413649470:=0
def tw6873231787610107045:=0
def tw16304926985843019229:=0
def tw12802826912804460929:=0
def tw7835507345157633305:=0
def tw5641342026631537599:=0
def tw1862216884391837803:=0
def tw14219439598096764740:=0
def tw5409722538527622863:=0
def tw9817611660522816262:=0
def tw10385199808352526252:=0
def tw1376589324894411454:=0
def tw14811868047934938085:=0
def tw6475595595320321002:=0
def tw5962132111647825629:=0
def tw5701405660391935615:=0
def tw11710194345077071316:=0
def tw8195490649744895738:=0
def tw3031618551158405177:=0
def tw18116729187233803329:=0
def tw7527007201140822460:=0
def tw10573514970373237761:=0
def tw5042243542361886944:=0
def tw16782908366789441962:=0
def tw2958345879262717464:=0
def tw7766512161942554783:=0
def tw12398299758584559744:=0
def tw17001807329324607632:=0
def tw627319005387555498:=0
def tw12678304985804231932:=0
def tw18201649279404250582:=0
def tw3063311226706549203:=0
def tw15719408861493744526:=0
def tw180159064065436836:=0
def tw5554887517590456307:=0
def tw12947424506943160678:=0
def tw16145796927057874226:=0
def tw4797161268420462909:=0
def tw614188786260685490:=0
def tw1103078249737850261:=0
def tw13265477277320757084:=0
def tw15862775817478817639:=0
def tw6802963443515263873:=0
def tw16654273814748265145:=0
def tw8334910412242896256:=0
def tw15358455944137762495:=0
def tw8636990563431789919:=0
def tw6143190129869049503:=0
def tw14787473836131308671:=0
def tw2533471631744710639:=0
def tw10928764194826046030:=0
def tw18211321677185400875:=0
def tw17811291901626096512:=0
def tw10803252894913706133:=0
def tw11126718883942896816:=0
def tw17645601393484402629:=0
def tw16431372898987442104:=0
def tw6701915773636890267:=0
def tw11745772871431111309:=0
def tw2351137733804874828:=0
def tw3847624117371021229:=0
def tw10015961426603727508:=0
def tw16123989467892776865:=0
def tw17015922595730444081:=0
def tw6037567369503890980:=0
def tw8818810286013319343:=0
def tw17876198853087205093:=0
def tw2821230109613206222:=0
def tw1834141701889203492:=0
def tw16210152316752434387:=0
def tw11634819707811898516:=0
def tw1980658973247125418:=0
def tw17764891423865667587:=0
def tw7376256167677588528:=0
def tw17850094831393726279:=0
def tw5062298788873714793:=0
def tw7816548865560437766:=0
def tw10858751932854328260:=0
def tw10049112024553489626:=0
def tw5420602531095133479:=0
def tw13104187595436770428:=0
def tw11915544574947907817:=0
def tw14436364217610612883:=0
def tw2672908985576093353:=0
def tw2798014278937346682:=0
def tw872816771031053663:=0
def tw12394154735463213777:=0
def tw8892857001011743024:=0
def tw1330402050459202010:=0
def tw12319408380233129644:=0
def tw15229811868385132730:=0
def tw7014539107594560513:=0
def tw18007911709896006085:=0
def tw15272003990340153450:=0
def tw11108705670203704933:=0
def tw10429102481656239670:=0
def tw7356395691462292333:=0
def tw9521934657686572619:=0
def tw18000446273134144589:=0
def tw10844105098307102604:=0
def tw11986422366207778735:=0
def tw5654880780786749188:=0
def tw17014798233954781470:=0
def tw14596325668391264134:=0
def tw8026072344305172169:=0
def tw8889774961471279749:=0
def tw3381281933021218680:=0
def tw17971701654770106475:=0
def tw17117102608870407540:=0
def tw13008788036850920155:=0
def tw3056103420128869967:=0
def tw7370505832148088703:=0
def tw17411908820901546581:=0
def tw1901332585871643193:=0
def tw13383541123506835416:=0
def tw14230858076522393254:=0
def tw4597876238314242581:=0
def tw1431701159157239168:=0
def tw17755529823291188353:=0
def tw4385830122048252778:=0
def tw2232911373300466288:=0
def tw17558777048977537906:=0
def tw6960590726896485141:=0
def tw4407752532197879087:=0
def tw17993691521922536109:=0
def tw222789088885709717:=0
def tw16757606092548398910:=0
def tw5732339449077545631:=0
def tw6436477811842077174:=0
def tw8854297820070849265:=0
def tw5065947172657299323:=0
def tw17886644754358371927:=0
def tw13703200338542164262:=0
def tw2538654652184933375:=0
def tw13933152763466204751:=0
def tw10493397389011143534:=0
def tw140806670195758551:=0
def tw17265169277211106652:=0
def tw12666934129167570733:=0
def tw8420874379845994973:=0
def tw16190685471086433988:=0
def tw7901164829353133482:=0
def tw7700515796685806024:=0
def tw3235880954108271852:=0
def tw16481551230799002948:=0
def tw10936276451843483240:=0
def tw302634217663823857:=0
def tw11134111674151638833:=0
def tw15157211602616769506:=0
def tw3072545241186059714:=0
def tw6964107547967808235:=0
def tw1507095007755794306:=0
def tw2915374478037721536:=0
def tw6833532934298027995:=0
def tw860826582677610409:=0
def tw16374993081801624201:=0
def tw12770781603561303945:=0
def tw13352850705349514644:=0
def tw18336690443252434980:=0
def tw9824739103480488245:=0
def tw6363645446019047151:=0
def tw17337911874101005257:=0
def tw2701631415798079879:=0
def tw3846112230011922788:=0
def tw10307272686845869549:=0
def tw16375521286105930243:=0
def tw9926283093079182620:=0
def tw3794610312864261436:=0
def tw11483299988968505160:=0
def tw14168656645959279629:=0
def tw6799968178395739138:=0
def tw2099978633394417536:=0
def tw7204894305081406066:=0
def tw10872202649776693274:=0
def tw13931387741751776774:=0
def tw2341698152894575455:=0
def tw8190374331663887097:=0
def tw17445497102870209401:=0
def tw13513884060476666772:=0
def tw5606019107884806951:=0
def tw13590346183983167021:=0
def tw6601305394218680551:=0
def tw12074612360723641572:=0
def tw17124177066239848794:=0
def tw14686882521095742756:=0
def tw15942799993444551787:=0
def tw16660689685653598762:=0
def tw9845494828990126408:=0
def tw4222711230058801772:=0
def tw2543614466701471738:=0
def tw13237392045560636560:=0
def tw8936168160506533648:=0
def tw16889867252852945:=0
def tw17520496891117064645:=0
def tw14741685599360679943:=0
def tw16095391465019260432:=0
def tw14712071254927673341:=0
def tw3690816142592344889:=0
def tw4495253789381550617:=0
def tw11055079589516482671:=0
def tw5008547840766804132:=0
def tw10833675911829401541:=0
def tw401202411688340140:=0
def tw11497730946037086807:=0
def tw10181303045069054598:=0
def tw8183386366625588127:=0
def tw18302370496483637211:=0
def tw5269868120860476246:=0
def tw7851969852808879053:=0
def tw3888708074124533372:=0
def tw11829559680017250466:=0
def tw11839353441225747283:=0
def tw7871418117023752855:=0
def tw3440174455460502409:=0
def tw18055069440779416444:=0
def tw5967159012164271476:=0
def tw14186631063377822554:=0
def tw7003748836172637959:=0
def tw7317314411701425725:=0
def tw3230754991326831393:=0
def tw3099416179601330886:=0
def tw3064566900627170103:=0
def tw15963159642607757834:=0
def tw15912935427719249873:=0
def tw5677570332374288005:=0
def tw15056010612074931291:=0
def tw16943818338234202882:=0
def tw6623427177387414525:=0
def tw17144809289810855906:=0
def tw1905285911066680716:=0
def tw16294369861649667832:=0
def tw36588351234368515:=0
def tw12209013785484032338:=0
def tw15676661826912220892:=0
def tw3373075267516314919:=0
def tw15156468686065075235:=0
def tw120412202407046763:=0
def tw6459635394867135445:=0
def tw12828141239477152564:=0
def tw9470719045431659974:=0
def tw13945544498265584251:=0
def tw6565459662833215087:=0
def tw13281727441764780741:=0
def tw15074669954925169094:=0
def tw15395687139871893721:=0
def tw9693302382777646800:=0
def tw9501874306851267091:=0
def tw6994620426788890852:=0
def tw17699393307739225028:=0
def tw13274381965285028277:=0
def tw12772790478420581026:=0
def tw2580645818634276572:=0
def tw14513074860443808376:=0
def tw13344608544242722314:=0
def tw12584651713858088353:=0
def tw15701857458904512347:=0
def tw1895493391596954113:=0
def tw6159021882777875725:=0
def tw12946333148831913931:=0
def tw12878857724728342747:=0
def tw7224921650402476451:=0
def tw2417975530588023393:=0
def tw13548549035724900484:=0
def tw1918281308177775573:=0
def tw4018683670564434032:=0
def tw14693950851836618869:=0
def tw13534215115923296721:=0
def tw15550362195108746742:=0
def tw13563705589252838628:=0
def tw3926785078258281298:=0
def tw13010785080902775247:=0
def tw3692633058743385466:=0
def tw4039122605054207993:=0
def tw11163177363395277092:=0
def tw16434273364961843232:=0
def tw2731973834656518882:=0
def tw12390352783152782218:=0
def tw2747805418764745249:=0
def tw1400864459435153742:=0
def tw11912151313305418000:=0
def tw10543401934823383027:=0
def tw3568631942840701875:=0
def tw10405100723717109725:=0
def tw1479281847189339952:=0
def tw3256271993311452029:=0
def tw9313971929983216180:=0
def tw4342403256711499539:=0
def tw4045000456596730374:=0
def tw17566512735937326964:=0
def tw7460457171678331913:=0
def tw14947609145884534632:=0
def tw13970913161417559737:=0
def tw15427639487453200807:=0
def tw4111251335440980538:=0
def tw8222713854672411499:=0
def tw16919251519258928230:=0
def tw8146448102070115166:=0
def tw12947680140380412176:=0
def tw5405924261270117061:=0
def tw13845845983979208669:=0
def tw15760160125306277861:=0
def tw5750826616104221158:=0
def tw3545353018215931881:=0
def tw9471605674308214673:=0
def tw8213239291147277084:=0
def tw11474589577010530564:=0
def tw1950344406533890374:=0
def tw5097203219881922291:=0
def tw16772770886931945701:=0
def tw4500313069139759766:=0
def tw10996426602845154674:=0
def tw2411554729575679443:=0
def tw3679129187285847962:=0
def tw8716445754325207098:=0
def tw15553606425254771538:=0
def tw16592030409133801131:=0
def tw2740362009526733854:=0
def tw6503455873597797583:=0
def tw12959133384203096269:=0
def tw10347626603790690697:=0
def tw5937455260408669419:=0
def tw9379649067349981273:=0
def tw16240106413134580023:=0
def tw16848229651433829627:=0
def tw14751954816517602828:=0
def tw15426525940519842712:=0
def tw1048656197117894235:=0
def tw6605818318479534200:=0
def tw1948020956406185093:=0
def tw8637169770958700244:=0
def tw2711842380231411865:=0
def tw9596973463656832658:=0
def tw6586130406082095806:=0
def tw13819758269629918380:=0
def tw9685180066945723556:=0
def tw144013223530548012:=0
def tw9455218122721074600:=0
def tw309043848795885100:=0
def tw7300826413480703124:=0
def tw8420042847975766012:=0
def tw18308809175156504698:=0
def tw6031164341183152571:=0
def tw4459439590217375354:=0
def tw12198180114039946664:=0
def tw3812003734034502376:=0
def tw9312117697008343080:=0
def tw13685993271903949832:=0
def tw2876329256740729465:=0
def tw5454537315747657065:=0
def tw10933430374042895974:=0
def tw11021671452943499126:=0
def tw9389045963491836851:=0
def tw2624213363992749559:=0
def tw14839229100240552918:=0
def tw11308190966337914247:=0
def tw14003307985564799005:=0
def tw12856577629004922042:=0
def tw10016909927141995202:=0
def tw1816291677573905639:=0
def tw7555307259113034052:=0
def tw6175582197774380720:=0
def tw15756584985506113258:=0
def tw9674173768999363925:=0
def tw5896597302666784089:=0
def tw1293309188157986768:=0
def tw10924698601009444458:=0
def tw10442890453500042178:=0
def tw2714542446107473628:=0
def tw2161233401413852825:=0
def tw4347373612814227235:=0
def tw12017269876014880912:=0
def tw7437202913062531307:=0
def tw5240281484599413247:=0
def tw7563864417704457892:=0
def tw6630576698585730117:=0
def tw17710511662113443600:=0
def tw12494990077903418131:=0
def tw11108990802217881284:=0
def tw951617305002330152:=0
def tw6224914487837973764:=0
def tw2586470802862935262:=0
def tw17288322549360736887:=0
def tw10978143554386982030:=0
def tw14350732262412517579:=0
def tw12473839896166069743:=0
def tw4478425105508546556:=0
def tw988682489724888746:=0
def tw12462813594528000845:=0
def tw6291558116209190252:=0
def tw9173361921892606327:=0
def tw8444168282242327333:=0
def tw11713674446860263541:=0
def tw2219876858488225146:=0
def tw15703275268392829441:=0
def tw8468282607584258792:=0
def tw4317898268971953667:=0
def tw4423286143928444787:=0
def tw10127459543131441450:=0
def tw11284259811627368063:=0
def tw12034794759413832361:=0
def tw16349207747404681314:=0
def tw13269833059867682507:=0
def tw86928819740293718:=0
def tw349067649728844368:=0
def tw17145801539035938200:=0
def tw17862432350849532160:=0
def tw13394187264176127837:=0
def tw14833375353518510160:=0
def tw1660503796844109428:=0
def tw12844288336139095668:=0
def tw11646004423276207671:=0
def tw7733900588271317829:=0
def tw6511638196036290038:=0
def tw15384796192172654894:=0
def tw1671071049982945167:=0
def tw2346746409298930988:=0
def tw16293862707674654190:=0
def tw4225647566156143725:=0
def tw12017331578457439793:=0
def tw1548049851809306371:=0
def tw741755979253062122:=0
def tw1203240691291758443:=0
def tw9327292230865595290:=0
def tw12720783450954443925:=0
def tw11132651677161665958:=0
def tw7165549218930770177:=0
def tw4229287605391443377:=0
def tw8771461816669060361:=0
def tw18037838946574814089:=0
def tw15204016108420141415:=0
def tw6389126772558174992:=0
def tw13997080792613350713:=0
def tw17562425056537890451:=0
def tw13493480291132689587:=0
def tw10987703569410650639:=0
def tw8214910266758585586:=0
def tw17578143966125250757:=0
def tw1206222035992732891:=0
def tw3820387236482607594:=0
def tw8306163285497310076:=0
def tw3102805661759917098:=0
def tw14391132899369062206:=0
end PySem.W.Fast
set_option maxRecDepth 100000 in
set_option maxHeartbeats 0 in
theorem PySem.Challenge.cw_mergetree_k49_what_sorts_cost_holds : PySem.Challenge.rw_mergetree_k49_what_sorts_cost.Holds := by
 w_on;o_law;k_head;(case hw=>w_witness2)
 k_fill
 refine My.walk (l:=PySem.Challenge.rw_mergetree_k49_what_sorts_cost) rfl rfl (fun w h Y=>PySem.W.kIn_of Y) ?F
 case F =>
  intro w mg fa h KX G hmg
  refine' My.all_mk KX G hmg ?aCRow ?pgRow ?hdRow ?poRow ?saRow ?mkRow ?kcRow ?nARow_all_keys ?nARow_fars ?nARow_gone ?aCMerge ?pgMerge ?hdMerge ?poMerge ?saMerge ?mkMerge ?kcMerge ?nAMerge_best ?nAMerge_likened ?nAMerge_looked ?nAMerge_next_number ?nAMerge_rows ?nAMerge_stays ?a0 ?l0 ?c0 ?k0 ?a1 ?l1 ?c1 ?k1 ?a2 ?l2 ?c2 ?k2 ?a3 ?l3 ?c3 ?k3 ?a4 ?l4 ?c4 ?k4 ?a5 ?l5 ?c5 ?k5 ?a6 ?l6 ?c6 ?k6 ?a7 ?l7 ?c7 ?k7 ?a8 ?l8 ?c8 ?k8 ?a9 ?l9 ?c9 ?k9 ?a10 ?l10 ?c10 ?k10 ?a11 ?l11 ?c11 ?k11 ?a12 ?l12 ?c12 ?k12 ?a13 ?l13 ?c13 ?k13 ?a14 ?l14 ?c14 ?k14 ?a15 ?l15 ?c15 ?k15 ?a16 ?l16 ?c16 ?k16 ?a17 ?l17 ?c17 ?k17 ?a18 ?l18 ?c18 ?k18 ?a19 ?l19 ?c19 ?k19 ?a20 ?l20 ?c20 ?k20 ?a21 ?l21 ?c21 ?k21 ?a22 ?l22 ?c22 ?k22 ?a23 ?l23 ?c23 ?k23 ?a24 ?l24 ?c24 ?k24 ?a25 ?l25 ?c25 ?k25 ?a26 ?l26 ?c26 ?k26 ?a27 ?l27 ?c27 ?k27 ?a28 ?l28 ?c28 ?k28 ?a29 ?l29 ?c29 ?k29 ?a30 ?l30 ?c30 ?k30 ?a31 ?l31 ?c31 ?k31 ?a32 ?l32 ?c32 ?k32 ?a33 ?i33 ?l33 ?c33 ?k33 ?a34 ?i34 ?l34 ?c34 ?k34 ?a35 ?i35 ?l35 ?c35 ?k35 ?a36 ?i36 ?l36 ?c36 ?k36 ?a37 ?i37 ?l37 ?c37 ?k37 ?a38 ?i38 ?l38 ?c38 ?k38 ?a39 ?i39 ?l39 ?c39 ?k39 ?a40 ?i40 ?l40 ?c40 ?k40 ?a41 ?i41 ?l41 ?c41 ?k41 ?a42 ?i42 ?l42 ?c42 ?k42 ?a43 ?i43 ?l43 ?c43 ?k43 ?a44 ?i44 ?l44 ?c44 ?k44 ?a45 ?i45 ?l45 ?c45 ?k45 ?z0 ?z1 ?z2 ?z3 ?z4 ?z5 ?z6 ?z7 ?z8 ?z9 ?z10 ?z11
  (case aCRow=>k_is)
  (case pgRow=>k_is)
  (case hdRow=>k_is)
  (case poRow=>k_is)
  (case saRow=>k_is)
  (case mkRow=>k_is)
  (case kcRow=>k_is)
  (case nARow_all_keys=>k_is)
  (case nARow_fars=>k_is)
  (case nARow_gone=>k_is)
  (case aCMerge=>k_is)
  (case pgMerge=>k_is)
  (case hdMerge=>k_is)
  (case poMerge=>k_is)
  (case saMerge=>k_is)
  (case mkMerge=>k_is)
  (case kcMerge=>k_is)
  (case nAMerge_best=>k_is)
  (case nAMerge_likened=>k_is)
  (case nAMerge_looked=>k_is)
  (case nAMerge_next_number=>k_is)
  (case nAMerge_rows=>k_is)
  (case nAMerge_stays=>k_is)
  (case a0|l0|c0|k0=>k_is)
  (case a1|l1|c1|k1=>k_is)
  (case a2|l2|c2|k2=>k_is)
  (case a3|l3|c3|k3=>k_is)
  (case a4|l4|c4|k4=>k_is)
  (case a5|l5|c5|k5=>k_is)
  (case a6|l6|c6|k6=>k_is)
  (case a7|l7|c7|k7=>k_is)
  (case a8|l8|c8|k8=>k_is)
  (case a9|l9|c9|k9=>k_is)
  (case a10|l10|c10|k10=>k_is)
  (case a11|l11|c11|k11=>k_is)
  (case a12|l12|c12|k12=>k_is)
  (case a13|l13|c13|k13=>k_is)
  (case a14|l14|c14|k14=>k_is)
  (case a15|l15|c15|k15=>k_is)
  (case a16|l16|c16|k16=>k_is)
  (case a17|l17|c17|k17=>k_is)
  (case a18|l18|c18|k18=>k_is)
  (case a19|l19|c19|k19=>k_is)
  (case a20|l20|c20|k20=>k_is)
  (case a21|l21|c21|k21=>k_is)
  (case a22|l22|c22|k22=>k_is)
  (case a23|l23|c23|k23=>k_is)
  (case a24|l24|c24|k24=>k_is)
  (case a25|l25|c25|k25=>k_is)
  (case a26|l26|c26|k26=>k_is)
  (case a27|l27|c27|k27=>k_is)
  (case a28|l28|c28|k28=>k_is)
  (case a29|l29|c29|k29=>k_is)
  (case a30|l30|c30|k30=>k_is)
  (case a31|l31|c31|k31=>k_is)
  (case a32|l32|c32|k32=>k_is)
  (case a33|i33|l33|c33|k33=>k_is)
  (case a34|i34|l34|c34|k34=>k_is)
  (case a35|i35|l35|c35|k35=>k_is)
  (case a36|i36|l36|c36|k36=>k_is)
  (case a37|i37|l37|c37|k37=>k_is)
  (case a38|i38|l38|c38|k38=>k_is)
  (case a39|i39|l39|c39|k39=>k_is)
  (case a40|i40|l40|c40|k40=>k_is)
  (case a41|i41|l41|c41|k41=>k_is)
  (case a42|i42|l42|c42|k42=>k_is)
  (case a43|i43|l43|c43|k43=>k_is)
  (case a44|i44|l44|c44|k44=>k_is)
  (case a45|i45|l45|c45|k45=>k_is)
  (case z0=>k_is)
  (case z1=>k_is)
  (case z2=>k_is)
  (case z3=>k_is)
  (case z4=>k_is)
  (case z5=>k_is)
  (case z6=>k_is)
  (case z7=>k_is)
  (case z8=>k_is)
  (case z9=>k_is)
  (case z10=>k_is)
  (case z11=>k_is)
